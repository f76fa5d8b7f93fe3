/- What these functions return: facts on lists and numbers. -/
import Derived.Test.YtneefkifalbplaaGreatRexG10
import Derived.Test.YtneefkifalbplaaGreatS
import Derived.Test.YtneefkifalbplaaGreatRexG11
import Derived.ProofKit
import Derived.OpenShut
import Derived.ShutString
import Derived.ChangeOld
import Derived.Below
import Derived.Lib.SmallJoins
import Derived.ChangeShapes
import Derived.ChangeArms
import Derived.WideShapes
set_option linter.unusedSimpArgs false
set_option linter.unusedVariables false
set_option linter.defProp false
set_option linter.unusedSectionVars false
namespace Go.Rex
open Go.RowKit
structure FOk(f:Ieee.Format)(q:Nat):Prop where
 lp:f.leastPlace = -(q:Int)
 le:f.fractionBits+1≤q
 inf:(q+2)*f.binade≤f.infRung
 sgn:f.infRung<f.signWeight
def fq:FloatKind→Nat
 | .f32=>149
 | .f64=>1074
def fb:FloatKind→Nat
 | .f32=>23
 | .f64=>52
theorem fok(k:FloatKind):FOk k.format (fq k):=by
 cases k<;>exact⟨by decide,by decide,by decide +kernel,by decide +kernel⟩
theorem aDA(k:FloatKind):k.format.fractionBits=fb k:=by cases k<;>rfl
theorem Po(n:Nat)(neg:Bool):Ieee.Toward.cut .even neg n 0=n:=by
 simp[Ieee.Toward.cut,Nat.mod_one]
theorem shl(m s:Nat):m <<< s=m*2^s:=Nat.shiftLeft_eq m s
theorem Gf{m:Nat}(hm:m≠0)(s:Nat):(m*2^s).log2=m.log2+s:=by
 rw[Nat.log2_eq_iff (by have:=j0 s;exact Nat.mul_ne_zero hm (by omega))]
 have h1:=(Nat.log2_eq_iff hm).1 rfl
 constructor
 ·rw[l4];exact g7 _ h1.1
 ·rw[show m.log2+s+1=m.log2+1+s by omega,l4];exact Nat.mul_lt_mul_of_pos_right h1.2 (j0 s)
theorem nT{m:Nat}(hm:m≠0)(neg:Bool){s d:Nat}(hd:d≤s)(way:Ieee.Toward):way.cut neg (m*2^s) d=m*2^(s-d):=by
 have hg:min d ((m*2^s).log2+2)=d:=by rw[Gf hm];omega
 have e:m*2^s=2^d*(m*2^(s-d)):=by
  rw[i8 (2^d),Nat.mul_assoc,← l4,Nat.sub_add_cancel hd]
 have hp:=j0 d
 unfold Ieee.Toward.cut
 rw[hg,shl,Nat.one_mul,e]
 dsimp only
 rw[Nat.mul_div_cancel_left _ hp,Nat.mul_mod_right]
 have:(2^d==0)=false:=by simp
 cases way<;>simp[this]
theorem yT(neg:Bool){d:Nat}(way:Ieee.Toward):way.cut neg 0 d=0:=by
 unfold Ieee.Toward.cut
 have hp:0<1 <<< min d ((0:Nat).log2+2):=by rw[shl,Nat.one_mul];exact j0 _
 have:(1 <<< min d ((0:Nat).log2+2)==0)=false:=by rw[beq_eq_false_iff_ne];omega
 cases way<;>simp[this]
theorem log2_lt{m b:Nat}(hm:m≠0)(h:m<2^(b+1)):m.log2≤b:=by
 have:=(Nat.log2_lt hm).2 h
 omega
theorem Nc{f:Ieee.Format}{q:Nat}(ok:FOk f q){m:Nat}(hm:m≠0)(hl:m<2^(f.fractionBits+1))(neg:Bool)(s:Nat) :
 f.nearest neg (m*2^s) (-(s:Int))=f.word neg ((q+m.log2-f.fractionBits)*f.binade+m*2^(f.fractionBits-m.log2)):=by
 have hL:=log2_lt hm hl
 have hle:=ok.le
 unfold Ieee.Format.nearest
 rw[b6 (by have:=j0 s;exact Nat.mul_ne_zero hm (by omega)),Gf hm,ok.lp]
 have e1:max (-(s:Int)+((m.log2+s:Nat):Int)-(f.fractionBits:Int)) (-(q:Int))=(m.log2:Int)-f.fractionBits:=by omega
 rw[e1]
 have kept:Ieee.Toward.even.cut neg ((m*2^s) <<< (-(s:Int)-((m.log2:Int)-f.fractionBits)).toNat) ((m.log2:Int)-f.fractionBits - -(s:Int)).toNat=m*2^(f.fractionBits-m.log2):=by
  rcases d5 (f.fractionBits-m.log2) s with h|h
  ·have a1:(-(s:Int)-((m.log2:Int)-f.fractionBits)).toNat=0:=by omega
   rw[a1,shl,l8,k9,nT hm neg (by omega)]
   congr 2;omega
  ·have a1:(-(s:Int)-((m.log2:Int)-f.fractionBits)).toNat=f.fractionBits-m.log2-s:=by omega
   have a2:((m.log2:Int)-f.fractionBits - -(s:Int)).toNat=0:=by omega
   rw[a1,a2,Po,shl,Nat.mul_assoc,← l4]
   congr 2;omega
 dsimp only
 rw[kept]
 have a3:((m.log2:Int)-f.fractionBits - -(q:Int)).toNat=q+m.log2-f.fractionBits:=by omega
 rw[a3]
 have hk:m*2^(f.fractionBits-m.log2)<2*f.binade:=by
  have h1:=(Nat.log2_eq_iff hm).1 rfl
  have h2:=Nat.mul_lt_mul_of_pos_right h1.2 (j0 (f.fractionBits-m.log2))
  rw[← l4] at h2
  rw[show m.log2+1+(f.fractionBits-m.log2)=f.fractionBits+1 by omega] at h2
  unfold Ieee.Format.binade
  rw[k5] at h2
  omega
 have hi:=ok.inf
 have hq:(q+m.log2-f.fractionBits)*f.binade≤q*f.binade:=g7 _ (by omega)
 rw[Nat.add_mul] at hi
 rw[Nat.min_eq_left (by omega)]
def digs(f:Ieee.Format)(q m:Nat):Nat:=if m=0 then q else f.fractionBits-m.log2
theorem Vz{f:Ieee.Format}{q:Nat}(ok:FOk f q){m:Nat}(hl:m<2^(f.fractionBits+1))(neg:Bool):f.read (f.nearest neg m 0) = .number neg (m*2^digs f q m) (-(digs f q m:Int)):=by
 have hle:=ok.le
 have hsg:=ok.sgn
 have hinf:=ok.inf
 have hbp:0<f.binade:=j0 _
 have wd:∀ r,r<f.signWeight→(f.word neg r/f.signWeight%2==1)=neg∧f.word neg r%f.signWeight=r:=by
  intro r hr
  unfold Ieee.Format.word
  cases neg
  ·simp[Nat.div_eq_of_lt hr,Nat.mod_eq_of_lt hr]
  ·have hs:0<f.signWeight:=by omega
   simp only[if_true]
   rw[Nat.add_div_left _ hs,Nat.div_eq_of_lt hr,Nat.add_mod_left,g6 hr]
   simp
 rw[Nat.add_mul] at hinf
 have hq0:2*f.binade≤f.infRung:=by omega
 by_cases hm:m=0
 ·subst hm
  have:f.nearest neg 0 0=f.word neg 0:=by unfold Ieee.Format.nearest;simp
  rw[this]
  unfold Ieee.Format.read
  simp only[(wd 0 (by omega)).1,(wd 0 (by omega)).2]
  rw[a9 hbp,ok.lp]
  simp[digs]
 ·have h0:=Nc ok hm hl neg 0
  simp only[Nat.pow_zero,Nat.mul_one,Int.natCast_zero,Int.neg_zero] at h0
  rw[h0]
  have hL:=log2_lt hm hl
  have h1:=(Nat.log2_eq_iff hm).1 rfl
  have hk:m*2^(f.fractionBits-m.log2)<2*f.binade:=by
   have h2:=Nat.mul_lt_mul_of_pos_right h1.2 (j0 (f.fractionBits-m.log2))
   rw[← l4] at h2
   rw[show m.log2+1+(f.fractionBits-m.log2)=f.fractionBits+1 by omega] at h2
   unfold Ieee.Format.binade
   rw[k5] at h2
   omega
  have hk2:f.binade≤m*2^(f.fractionBits-m.log2):=by
   have h2:=g7 (2^(f.fractionBits-m.log2)) h1.1
   rw[← l4] at h2
   rw[show m.log2+(f.fractionBits-m.log2)=f.fractionBits by omega] at h2
   exact h2
  generalize hK:m*2^(f.fractionBits-m.log2)=K at *
  obtain⟨j,hj⟩:∃ j,K=f.binade+j:=⟨K-f.binade,by omega⟩
  subst hj
  have hjb:j<f.binade:=by omega
  have hq:(q+m.log2-f.fractionBits)*f.binade≤q*f.binade:=g7 _ (by omega)
  have hr:(q+m.log2-f.fractionBits)*f.binade+(f.binade+j)<f.infRung:=by omega
  have hrs:(q+m.log2-f.fractionBits)*f.binade+(f.binade+j)<f.signWeight:=by omega
  unfold Ieee.Format.read
  simp only[(wd _ hrs).1,(wd _ hrs).2]
  rw[b6 (by omega),a9 hr]
  have e1:(q+m.log2-f.fractionBits)*f.binade+(f.binade+j)=f.binade*(q+m.log2-f.fractionBits+1)+j:=by
   rw[Nat.mul_add,i8];omega
  rw[e1,Nat.mul_add_mod,g6 hjb,Nat.mul_add_div hbp,Nat.div_eq_of_lt hjb,ok.lp]
  unfold digs
  rw[b6 hm,hK]
  congr 1
  omega
def sg(s:Bool)(m:Nat):Int:=if s then -(m:Int) else m
theorem xE(s:Bool)(m u:Nat):Ieee.signed s m u=sg s m*2^u:=by
 unfold Ieee.signed sg
 rw[shl]
 cases s<;>simp[Int.neg_mul]
def fz(k:FloatKind)(s:Bool)(m:Nat):Nat:=k.encode (.number s m 0)
def ffit(k:FloatKind)(m:Nat):Prop:=m<2^(fb k+1)
def dg(k:FloatKind)(m:Nat):Nat:=digs k.format (fq k) m
theorem aBm{k:FloatKind}{s:Bool}{m:Nat}(h:ffit k m):k.format.read (fz k s m) = .number s (m*2^dg k m) (-(dg k m:Int)):=
 Vz (fok k) (by rw[aDA];exact h) s
theorem Su(s:Bool)(m n:Nat):sg s (m*n)=sg s m*n:=by cases s<;>simp[sg,Int.neg_mul]
theorem yR(s:Bool)(m:Nat):(sg s m).natAbs=m:=by cases s<;>simp[sg]
theorem aC6{op:BinOp}{k:FloatKind}{a b r:Nat}(h:farith0 op k a b=some r):farith op k a b=some r:=by
 unfold farith arN
 rw[h]
 rfl
end Go.Rex
open Go Go.Rex
namespace Go.Rex
set_option maxRecDepth 100000
theorem dbl:Ieee.double.fractionBits=52∧Ieee.double.leastPlace = -1074∧Ieee.double.binade=2^52∧Ieee.double.infRung=2047*Ieee.double.binade∧Ieee.double.signWeight=2048*Ieee.double.binade:=by decide +kernel
theorem Kv{m:Nat}(hm:m≠0)(hl:m<2^53)(neg:Bool)(a:Nat){e p:Int}(hp:p=e-a)(h1:-1074≤e+m.log2-52)(h2:e+m.log2≤1023) :
 Ieee.double.nearest neg (m*2^a) p=Ieee.double.word neg ((1074+e+m.log2-52).toNat*Ieee.double.binade+m*2^(52-m.log2)):=by
 subst hp
 have hL:=log2_lt hm hl
 unfold Ieee.Format.nearest
 rw[b6 (by have:=j0 a;exact Nat.mul_ne_zero hm (by omega)),Gf hm,dbl.1,dbl.2.1]
 have e1:max (e-(a:Int)+((m.log2+a:Nat):Int)-((52:Nat):Int)) (-1074)=e+(m.log2:Int)-52:=by omega
 rw[e1]
 have kept:Ieee.Toward.even.cut neg ((m*2^a) <<< (e-(a:Int)-(e+(m.log2:Int)-52)).toNat) (e+(m.log2:Int)-52-(e-(a:Int))).toNat=m*2^(52-m.log2):=by
  rcases d5 (52-m.log2) a with h|h
  ·have a1:(e-(a:Int)-(e+(m.log2:Int)-52)).toNat=0:=by omega
   rw[a1,shl,l8,k9,nT hm neg (by omega)]
   congr 2;omega
  ·have a1:(e-(a:Int)-(e+(m.log2:Int)-52)).toNat=52-m.log2-a:=by omega
   have a2:(e+(m.log2:Int)-52-(e-(a:Int))).toNat=0:=by omega
   rw[a1,a2,Po,shl,Nat.mul_assoc,← l4]
   congr 2;omega
 dsimp only
 rw[kept]
 have a3:(e+(m.log2:Int)-52 - -1074).toNat=(1074+e+m.log2-52).toNat:=by omega
 rw[a3]
 have hk:m*2^(52-m.log2)<2*Ieee.double.binade:=by
  have h1:=(Nat.log2_eq_iff hm).1 rfl
  have h2:=Nat.mul_lt_mul_of_pos_right h1.2 (j0 (52-m.log2))
  rw[← l4] at h2
  rw[show m.log2+1+(52-m.log2)=53 by omega] at h2
  rw[dbl.2.2.1]
  omega
 rw[dbl.2.2.2.1]
 generalize Ieee.double.binade=B at hk ⊢
 rw[Nat.min_eq_left (by
  have:(1074+e+(m.log2:Int)-52).toNat≤2045:=by omega
  have:=g7 B this
  omega)]
theorem wd(neg:Bool)(r:Nat)(hr:r<Ieee.double.signWeight):(Ieee.double.word neg r/Ieee.double.signWeight%2==1)=neg∧Ieee.double.word neg r%Ieee.double.signWeight=r:=by
 unfold Ieee.Format.word
 cases neg
 ·simp[Nat.div_eq_of_lt hr,Nat.mod_eq_of_lt hr]
 ·have hs:0<Ieee.double.signWeight:=by omega
  simp only[if_true]
  rw[Nat.add_div_left _ hs,Nat.div_eq_of_lt hr,Nat.add_mod_left,g6 hr]
  simp
theorem Ud{m:Nat}(hm:m≠0)(hl:m<2^53)(neg:Bool){e:Int}(h1:-1074≤e+m.log2-52)(h2:e+m.log2≤1023) :
 Ieee.double.read (Ieee.double.nearest neg m e) = .number neg (m*2^(52-m.log2)) (e-((52-m.log2:Nat):Int)):=by
 have h0:=Kv hm hl neg 0 (e:=e) (p:=e) (by simp) h1 h2
 rw[l8,k9] at h0
 rw[h0]
 have hL:=log2_lt hm hl
 have hh:=(Nat.log2_eq_iff hm).1 rfl
 have hB:=dbl.2.2.1
 have hk:m*2^(52-m.log2)<2*Ieee.double.binade:=by
  have h2:=Nat.mul_lt_mul_of_pos_right hh.2 (j0 (52-m.log2))
  rw[← l4] at h2
  rw[show m.log2+1+(52-m.log2)=53 by omega] at h2
  rw[hB]
  omega
 have hk2:Ieee.double.binade≤m*2^(52-m.log2):=by
  have h2:=g7 (2^(52-m.log2)) hh.1
  rw[← l4] at h2
  rw[show m.log2+(52-m.log2)=52 by omega] at h2
  rw[hB]
  exact h2
 have hB0:0<Ieee.double.binade:=by rw[hB];decide
 generalize hK:m*2^(52-m.log2)=K at *
 obtain⟨j,hj⟩:∃ j,K=Ieee.double.binade+j:=⟨K-Ieee.double.binade,by omega⟩
 subst hj
 obtain⟨q,hq⟩:∃ q:Nat,(1074+e+(m.log2:Int)-52).toNat=q:=⟨_,rfl⟩
 rw[hq]
 have hq2:q≤2045:=by omega
 have hqb:=g7 Ieee.double.binade hq2
 have hr:q*Ieee.double.binade+(Ieee.double.binade+j)<Ieee.double.signWeight:=by
  rw[dbl.2.2.2.2]
  omega
 unfold Ieee.Format.read
 simp only[(wd neg _ hr).1,(wd neg _ hr).2]
 rw[dbl.2.2.2.1,dbl.2.1]
 generalize Ieee.double.binade=B at *
 rw[b6 (by omega),a9 (by omega)]
 have e1:q*B+(B+j)=B*(q+1)+j:=by rw[Nat.mul_add,i8];omega
 have hjb:j<B:=by omega
 rw[e1,Nat.mul_add_mod,g6 hjb,Nat.mul_add_div hB0,Nat.div_eq_of_lt hjb]
 congr 1
 omega
theorem Bo(neg:Bool)(p:Int):Ieee.double.nearest neg 0 p=Ieee.double.word neg 0:=by
 unfold Ieee.Format.nearest
 simp
theorem Sf(neg:Bool):Ieee.double.read (Ieee.double.word neg 0) = .number neg 0 (-1074):=by
 cases neg<;>decide +kernel
def NV(s:Bool)(m:Nat)(e:Int)(x:Int):Prop:=(0≤e∧sg s m*2^e.toNat=x)∨(e<0∧sg s m=x*2^(-e).toNat)
theorem nQ(a b:Nat):(2:Int)^(a+b)=2^a*2^b:=Int.pow_add ..
theorem NV.at{s:Bool}{m:Nat}{e x:Int}(h:NV s m e x){b:Int}(hb:b≤e)(hb0:b≤0):sg s m*2^(e-b).toNat=x*2^(-b).toNat:=by
 rcases h with⟨h0,h1⟩|⟨h0,h1⟩
 ·rw[show (e-b).toNat=e.toNat+(-b).toNat by omega,nQ,← Int.mul_assoc,h1]
 ·rw[h1,show (-b).toNat=(-e).toNat+(e-b).toNat by omega,nQ,Int.mul_assoc]
theorem NV.of{s:Bool}{m:Nat}{e x b:Int}(hb:b≤e)(hb0:b≤0)(h:sg s m*2^(e-b).toNat=x*2^(-b).toNat):NV s m e x:=by
 have hp:∀ k:Nat,(0:Int)<2^k:=fun k=>Int.pow_pos (by decide)
 by_cases he:0≤e
 ·left
  refine⟨he,?_⟩
  rw[show (e-b).toNat=e.toNat+(-b).toNat by omega,nQ,← Int.mul_assoc] at h
  exact Int.eq_of_mul_eq_mul_right (Int.ne_of_gt (hp _)) h
 ·right
  refine⟨by omega,?_⟩
  rw[show (-b).toNat=(-e).toNat+(e-b).toNat by omega,nQ,← Int.mul_assoc] at h
  exact Int.eq_of_mul_eq_mul_right (Int.ne_of_gt (hp _)) h
theorem Ja(a b:Int)(k:Nat):compare (a*2^k) (b*2^k)=compare a b:=by
 have hp:(0:Int)<2^k:=Int.pow_pos (by decide)
 have key:∀ a b:Int,a*2^k<b*2^k↔a<b:=fun a b=>Int.mul_lt_mul_right hp
 simp only[compare,compareOfLessAndEq,key]
 have:(a*2^k=b*2^k)↔a=b:=Int.mul_eq_mul_right_iff (by omega)
 simp only[this]
theorem rU{s t:Bool}{m n:Nat}{i j b:Int}(hi:b≤i)(hj:b≤j):Ieee.Datum.order (.number s m i) (.number t n j)=some (compare (sg s m*2^(i-b).toNat) (sg t n*2^(j-b).toNat)):=by
 simp only[Ieee.Datum.order,xE]
 congr 1
 rw[show (i-b).toNat=(i-min i j).toNat+(min i j-b).toNat by omega,show (j-b).toNat=(j-min i j).toNat+(min i j-b).toNat by omega,nQ,nQ,← Int.mul_assoc,← Int.mul_assoc,Ja]
theorem oM{s t:Bool}{m n:Nat}{i j x y:Int}(h:NV s m i x)(g:NV t n j y):Ieee.Datum.order (.number s m i) (.number t n j)=some (compare x y):=by
 have hb:min (min i j) 0≤i∧min (min i j) 0≤j∧min (min i j) 0≤0:=by omega
 rw[rU hb.1 hb.2.1,h.at hb.1 hb.2.2,g.at hb.2.1 hb.2.2,Ja]
theorem Zo{s t:Bool}{m n:Nat}{i j y:Int}(g:NV t n j y)(h:Ieee.Datum.order (.number s m i) (.number t n j)=some .eq):NV s m i y:=by
 have hb:min (min i j) 0≤i∧min (min i j) 0≤j∧min (min i j) 0≤0:=by omega
 rw[rU hb.1 hb.2.1,g.at hb.2.1 hb.2.2,Option.some.injEq,Int.compare_eq_eq] at h
 exact NV.of hb.1 hb.2.2 h
theorem NV.shift{s:Bool}{m:Nat}{e x:Int}(a:Nat):NV s (m*2^a) (e-a) x↔NV s m e x:=by
 have hb:min (e-a) 0≤e∧min (e-a) 0≤e-a∧min (e-a) 0≤0:=by omega
 have key:sg s (m*2^a)*2^(e-a-min (e-a) 0).toNat=sg s m*2^(e-min (e-a) 0).toNat:=by
  rw[Su,Int.mul_assoc,Int.natCast_pow]
  congr 1
  show (2:Int)^a*2^_=_
  rw[← nQ]
  congr 1
  omega
 constructor
 ·intro h
  exact NV.of hb.1 hb.2.2 (by rw[← key];exact h.at hb.2.1 hb.2.2)
 ·intro h
  exact NV.of hb.2.1 hb.2.2 (by rw[key];exact h.at hb.1 hb.2.2)
end Go.Rex
open Go Go.Rex
namespace Go.Rex
set_option maxRecDepth 100000
def MOk(m:Nat)(e:Int):Prop:=(m=0∧e = -149)∨(m≠0∧m<2^24∧-149≤e∧e≤104)
theorem sng:Ieee.single.leastPlace = -149∧Ieee.single.binade=2^23∧Ieee.single.infRung=255*2^23:=by decide +kernel
theorem Jb(b:Nat):(∃ s t,Ieee.single.read b = .nan s t)∨(∃ s,Ieee.single.read b = .infinity s)∨(∃ s m e,Ieee.single.read b = .number s m e∧MOk m e):=by
 unfold Ieee.Format.read
 simp only[sng.1,sng.2.1,sng.2.2]
 generalize b%Ieee.single.signWeight=r
 generalize (b/Ieee.single.signWeight%2==1)=s
 split
 ·rename_i h
  refine .inr (.inr ⟨_,_,_,rfl,?_⟩)
  by_cases h0:r=0
  ·exact .inl ⟨h0,rfl⟩
  ·exact .inr ⟨h0,by omega,by omega,by omega⟩
 ·split
  ·refine .inr (.inr ⟨_,_,_,rfl,.inr ⟨by omega,?_,by omega,by omega⟩⟩)
   have:=i9 r (show 0<2^23 by decide)
   omega
  ·split
   ·exact .inr (.inl ⟨_,rfl⟩)
   ·exact .inl ⟨_,_,rfl⟩
theorem Hp{m:Nat}(hm:m≠0)(hl:m<2^53)(neg:Bool)(a:Nat){e p:Int}(hp:p=e-a)(h1:-1074≤e+m.log2-52)(h2:e+m.log2≤1023):Ieee.double.nearest neg (m*2^a) p=Ieee.double.nearest neg m e:=by
 rw[Kv hm hl neg a hp h1 h2]
 have:=Kv hm hl neg 0 (e:=e) (p:=e) (by simp) h1 h2
 rw[l8,k9] at this
 exact this.symm
theorem Xh(s:Bool)(m:Nat)(e:Int):∃ r,Ieee.double.nearest s m e=Ieee.double.word s r∧r≤Ieee.double.infRung:=by
 unfold Ieee.Format.nearest
 split
 ·exact⟨0,rfl,j3 _⟩
 ·exact⟨_,rfl,Nat.min_le_right _ _⟩
theorem Um{m:Nat}{e:Int}(h:m≠0∧m<2^24∧-149≤e∧e≤104):-1074≤e+m.log2-52∧e+m.log2≤1023∧m<2^53:=by
 have:m.log2≤23:=log2_lt h.1 h.2.1
 exact⟨by omega,by omega,by omega⟩
structure Dbl(s:Bool)(m:Nat)(e:Int)(v M:Nat)(E:Int):Prop where
 nr:v=Ieee.double.nearest s m e
 rd:Ieee.double.read v = .number s M E
 nv:∀ x,NV s M E x↔NV s m e x
 lt:M<2^53
 hi:E≤104
 sh:(m=0∧M=0∧E = -1074)∨∃ t:Nat,m≠0∧M=m*2^t∧E=e-t
theorem Ff{s:Bool}{m:Nat}{e:Int}(h:MOk m e):∃ M E,Dbl s m e (Ieee.double.nearest s m e) M E:=by
 rcases h with⟨rfl,rfl⟩|h
 ·refine⟨0,-1074,rfl,by rw[Bo];exact Sf s,fun x=>?_,by decide,by decide,.inl ⟨rfl,rfl,rfl⟩⟩
  have e0:sg s 0=0:=by cases s<;>rfl
  have hp:∀ k:Nat,(2:Int)^k≠0:=fun k=>Int.ne_of_gt (Int.pow_pos (by decide))
  unfold NV
  simp only[e0,Int.zero_mul]
  constructor
  ·rintro (⟨h,_⟩|⟨_,h⟩)
   ·omega
   ·right
    refine⟨by decide,?_⟩
    rcases Int.mul_eq_zero.1 h.symm with h|h
    ·rw[h,Int.zero_mul]
    ·exact absurd h (hp _)
  ·rintro (⟨h,_⟩|⟨_,h⟩)
   ·omega
   ·right
    refine⟨by decide,?_⟩
    rcases Int.mul_eq_zero.1 h.symm with h|h
    ·rw[h,Int.zero_mul]
    ·exact absurd h (hp _)
 ·obtain⟨h1,h2,h3⟩:=Um h
  have hlog:m.log2≤23:=log2_lt h.1 h.2.1
  refine⟨m*2^(52-m.log2),e-((52-m.log2:Nat):Int),rfl,Ud h.1 h3 s h1 h2,fun x=>NV.shift _,?_,by omega,.inr ⟨52-m.log2,h.1,rfl,rfl⟩⟩
  have hh:=(Nat.log2_eq_iff h.1).1 rfl
  have h2:=Nat.mul_lt_mul_of_pos_right hh.2 (j0 (52-m.log2))
  rw[← l4] at h2
  rw[show m.log2+1+(52-m.log2)=53 by omega] at h2
  exact h2
theorem uG{k:FloatKind}{b:Nat}{s:Bool}{m:Nat}{e:Int}(h:k.format.read b = .number s m e):iX k b=false:=by
 cases hq:iX k b with
 | false=>rfl
 | true =>
  obtain⟨s',t,e'⟩:=mS hq
  rw[h] at e'
  cases e'
theorem zV{b:Nat}{s:Bool}{m:Nat}{e:Int}(hr:Ieee.single.read b = .number s m e)(h:MOk m e):f2f .f32 b .f64=some (Ieee.double.nearest s m e):=by
 obtain⟨M,E,hd⟩:=Ff (s:=s) h
 have hn:iX .f32 b=false:=uG (k:=.f32) hr
 unfold f2f
 rw[b6 (by decide),hn,b6 (by decide)]
 have hr':FloatKind.f32.decode b = .number s m e:=hr
 rw[hr']
 simp only
 have e1:FloatKind.f64.encode (.number s m e)=Ieee.double.nearest s m e:=rfl
 rw[e1]
 have e2:FloatKind.f64.decode (Ieee.double.nearest s m e) = .number s M E:=hd.rd
 rw[e2]
 rfl
theorem Kn{v:Nat}{s:Bool}{M:Nat}{E:Int}(h:Ieee.double.read v = .number s M E):trI .zero v=some (Ieee.double.nearest s (Ieee.Toward.cut .zero s (M <<< E.toNat) (-E).toNat) 0):=by
 unfold trI
 rw[uG (k:=.f64) h,b6 (by decide)]
 have h':FloatKind.f64.decode v = .number s M E:=h
 rw[h']
 rfl
theorem Bb{s:Bool}{m:Nat}{e x:Int}(h:NV s m e x):sg s x.natAbs=x:=by
 have key:∀(a:Nat) (y:Int),sg s a=y→sg s y.natAbs=y:=fun a y h=>by rw[← h,yR]
 have hp:∀ k:Nat,(0:Int)<2^k:=fun k=>Int.pow_pos (by decide)
 rcases h with⟨_,h⟩|⟨_,h⟩
 ·have:sg s (m*2^e.toNat)=x:=by rw[Su,← h,Int.natCast_pow];rfl
  exact key _ _ this
 ·have h2 : 0 ≤ sg s 1 * x := by
    have h3:sg s m=sg s 1*(m:Int):=by cases s<;>simp[sg]
    have h4:(0:Int)≤sg s 1*(x*2^(-e).toNat):=by rw[← h,h3];cases s<;>simp[sg]
    rw[← Int.mul_assoc] at h4
    by_cases hn:sg s 1*x<0
    ·have:=Int.mul_neg_of_neg_of_pos hn (hp (-e).toNat)
     omega
    ·omega
  cases s
  ·simp[sg] at h2 ⊢;omega
  ·simp[sg] at h2 ⊢;omega
theorem Hy{s:Bool}{m:Nat}{e:Int}{v M:Nat}{E x:Int}(h:MOk m e)(hd:Dbl s m e v M E)(hx:NV s m e x):trI .zero v=some v:=by
 rw[Kn hd.rd]
 congr 1
 rcases hd.sh with⟨h0,h1,h2⟩|⟨t,hm,h1,h2⟩
 ·subst h0 h1 h2
  rw[show (0:Nat) <<< (-1074:Int).toNat=0 by rw[shl];simp,yT,Bo,hd.nr,Bo]
 ·rcases h with⟨h0,_⟩|hk
  ·exact absurd h0 hm
  obtain⟨k1,k2,k3⟩:=Um hk
  have hlog:m.log2≤23:=log2_lt hk.1 hk.2.1
  subst h1 h2
  rw[hd.nr]
  rcases hx with⟨he,hx⟩|⟨he,hx⟩
  ·have hq : Ieee.Toward.cut .zero s ((m * 2 ^ t) <<< (e - (t : Int)).toNat) (-(e - (t : Int))).toNat = m * 2 ^ e.toNat := by
     rw[shl,Nat.mul_assoc,← l4,nT hm s (by omega)]
     congr 2
     omega
   rw[hq]
   exact Hp hm k3 s e.toNat (by omega) k1 k2
  ·have hX : m = x.natAbs * 2 ^ (-e).toNat := by
     have:=congrArg Int.natAbs hx
     rw[yR,Int.natAbs_mul,Int.natAbs_pow] at this
     exact this
   have hX0:x.natAbs≠0:=by
    intro h
    rw[h,Nat.zero_mul] at hX
    exact hm hX
   have hXl:x.natAbs≤m:=by rw[hX];exact Nat.le_mul_of_pos_right _ (j0 _)
   have hXlog:x.natAbs.log2≤23:=log2_lt hX0 (by omega)
   have hq:Ieee.Toward.cut .zero s ((m*2^t) <<< (e-(t:Int)).toNat) (-(e-(t:Int))).toNat=x.natAbs:=by
    rw[show (e-(t:Int)).toNat=0 by omega,shl,l8,k9,hX,Nat.mul_assoc,← l4,nT hX0 s (by omega)]
    rw[show (-e).toNat+t-(-(e-(t:Int))).toNat=0 by omega]
    simp
   rw[hq]
   have:=Hp hX0 (by omega) s (-e).toNat (e:=0) (p:=e) (by omega) (by omega) (by omega)
   rw[← hX] at this
   exact this.symm
theorem Ef{q:Nat}(hq:q<2^53)(s:Bool):∃ n j,Ieee.double.read (Ieee.double.nearest s q 0) = .number s n j∧NV s n j (sg s q):=by
 by_cases h0:q=0
 ·subst h0
  refine⟨0,-1074,by rw[Bo];exact Sf s,.inr ⟨by decide,?_⟩⟩
  rw[show sg s 0=0 by cases s<;>rfl,Int.zero_mul]
 ·have hl:=log2_lt h0 hq
  refine⟨_,_,Ud h0 hq s (by omega) (by omega),(NV.shift _).2 (.inl ⟨by decide,?_⟩)⟩
  simp
theorem Yj{s:Bool}{m:Nat}{e:Int}{v M:Nat}{E:Int}(h:MOk m e)(hd:Dbl s m e v M E)(hx:∀ x,¬ NV s m e x):∃ w,trI .zero v=some w∧fcmp .eql .f64 v w=false:=by
 have hE:E<0:=by
  rcases hd.sh with⟨h0,h1,h2⟩|⟨t,hm,h1,h2⟩
  ·omega
  ·by_cases he:0≤e
   ·exact absurd (.inl ⟨he,rfl⟩) (hx _)
   ·omega
 have hq:Ieee.Toward.cut .zero s (M <<< E.toNat) (-E).toNat<2^53:=by
  rw[show E.toNat=0 by omega,shl,l8,k9]
  unfold Ieee.Toward.cut
  simp only[Bool.toNat_false,Nat.add_zero]
  exact Nat.lt_of_le_of_lt (Nat.div_le_self _ _) hd.lt
 obtain⟨n,j,hr,hn⟩:=Ef hq s
 refine⟨_,Kn hd.rd,?_⟩
 unfold fcmp
 have ho:FloatKind.f64.format.order v (Ieee.double.nearest s (Ieee.Toward.cut .zero s (M <<< E.toNat) (-E).toNat) 0)=Ieee.Datum.order (.number s M E) (.number s n j):=by
  show Ieee.Datum.order (Ieee.double.read v) (Ieee.double.read _)=_
  rw[hd.rd,hr]
 simp only[ho]
 rw[beq_eq_false_iff_ne]
 intro he
 exact hx _ ((hd.nv _).1 (Zo hn he))
end Go.Rex
namespace Go.Rex
open Go Go.Rex
set_option maxRecDepth 100000
theorem ord64{a b:Nat}{s t:Bool}{m n:Nat}{i j:Int}(h:Ieee.double.read a = .number s m i)(g:Ieee.double.read b = .number t n j):FloatKind.f64.format.order a b=Ieee.Datum.order (.number s m i) (.number t n j):=by
 show Ieee.Datum.order (Ieee.double.read a) (Ieee.double.read b)=_
 rw[h,g]
theorem ord32{a b:Nat}{s t:Bool}{m n:Nat}{i j:Int}(h:Ieee.single.read a = .number s m i)(g:Ieee.single.read b = .number t n j):FloatKind.f32.format.order a b=Ieee.Datum.order (.number s m i) (.number t n j):=by
 show Ieee.Datum.order (Ieee.single.read a) (Ieee.single.read b)=_
 rw[h,g]
theorem Aq{v:Nat}{s:Bool}{M:Nat}{E:Int}(h:Ieee.double.read v = .number s M E):fcmp .eql .f64 v v=true∧fcmp .neq .f64 v v=false:=by
 have:FloatKind.f64.format.order v v=some .eq:=by
  rw[ord64 h h,rU (Int.le_refl _) (Int.le_refl _)]
  congr 1
  exact Int.compare_eq_eq.2 rfl
 unfold fcmp
 simp only[this]
 exact⟨rfl,rfl⟩
theorem Yt{s:Bool}{r M:Nat}{E:Int}(hr:r<Ieee.double.signWeight)(h:Ieee.double.read (Ieee.double.word s r) = .number s M E):Ieee.double.read r = .number false M E:=by
 have h1:=wd s r hr
 have h2:(r/Ieee.double.signWeight%2==1)=false∧r%Ieee.double.signWeight=r:=by
  rw[Nat.div_eq_of_lt hr,g6 hr]
  exact⟨rfl,rfl⟩
 unfold Ieee.Format.read at h ⊢
 simp only[h1.1,h1.2] at h
 simp only[h2.1,h2.2]
 split at h
 ·rename_i q
  rw[a9 q]
  cases h
  rfl
 ·rename_i q
  rw[b6 q]
  split at h
  ·rename_i q2
   rw[a9 q2]
   cases h
   rfl
  ·split at h<;>cases h
theorem aAn:Ieee.double.read 9218868437227405311 = .number false (2^53-1) 971:=by decide +kernel
theorem aBf{r M:Nat}{E:Int}(h:Ieee.double.read r = .number false M E)(hM:M<2^53)(hE:E≤104):fcmp .gtr .f64 r 9218868437227405311=false:=by
 have:FloatKind.f64.format.order r 9218868437227405311≠some .gt:=by
  rw[ord64 h aAn,rU (b:=E) (Int.le_refl _) (by omega)]
  intro hc
  rw[Option.some.injEq,Int.compare_eq_gt] at hc
  have h0:(E-E).toNat=0:=by omega
  rw[h0] at hc
  simp only[sg,Bool.false_eq_true,if_false,Int.pow_zero,Int.mul_one] at hc
  have h2:(1:Int)≤2^(971-E).toNat:=by have:=Int.pow_pos (m:=(971-E).toNat) (show (0:Int)<2 by decide);omega
  have h3:=Int.mul_le_mul_of_nonneg_left h2 (show (0:Int)≤((2^53-1:Nat):Int) by decide)
  rw[Int.mul_one] at h3
  have h4:((2^53-1:Nat):Int)=9007199254740991:=by decide
  rw[h4] at h3 hc
  omega
 unfold fcmp
 simp only
 rw[beq_eq_false_iff_ne]
 exact this
theorem aBt(s:Bool)(r:Nat)(hr:r<2^63):(yP .andNot .u64 ((Ieee.double.word s r:Nat):Int) 9223372036854775808).toNat=r:=by
 have hw:Ieee.double.word s r<2^64∧Ieee.double.word s r%2^63=r:=by
  unfold Ieee.Format.word
  have e:Ieee.double.signWeight=2^63:=by decide +kernel
  rw[e]
  cases s
  ·simp only[Bool.false_eq_true,if_false]
   omega
  ·simp only[if_true]
   omega
 generalize Ieee.double.word s r=v at hw ⊢
 unfold yP
 have hb:IntKind.u64.bits=64:=rfl
 have hwrap:∀ n:Int,IntKind.u64.wrap n=n%2^64:=fun n=>rfl
 simp only[hwrap]
 show (((BitVec.ofInt 64 (v:Int) &&& ~~~ BitVec.ofInt 64 9223372036854775808).toNat:Int)%2^64).toNat=r
 have h1:(BitVec.ofInt 64 (v:Int) &&& ~~~ BitVec.ofInt 64 9223372036854775808).toNat=v%2^63:=by
  have h2:(~~~ BitVec.ofInt 64 9223372036854775808).toNat=2^63-1:=by decide
  have h3:(BitVec.ofInt 64 (v:Int)).toNat=v:=by
   rw[BitVec.toNat_ofInt]
   omega
  rw[BitVec.toNat_and,h2,h3,Nat.and_two_pow_sub_one_eq_mod]
 rw[h1,hw.2]
 omega
theorem Wf{s:Bool}{m:Nat}{e:Int}{v M:Nat}{E:Int}(hd:Dbl s m e v M E):pF v 0=some false:=by
 obtain⟨r,hr,hri⟩:=Xh s m e
 rw[← hd.nr] at hr
 have hs:r<Ieee.double.signWeight:=by
  have:=dbl.2.2.2
  have h0:Ieee.double.infRung<Ieee.double.signWeight:=by decide +kernel
  omega
 have hs63:r<2^63:=by
  have e:Ieee.double.signWeight=2^63:=by decide +kernel
  rw[e] at hs
  exact hs
 have hn:=uG (k:=.f64) hd.rd
 have hrd:=hd.rd
 unfold pF yY fbits
 rw[hn]
 simp only[decide_true,if_true,Bool.false_eq_true,if_false,Option.bind_some]
 rw[hr,aBt s r hs63]
 rw[hr] at hrd
 rw[aBf (Yt hs hrd) hd.lt hd.hi]
theorem Gg{b:Nat}{s:Bool}{m:Nat}{e x:Int}(hr:Ieee.single.read b = .number s m e)(h:MOk m e)(hx:NV s m e x):dK b=some true:=by
 obtain⟨M,E,hd⟩:=Ff (s:=s) h
 unfold dK nJ
 rw[zV hr h]
 simp only[Option.bind_some]
 rw[Hy h hd hx]
 simp only[Option.bind_some]
 rw[(Aq hd.rd).1,Wf hd]
 simp
theorem Wo{b:Nat}{s:Bool}{m:Nat}{e:Int}(hr:Ieee.single.read b = .number s m e)(h:MOk m e)(hx:∀ x,¬ NV s m e x):dK b=some false:=by
 obtain⟨M,E,hd⟩:=Ff (s:=s) h
 obtain⟨w,h1,h2⟩:=Yj h hd hx
 unfold dK nJ
 rw[zV hr h]
 simp only[Option.bind_some]
 rw[h1]
 simp only[Option.bind_some]
 rw[h2]
 simp
theorem aAM{b:Nat}{s:Bool}{t:Nat}(hr:Ieee.single.read b = .nan s t):dK b=some false∧f2f .f32 b .f64=some (qn .f64):=by
 have hn:iX .f32 b=true:=Cx (k:=.f32) hr
 have hf:f2f .f32 b .f64=some (qn .f64):=by
  unfold f2f
  rw[b6 (by decide),hn,a9 rfl]
 refine⟨?_,hf⟩
 unfold dK nJ
 rw[hf]
 simp only[Option.bind_some]
 have e:trI .zero (qn .f64)=some (qn .f64):=by decide +kernel
 rw[e]
 simp only[Option.bind_some]
 have e2:fcmp .eql .f64 (qn .f64) (qn .f64)=false:=by decide +kernel
 rw[e2]
 simp
theorem Yr{b:Nat}{s:Bool}(hr:Ieee.single.read b = .infinity s):dK b=some false∧f2f .f32 b .f64=some (FloatKind.f64.encode (.infinity s)):=by
 have hn:iX .f32 b=false:=by
  cases hq:iX .f32 b with
  | false=>rfl
  | true =>
   obtain⟨s',t,e'⟩:=mS hq
   have e':Ieee.single.read b = .nan s' t:=e'
   rw[hr] at e'
   cases e'
 have hf:f2f .f32 b .f64=some (FloatKind.f64.encode (.infinity s)):=by
  unfold f2f
  rw[b6 (by decide),hn,b6 (by decide)]
  have:FloatKind.f32.decode b = .infinity s:=hr
  rw[this]
 refine⟨?_,hf⟩
 unfold dK
 rw[hf]
 simp only[Option.bind_some]
 cases s<;>decide +kernel
theorem Ws{s:Bool}{m:Nat}{e:Int}{v M:Nat}{E x:Int}(h:MOk m e)(hd:Dbl s m e v M E)(hx:NV s m e x):Ieee.Toward.cut .zero s (M <<< E.toNat) (-E).toNat=x.natAbs∧Ieee.double.nearest s x.natAbs 0=v:=by
 have key:=Hy h hd hx
 rw[Kn hd.rd] at key
 have key:=a6 key
 suffices hq:Ieee.Toward.cut .zero s (M <<< E.toNat) (-E).toNat=x.natAbs by
  rw[hq] at key
  exact⟨hq,key⟩
 clear key
 rcases hd.sh with⟨h0,h1,h2⟩|⟨t,hm,h1,h2⟩
 ·subst h0 h1 h2
  have e0:sg s 0=0:=by cases s<;>rfl
  have hx0:x=0:=by
   rcases hx with⟨_,hx⟩|⟨_,hx⟩
   ·rw[e0,Int.zero_mul] at hx;exact hx.symm
   ·rw[e0] at hx
    rcases Int.mul_eq_zero.1 hx.symm with h|h
    ·exact h
    ·exact absurd h (Int.ne_of_gt (Int.pow_pos (by decide)))
  rw[hx0,show (0:Nat) <<< (-1074:Int).toNat=0 by rw[shl];simp,yT]
  rfl
 ·subst h1 h2
  rcases hx with⟨he,hx⟩|⟨he,hx⟩
  ·rw[shl,Nat.mul_assoc,← l4,nT hm s (by omega)]
   have h3:=congrArg Int.natAbs hx
   rw[Int.natAbs_mul,yR,Int.natAbs_pow] at h3
   rw[← h3]
   show _=m*2^e.toNat
   congr 2
   omega
  ·have hX : m = x.natAbs * 2 ^ (-e).toNat := by
     have:=congrArg Int.natAbs hx
     rw[yR,Int.natAbs_mul,Int.natAbs_pow] at this
     exact this
   have hX0:x.natAbs≠0:=by
    intro h
    rw[h,Nat.zero_mul] at hX
    exact hm hX
   rw[show (e-(t:Int)).toNat=0 by omega,shl,l8,k9,hX,Nat.mul_assoc,← l4,nT hX0 s (by omega)]
   rw[show (-e).toNat+t-(-(e-(t:Int))).toNat=0 by omega]
   simp
theorem Vl{s t:Bool}{m n:Nat}{i j y:Int}(g:NV t n j y)(h:Ieee.Datum.order (.number t n j) (.number s m i)=some .eq):NV s m i y:=by
 have hb:min (min i j) 0≤i∧min (min i j) 0≤j∧min (min i j) 0≤0:=by omega
 rw[rU hb.2.1 hb.1,g.at hb.2.1 hb.2.2,Option.some.injEq,Int.compare_eq_eq] at h
 exact NV.of hb.1 hb.2.2 h.symm
theorem Un:Ieee.double.read 14069741636278059008 = .number true 5000000000000000 1:=by decide +kernel
theorem Ta:Ieee.double.read 4846369599423283200 = .number false 5000000000000000 1:=by decide +kernel
theorem Jk{v:Nat}{s:Bool}{M:Nat}{E:Int}(h:Ieee.double.read v = .number s M E):farith .sub .f64 v v=some 0:=by
 refine aC6 ?_
 show (((Ieee.double.read v).sum (Ieee.double.read v).opposite).map Ieee.double.write)=some 0
 rw[h]
 simp only[Ieee.Datum.opposite,Ieee.Datum.sum]
 have e:min E E=E:=by omega
 rw[e]
 have h0:(E-E).toNat=0:=by omega
 rw[h0]
 simp only[xE,Int.pow_zero,Int.mul_one]
 have hz:sg s M+sg (!s) M=0:=by cases s<;>simp[sg]<;>omega
 rw[hz]
 simp only[if_true,Option.map_some]
 have hs:(s&&!s)=false:=by cases s<;>rfl
 rw[hs]
 show some (Ieee.double.nearest false 0 E)=some 0
 rw[Bo]
 rfl
theorem cmpI{x y:Int}:((some (compare x y)==some Ordering.gt||some (compare x y)==some Ordering.eq)=decide (y≤x))∧((some (compare x y)==some Ordering.lt||some (compare x y)==some Ordering.eq)=decide (x≤y))∧((some (compare x y)==some Ordering.lt)=decide (x<y))∧((some (compare x y)==some Ordering.gt)=decide (y<x))∧((some (compare x y)==some Ordering.eq)=decide (x=y)):=by
 simp only[compare,compareOfLessAndEq]
 rcases Int.lt_trichotomy x y with h|h|h
 ·rw[a9 h]
  refine⟨?_,?_,?_,?_,?_⟩<;>simp<;>omega
 ·subst h
  rw[b6 (Int.lt_irrefl _),a9 rfl]
  refine⟨?_,?_,?_,?_,?_⟩<;>simp
 ·rw[b6 (by omega),b6 (by omega)]
  refine⟨?_,?_,?_,?_,?_⟩<;>simp<;>omega
theorem Ul{v:Nat}{s:Bool}{M:Nat}{E:Int}{q:Nat}(h:Ieee.double.read v = .number s M E)(hq:Ieee.Toward.cut .zero s (M <<< E.toNat) (-E).toNat=q)(hb:q<2^63):f2i .f64 v .i64=some (sg s q):=by
 unfold f2i
 have e:FloatKind.f64.decode v = .number s M E:=h
 rw[e]
 have e2:(Ieee.Datum.number s M E).toInt .zero=some (sg s q):=by
  unfold Ieee.Datum.toInt Ieee.Datum.integral
  simp only[hq,xE,Int.pow_zero,Int.mul_one]
 rw[e2]
 simp only
 have hm:IntKind.i64.min = -9223372036854775808∧IntKind.i64.max=9223372036854775807:=by decide
 rw[hm.1,hm.2,a9]
 cases s<;>simp only[sg,if_true,if_false,Bool.false_eq_true]<;>omega
theorem Vj{s:Bool}{m:Nat}{e:Int}{v M:Nat}{E x:Int}(h:MOk m e)(hd:Dbl s m e v M E)(hx:NV s m e x):fQ v=some true:=by
 have hX:=(hd.nv x).2 hx
 have g1:fcmp .geq .f64 v 14069741636278059008=decide (-10000000000000000≤x):=by
  unfold fcmp
  simp only
  rw[ord64 hd.rd Un,oM hX (y:=-10000000000000000) (.inl ⟨by decide,by decide⟩)]
  exact cmpI.1
 have g2:fcmp .leq .f64 v 4846369599423283200=decide (x≤10000000000000000):=by
  unfold fcmp
  simp only
  rw[ord64 hd.rd Ta,oM hX (y:=10000000000000000) (.inl ⟨by decide,by decide⟩)]
  exact cmpI.2.1
 unfold fQ
 rw[(Aq hd.rd).2,Jk hd.rd]
 simp only[Bool.false_eq_true,if_false,Option.bind_some]
 have g0:fcmp .neq .f64 0 0=false:=by decide +kernel
 rw[g0,g1,g2]
 simp only[Bool.false_eq_true,if_false]
 by_cases c1:-10000000000000000≤x
 ·by_cases c2:x≤10000000000000000
  ·rw[a9 (i7 c1),a9 (i7 c2)]
   obtain⟨hq,hn⟩:=Ws h hd hx
   rw[Ul hd.rd hq (by omega),Bb hx]
   simp only[Option.bind_some]
   congr 1
   have hne:FloatKind.f64.nearest x=Ieee.double.nearest (decide (x<0)) x.natAbs 0:=rfl
   by_cases x0:x=0
   ·subst x0
    have e1:FloatKind.f64.nearest 0=Ieee.double.word false 0:=by rw[hne];exact Bo _ _
    have r1:Ieee.double.read (FloatKind.f64.nearest 0) = .number false 0 (-1074):=by rw[e1];exact Sf false
    unfold fcmp
    simp only
    rw[ord64 r1 hd.rd,oM (x:=0) (.inr ⟨by decide,by rw[show sg false 0=0 from rfl,Int.zero_mul]⟩) hX]
    rfl
   ·have hs : decide (x < 0) = s := by
      have h1:=Bb hx
      cases s
      ·simp only[sg,Bool.false_eq_true,if_false] at h1
       exact decide_eq_false (by omega)
      ·simp only[sg,if_true] at h1
       exact i7 (by omega)
    rw[hne,hs,hn]
    exact (Aq hd.rd).1
  ·rw[a9 (i7 c1),b6 (by simp;omega)]
 ·rw[b6 (by simp;omega)]
theorem Ze{s:Bool}{m:Nat}{e:Int}{v M:Nat}{E:Int}(h:MOk m e)(hd:Dbl s m e v M E)(hx:∀ x,¬ NV s m e x):fQ v=some false:=by
 have hE:E<0:=by
  rcases hd.sh with⟨h0,h1,h2⟩|⟨t,hm,h1,h2⟩
  ·omega
  ·by_cases he:0≤e
   ·exact absurd (.inl ⟨he,rfl⟩) (hx _)
   ·omega
 have hlt:=hd.lt
 have hp4:(4:Int)≤2^(1-E).toNat:=by
  rw[show (1-E).toNat=2+(-E-1).toNat by omega,nQ]
  have:(1:Int)≤2^(-E-1).toNat:=by have:=Int.pow_pos (m:=(-E-1).toNat) (show (0:Int)<2 by decide);omega
  omega
 have hbig:=Int.mul_le_mul_of_nonneg_left hp4 (show (0:Int)≤5000000000000000 by decide)
 have h0:(E-E).toNat=0:=by omega
 have hsg:-(M:Int)≤sg s M∧sg s M≤M:=by cases s<;>simp[sg]<;>omega
 have g1:fcmp .geq .f64 v 14069741636278059008=true:=by
  unfold fcmp
  simp only
  rw[ord64 hd.rd Un,rU (b:=E) (Int.le_refl _) (by omega),cmpI.1,h0]
  refine i7 ?_
  have e1:sg true 5000000000000000 = -5000000000000000:=by decide
  rw[e1,Int.pow_zero,Int.mul_one,Int.neg_mul]
  omega
 have g2:fcmp .leq .f64 v 4846369599423283200=true:=by
  unfold fcmp
  simp only
  rw[ord64 hd.rd Ta,rU (b:=E) (Int.le_refl _) (by omega),cmpI.2.1,h0]
  refine i7 ?_
  have e1:sg false 5000000000000000=5000000000000000:=by decide
  rw[e1,Int.pow_zero,Int.mul_one]
  omega
 unfold fQ
 rw[(Aq hd.rd).2,Jk hd.rd]
 simp only[Bool.false_eq_true,if_false,Option.bind_some]
 have g0:fcmp .neq .f64 0 0=false:=by decide +kernel
 rw[g0,g1,g2]
 simp only[Bool.false_eq_true,if_false,if_true]
 have hq:Ieee.Toward.cut .zero s (M <<< E.toNat) (-E).toNat<2^53:=by
  rw[show E.toNat=0 by omega,shl,l8,k9]
  unfold Ieee.Toward.cut
  simp only[Bool.toNat_false,Nat.add_zero]
  exact Nat.lt_of_le_of_lt (Nat.div_le_self _ _) hlt
 generalize hqq:Ieee.Toward.cut .zero s (M <<< E.toNat) (-E).toNat=q at hq
 rw[Ul hd.rd hqq (by omega)]
 simp only[Option.bind_some]
 congr 1
 have hne:FloatKind.f64.nearest (sg s q)=Ieee.double.nearest (decide (sg s q<0)) (sg s q).natAbs 0:=rfl
 rw[yR] at hne
 obtain⟨n,j,r1,r2⟩:=Ef hq (decide (sg s q<0))
 rw[← hne] at r1
 unfold fcmp
 simp only
 rw[beq_eq_false_iff_ne,ord64 r1 hd.rd]
 intro he
 exact hx _ ((hd.nv _).1 (Vl r2 he))
end Go.Rex
namespace Go.Rex
theorem w64{x:Int}(h:-9223372036854775808≤x∧x≤9223372036854775807):IntKind.i64.wrap x=x:=IntWalk.i64_in x (by omega)
theorem bY{σ ε:Type}{step:σ→Option (σ ⊕ ε)}(f:Nat→σ){n:Nat}{e:ε}(h:∀ k,k<n→step (f k)=some (.inl (f (k+1))))(hn:step (f n)=some (.inr e)):run step (f 0)=some e:=by
 suffices H:∀ j k,n-k=j→k≤n→run step (f k)=some e from H n 0 (by omega) (j3 _)
 intro j
 induction j with
 | zero => intro k hj hk; obtain rfl : k = n := by omega
           exact jW hn
 | succ j ih=>intro k hj hk;rw[lK (h k (by omega))];exact ih (k+1) (by omega) (by omega)
theorem aT{α:Type}{xs:List α}{k:Nat}:gQ xs (k:Int)=xs[k]?:=by
 unfold gQ
 rw[a9 (by omega),Int.toNat_natCast]
theorem uU{α:Type}{xs:List α}{i:Int}{k:Nat}(h:i=(k:Int)):gQ xs i=xs[k]?:=by subst h;exact aT
theorem wK{α:Type}{b:Nat}{xs:List α}{y:α}(h:xs.length<2^40)(hb:b≤128):lL b xs [y]=some (xs++[y]):=by
 unfold lL
 rw[a9]
 refine⟨by simp;omega,?_⟩
 have h1:(xs.length+[y].length)*b≤2^40*128:=Nat.mul_le_mul (by simp;omega) hb
 omega
def walk{α β ε:Type}(f:β→α→β ⊕ ε)(fin:β→ε):β→List α→ε
 | b,[]=>fin b
 | b,x::t=>match f b x with
  | .inl b'=>walk f fin b' t
  | .inr e=>e
theorem Ea{α β σ ε:Type}{step:σ→Option (σ ⊕ ε)}(st:Nat→β→σ)(f:β→α→β ⊕ ε)(fin:β→ε)(Inv:Nat→β→Prop)(l:List α)
 (hs:∀(k:Nat) (x:α) (b:β),l[k]?=some x→Inv k b→step (st k b)=some (match f b x with|.inl b'=>.inl (st (k+1) b')|.inr e=>.inr e)∧∀ b',f b x = .inl b'→Inv (k+1) b')
 (he:∀ b,Inv l.length b→step (st l.length b)=some (.inr (fin b))) {b0:β} (h0:Inv 0 b0):run step (st 0 b0)=some (walk f fin b0 l):=by
 suffices H:∀(t:List α) (k:Nat) (b:β),l.drop k=t→k≤l.length→Inv k b→run step (st k b)=some (walk f fin b t) from H l 0 b0 rfl (j3 _) h0
 intro t
 induction t with
 | nil =>
  intro k b hk hkl hI
  have:k=l.length:=by
   have:=congrArg List.length hk
   simp at this
   omega
  subst this
  exact jW (he b hI)
 | cons x t ih =>
  intro k b hk hkl hI
  have hx:l[k]?=some x:=by
   have:=congrArg (fun l=>l[0]?) hk
   simpa using this
  have hlt:=(a8.1 hx).1
  obtain⟨h1,h2⟩:=hs k x b hx hI
  have ht:l.drop (k+1)=t:=by
   have:=congrArg List.tail hk
   simpa using this
  cases hf:f b x with
  | inl b' =>
   rw[hf] at h1
   rw[lK h1,ih (k+1) b' ht (by omega) (h2 b' hf)]
   simp only[walk,hf]
  | inr e =>
   rw[hf] at h1
   rw[jW h1]
   simp only[walk,hf]
end Go.Rex
open Go Go.Rex
namespace Go.Rex
set_option maxRecDepth 100000
theorem wsucc{k:Nat}{n:Nat}(h:k≤n)(hn:n≤2^62):IntKind.i64.wrap ((k:Int)+1)=((k+1:Nat):Int):=by rw[w64 (by omega)];omega
def dZ{ε:Type}(p:Nat→Option ε)(n:Nat):Option ε:=(List.range n).findSome? p
theorem firstOf_none{ε:Type}{p:Nat→Option ε}{n:Nat}:dZ p n=none↔∀ k,k<n→p k=none:=by
 unfold dZ
 rw[List.findSome?_eq_none_iff]
 constructor
 ·intro h k hk;exact h k (List.mem_range.2 hk)
 ·intro h k hk;exact h k (List.mem_range.1 hk)
theorem Kx{ε:Type}{p:Nat→Option ε}{n:Nat}:dZ p (n+1)=match dZ p n with|some e=>some e|none=>p n:=by
 unfold dZ
 rw[List.range_succ,List.findSome?_append]
 cases h:List.findSome? p (List.range n) with
 | some e=>rfl
 | none=>simp
theorem Ec{ε δ:Type}{step:Int→Option (Int ⊕ (ε ⊕ δ))}{n:Nat}{p:Nat→Option ε}{r:δ}
 (h:∀ k:Nat,k<n→(∀ j,j<k→p j=none)→step (k:Int)=some (match p k with|none=>.inl ((k+1:Nat):Int)|some e=>.inr (.inl e))) (he:(∀ j,j<n→p j=none)→step (n:Int)=some (.inr (.inr r))):run step 0=some (match dZ p n with|some e=>.inl e|none=>.inr r):=by
 suffices H:∀ m,m≤n→dZ p m=none→run step 0=run step (m:Int) by
  cases hf:dZ p n with
  | none =>
   simp only
   rw[H n (b7 _) hf]
   exact jW (he (firstOf_none.1 hf))
  | some e =>
   simp only
   have:∃ m,m<n∧dZ p m=none∧p m=some e:=by
    clear h he H
    induction n with
    | zero=>simp[dZ] at hf
    | succ n ih =>
     rw[Kx] at hf
     cases hn:dZ p n with
     | none=>rw[hn] at hf;exact⟨n,by omega,hn,hf⟩
     | some e'=>rw[hn] at hf;cases hf;obtain⟨m,h1,h2⟩:=ih hn;exact⟨m,by omega,h2⟩
   obtain⟨m,hm,h1,h2⟩:=this
   rw[H m (by omega) h1]
   have:=h m hm (firstOf_none.1 h1)
   rw[h2] at this
   exact jW this
 intro m
 induction m with
 | zero=>intro _ _;rfl
 | succ m ih =>
  intro hm hf
  have hf':=firstOf_none.1 hf
  rw[ih (by omega) (firstOf_none.2 fun k hk=>hf' k (by omega))]
  have:=h m (by omega) (fun j hj=>hf' j (by omega))
  rw[hf' m (by omega)] at this
  exact lK this
def iter{β:Type}(g:Nat→β→β):Nat→β→β
 | 0,b=>b
 | k+1,b=>g k (iter g k b)
theorem lU{β σ ε:Type}{step:σ→Option (σ ⊕ ε)}(st:Nat→β→σ)(g:Nat→β→β)(fin:β→ε)(n:Nat)(Inv:Nat→β→Prop){b0:β}(h0:Inv 0 b0)
 (hs:∀ k b,k<n→Inv k b→step (st k b)=some (.inl (st (k+1) (g k b)))∧Inv (k+1) (g k b)) (he:∀ b,Inv n b→step (st n b)=some (.inr (fin b))) :
 run step (st 0 b0)=some (fin (iter g n b0))∧∀ k,k≤n→Inv k (iter g k b0):=by
 have hI:∀ k,k≤n→Inv k (iter g k b0):=by
  intro k
  induction k with
  | zero=>intro _;exact h0
  | succ k ih=>intro hk;exact (hs k _ (by omega) (ih (by omega))).2
 refine⟨?_,hI⟩
 exact bY (fun k=>st k (iter g k b0)) (fun k hk=>(hs k _ hk (hI k (by omega))).1) (he _ (hI n (b7 _)))
end Go.Rex
namespace Go.Rex
open Go Go.Rex
set_option maxRecDepth 100000
theorem aDB{s:Bool}{m:Nat}{e x:Int}(h:MOk m e)(hx:NV s m e x):Ieee.Toward.cut .zero s (m <<< e.toNat) (-e).toNat=x.natAbs:=by
 rcases h with⟨h0,h1⟩|⟨hm,-,-,-⟩
 ·subst h0 h1
  have e0:sg s 0=0:=by cases s<;>rfl
  have hx0:x=0:=by
   rcases hx with⟨_,hx⟩|⟨_,hx⟩
   ·rw[e0,Int.zero_mul] at hx;exact hx.symm
   ·rw[e0] at hx
    rcases Int.mul_eq_zero.1 hx.symm with h|h
    ·exact h
    ·exact absurd h (Int.ne_of_gt (Int.pow_pos (by decide)))
  rw[hx0,show (0:Nat) <<< (-149:Int).toNat=0 by rw[shl];simp,yT]
  rfl
 ·rcases hx with⟨he,hx⟩|⟨he,hx⟩
  ·rw[shl,show (-e).toNat=0 by omega,nT hm s (by omega)]
   have h3:=congrArg Int.natAbs hx
   rw[Int.natAbs_mul,yR,Int.natAbs_pow] at h3
   rw[← h3]
   rfl
  ·have hX : m = x.natAbs * 2 ^ (-e).toNat := by
     have:=congrArg Int.natAbs hx
     rw[yR,Int.natAbs_mul,Int.natAbs_pow] at this
     exact this
   have hX0:x.natAbs≠0:=by
    intro h
    rw[h,Nat.zero_mul] at hX
    exact hm hX
   rw[show e.toNat=0 by omega,shl,l8,k9,hX,nT hX0 s (b7 _)]
   simp
def SV(b:Nat)(x:Int):Prop:=∃ s m e,Ieee.single.read b = .number s m e∧MOk m e∧NV s m e x
structure RS(b:Nat)(o:Option Int):Prop where
 val:∃ v,f2f .f32 b .f64=some v∧fQ v=some o.isSome∧∀ x,o=some x→fcmp .gtr .f64 v 4674736138332667904=decide (32767<x)∧fcmp .lss .f64 v 13898108175187443712=decide (x < -32767)
theorem Rd{b:Nat}{s:Bool}{m:Nat}{e:Int}(h:Ieee.single.read b = .number s m e):MOk m e:=by
 rcases Jb b with⟨s',t,h1⟩|⟨s',h1⟩|⟨s',m',e',h1,h2⟩
 ·rw[h] at h1;cases h1
 ·rw[h] at h1;cases h1
 ·rw[h] at h1
  injection h1 with a1 a2 a3
  subst a2 a3
  exact h2
theorem aBS{b:Nat}{s:Bool}{n u:Nat}(h:Ieee.single.read b = .number s (n*2^u) (-(u:Int))):SV b (sg s n):=by
 refine⟨s,_,_,h,Rd h,?_⟩
 by_cases hu:u=0
 ·subst hu
  left
  refine⟨by omega,?_⟩
  simp
 ·right
  refine⟨by omega,?_⟩
  rw[Su,Int.natCast_pow,show (-(-(u:Int))).toNat=u by omega]
  rfl
theorem aDs{s:Bool}{n:Nat}(h:ffit .f32 n):SV (fz .f32 s n) (sg s n):=aBS (aBm (k:=.f32) h)
theorem aBR{x:Int}(h:x.natAbs<2^24):SV (FloatKind.f32.nearest x) x:=by
 have h1:=aDs (s:=decide (x<0)) (n:=x.natAbs) h
 have e:sg (decide (x<0)) x.natAbs=x:=by
  unfold sg
  by_cases q:x<0
  ·simp only[q,decide_true,if_true];omega
  ·simp only[q,decide_false,Bool.false_eq_true,if_false];omega
 rw[e] at h1
 exact h1
theorem aBE{b:Nat}{x y:Int}(h:SV b x)(g:SV b y):x=y:=by
 obtain⟨s,m,e,h1,h2,h3⟩:=h
 obtain⟨s',m',e',g1,g2,g3⟩:=g
 rw[h1] at g1
 injection g1 with a1 a2 a3
 subst a1 a2 a3
 rcases h3 with⟨p,q⟩|⟨p,q⟩<;>rcases g3 with⟨p',q'⟩|⟨p',q'⟩
 ·omega
 ·omega
 ·omega
 ·have hp:(0:Int)<2^(-e).toNat:=Int.pow_pos (by decide)
  exact Int.eq_of_mul_eq_mul_right (Int.ne_of_gt hp) (q.symm.trans q')
theorem wN(b:Nat):jM b=dK b:=by
 unfold jM dK
 rfl
theorem aA7{b:Nat}{x:Int}(h:SV b x)(hb:-4611686018427387904≤x∧x≤4611686018427387904):f2i .f32 b .i64=some x:=by
 obtain⟨s,m,e,hr,h,hx⟩:=h
 unfold f2i
 have e1:FloatKind.f32.decode b = .number s m e:=hr
 rw[e1]
 have e2:(Ieee.Datum.number s m e).toInt .zero=some x:=by
  unfold Ieee.Datum.toInt Ieee.Datum.integral
  simp only[aDB h hx,xE,Int.pow_zero,Int.mul_one,Bb hx]
 rw[e2]
 simp only
 have hm:IntKind.i64.min = -9223372036854775808∧IntKind.i64.max=9223372036854775807:=by decide
 rw[hm.1,hm.2,a9 (by omega)]
theorem read_b:Ieee.single.read 1266679808 = .number false 8388608 1∧Ieee.single.read 3414163456 = .number true 8388608 1∧Op.negFloat .f32 1266679808=3414163456∧Ieee.double.read 4715268809856909312 = .number false 4503599627370496 (-28)∧Ieee.double.read 13938640846711685120 = .number true 4503599627370496 (-28):=by decide +kernel
theorem nv_b:NV false 8388608 1 16777216∧NV true 8388608 1 (-16777216)∧NV false 4503599627370496 (-28) 16777216∧NV true 4503599627370496 (-28) (-16777216):=
 ⟨.inl ⟨by decide,by decide⟩,.inl ⟨by decide,by decide⟩,.inr ⟨by decide,by decide⟩,.inr ⟨by decide,by decide⟩⟩
theorem Qg{b:Nat}{x:Int}(h:SV b x):aW b 1266679808=some (decide (-16777216≤x∧x≤16777216)):=by
 obtain⟨s,m,e,h1,h2,h3⟩:=h
 unfold aW
 rw[read_b.2.2.1]
 have g1:fcmp .leq .f32 3414163456 b=decide (-16777216≤x):=by
  unfold fcmp
  simp only
  rw[ord32 read_b.2.1 h1,oM nv_b.2.1 h3]
  exact cmpI.2.1
 have g2:fcmp .leq .f32 b 1266679808=decide (x≤16777216):=by
  unfold fcmp
  simp only
  rw[ord32 h1 read_b.1,oM h3 nv_b.1]
  exact cmpI.2.1
 rw[g1,g2]
 by_cases c:-16777216≤x
 ·rw[a9 (i7 c)]
  congr 1
  rw[decide_eq_decide]
  omega
 ·rw[b6 (by simpa using c)]
  congr 1
  symm
  rw[decide_eq_false_iff_not]
  omega
theorem Jl(b c:Nat):∃ r,aW b c=some r:=by
 unfold aW
 split<;>exact⟨_,rfl⟩
structure RW(b:Nat)(o:Option Int):Prop where
 ws:jM b=some o.isSome
 val:∃ v,f2f .f32 b .f64=some v∧fQ v=some o.isSome∧∀ x,o=some x→fcmp .gtr .f64 v 4715268809856909312=decide (16777216<x)∧fcmp .lss .f64 v 13938640846711685120=decide (x < -16777216)
theorem Sv(b:Nat):RW b none∨∃ x,SV b x∧RW b (some x):=by
 rcases Jb b with⟨s,t,h⟩|⟨s,h⟩|⟨s,m,e,h,hm⟩
 ·obtain⟨h1,h2⟩:=aAM h
  exact .inl ⟨(wN b).trans h1,⟨_,h2,by decide +kernel,fun x hx=>by cases hx⟩⟩
 ·obtain⟨h1,h2⟩:=Yr h
  exact .inl ⟨(wN b).trans h1,⟨_,h2,by cases s<;>decide +kernel,fun x hx=>by cases hx⟩⟩
 ·obtain⟨M,E,hd⟩:=Ff (s:=s) hm
  by_cases hx:∃ x,NV s m e x
  ·obtain⟨x,hx⟩:=hx
   refine .inr ⟨x,⟨s,m,e,h,hm,hx⟩,(wN b).trans (Gg h hm hx),⟨_,zV h hm,Vj hm hd hx,fun y hy=>?_⟩⟩
   cases hy
   have hX:=(hd.nv x).2 hx
   constructor
   ·unfold fcmp
    simp only
    rw[ord64 hd.rd read_b.2.2.2.1,oM hX nv_b.2.2.1]
    exact cmpI.2.2.2.1
   ·unfold fcmp
    simp only
    rw[ord64 hd.rd read_b.2.2.2.2,oM hX nv_b.2.2.2]
    exact cmpI.2.2.1
  ·have hx:∀ x,¬ NV s m e x:=fun x h=>hx ⟨x,h⟩
   exact .inl ⟨(wN b).trans (Wo h hm hx),⟨_,zV h hm,Ze hm hd hx,fun x hx=>by cases hx⟩⟩
open Classical in
noncomputable def wv(b:Nat):Option Int:=if h:∃ x,SV b x then some (Classical.choose h) else none
theorem Pm{b:Nat}{x:Int}(h:SV b x):wv b=some x:=by
 have hx:∃ x,SV b x:=⟨x,h⟩
 unfold wv
 rw[dif_pos hx,aBE (Classical.choose_spec hx) h]
theorem Nz{b:Nat}{x:Int}(h:wv b=some x):SV b x:=by
 unfold wv at h
 split at h
 ·rename_i hx
  obtain rfl:=a6 h
  exact Classical.choose_spec hx
 ·cases h
theorem Up{b:Nat}:RW b (wv b):=by
 rcases Sv b with h|⟨x,h1,h2⟩
 ·have : wv b = none := by
    cases hw:wv b with
    | none=>rfl
    | some x =>
     have sv:=Nz hw
     obtain⟨s,m,e,g1,g2,g3⟩:=sv
     have:=(wN b).trans (Gg g1 g2 g3)
     rw[h.ws] at this
     exact absurd (a6 this) (by decide)
  rw[this];exact h
 ·rw[Pm h1];exact h2
def sm24(x:Int):Bool:=decide (-16777216≤x∧x≤16777216)
noncomputable def cE(p:Nat×Nat):Int:=match wv p.1,wv p.2 with
 | some x,some y=>if sm24 x=true∧sm24 y=true then 0 else 2
 | _,_=>27
theorem fe9(a:Bool)(x:Int)(b:Bool)(y:Int)(hx:x≠0):aM a x b y=some (if a=true then x else if b=true then y else 0):=by
 unfold aM aA
 cases a
 ·cases b
  ·rfl
  ·by_cases hy:y=0<;>simp[hy]
 ·simp[hx]
theorem Re(a b:Nat):mQ a b=some (cE (a,b)):=by
 have ra:=Up (b:=a)
 have rb:=Up (b:=b)
 obtain⟨sa,hsa⟩:=Jl a 1266679808
 obtain⟨sb,hsb⟩:=Jl b 1266679808
 unfold mQ cE aD
 rw[ra.ws,rb.ws,hsa,hsb]
 simp only[Option.bind_some]
 cases ha:wv a with
 | none =>
  simp only[Option.isSome_none,Bool.false_eq_true,if_false]
  cases sa<;>simp only[Bool.false_eq_true,if_false,if_true]<;>rw[fe9 _ _ _ _ (by decide)]<;>rfl
 | some x =>
  have h1:=Qg (Nz ha)
  rw[hsa] at h1
  have h1:=a6 h1
  cases hb:wv b with
  | none =>
   simp only[Option.isSome_none,Option.isSome_some,Bool.false_eq_true,if_false,if_true,Bool.not_false]
   cases sa<;>simp only[Bool.false_eq_true,if_false,if_true]<;>rw[fe9 _ _ _ _ (by decide)]<;>rfl
  | some y =>
   have h2:=Qg (Nz hb)
   rw[hsb] at h2
   have h2:=a6 h2
   simp only[Option.isSome_some,if_true,Bool.not_true]
   rw[h1,h2]
   unfold sm24
   by_cases c1:-16777216≤x∧x≤16777216<;>by_cases c2:-16777216≤y∧y≤16777216
   ·rw[i7 c1,i7 c2,a9 rfl,fe9 _ _ _ _ (by decide)];rfl
   ·rw[i7 c1,decide_eq_false c2,a9 rfl,fe9 _ _ _ _ (by decide)];rfl
   ·rw[decide_eq_false c1,i7 c2,b6 (by decide),fe9 _ _ _ _ (by decide)];rfl
   ·rw[decide_eq_false c1,decide_eq_false c2,b6 (by decide),fe9 _ _ _ _ (by decide)];rfl
noncomputable def uL(l:List (Nat×Nat))(k:Nat):Option Int:=match l[k]? with
 | some p=>if cE p=0 then none else some (cE p)
 | none=>none
noncomputable def lE(l:List (Nat×Nat)):Int:=if l.length=0 then 10 else if 1024<l.length then 8 else (dZ (uL l) l.length).getD 0
theorem aAk(l:List (Nat×Nat))(hl:l.length≤1024):run (bK (l.length:Int) l) 0=some (match dZ (uL l) l.length with|some e=>.inl e|none=>.inr ()):=by
 have H:∀ k:Nat,k<l.length→bK (l.length:Int) l (k:Int)=some (match uL l k with|none=>.inl ((k+1:Nat):Int)|some e=>.inr (.inl e)):=by
  intro k hk
  have hg:l[k]?=some l[k]:=b8 hk
  unfold bK gA uL
  rw[a9 (by rw[b9];omega),aT,hg]
  simp only[Option.bind_some]
  rw[Re]
  simp only[Option.bind_some]
  by_cases h:cE (l[k].1,l[k].2)=0
  ·have h':cE l[k]=0:=h
   rw[b6 (by simpa using h),a9 h',wsucc (n:=1024) (by omega) (by decide)]
  ·have h':cE l[k]≠0:=h
   rw[a9 (by simpa using h),b6 h']
 have h:=Ec (step:=bK (l.length:Int) l) (p:=uL l) (n:=l.length) (r:=()) (fun k hk hb=>by
  have h1:=H k hk
  cases hs:uL l k<;>rw[hs] at h1<;>exact h1) (fun _=>by
  unfold bK
  rw[b6 (by rw[b9];omega)])
 rw[h]
 cases dZ (uL l) l.length<;>rfl
theorem Es{l:List (Nat×Nat)}{n:Nat}{e:Int}(h:dZ (uL l) n=some e):e≠0:=by
 unfold dZ at h
 obtain⟨k,_,hk⟩:=List.exists_of_findSome?_eq_some h
 unfold uL at hk
 split at hk
 ·split at hk
  ·cases hk
  ·rename_i hz
   have:=a6 hk
   rw[← this];exact hz
 ·cases hk
theorem xL(l:List (Nat×Nat)):bT l=some (lE l):=by
 unfold bT aD mY iU aA lE
 simp only[Option.bind_some]
 by_cases h0:l.length=0
 ·rw[a9 h0]
  have e:decide ((l.length:Int)=0)=true:=by rw[b9];omega
  rw[e];rfl
 ·rw[b6 h0]
  have e:decide ((l.length:Int)=0)=false:=by rw[decide_eq_false_iff_not];omega
  rw[e]
  by_cases h1:1024<l.length
  ·rw[a9 h1]
   have e:decide ((l.length:Int)>1024)=true:=by rw[b9];omega
   rw[e];rfl
  ·rw[b6 h1]
   have e:decide ((l.length:Int)>1024)=false:=by rw[decide_eq_false_iff_not];omega
   rw[e]
   simp only[Bool.false_eq_true,if_false,Option.bind_some,ne_eq,not_true_eq_false,decide_false]
   unfold jZ
   rw[aAk l (by omega)]
   cases hf:dZ (uL l) l.length with
   | none=>rfl
   | some e =>
    have:=Es hf
    simp[this]
theorem aAX(l:List (Nat×Nat)):mW l=some (lE l):=by
 unfold mW lE
 by_cases h0:l.length=0
 ·rw[a9 h0,a9 (by rw[b9];omega)]
 rw[b6 h0,b6 (by rw[b9];omega)]
 by_cases h1:1024<l.length
 ·rw[a9 h1,a9 (by rw[b9];omega)]
 rw[b6 h1,b6 (by rw[b9];omega)]
 have H:∀ k:Nat,k<l.length→fE l (k:Int)=some (match uL l k with|none=>.inl ((k+1:Nat):Int)|some e=>.inr (.inl e)):=by
  intro k hk
  have hg:l[k]?=some l[k]:=b8 hk
  have ra:=Up (b:=l[k].1)
  have rb:=Up (b:=l[k].2)
  obtain⟨va,a1,a2,a3⟩:=ra.val
  obtain⟨vb,b1,b2,b3⟩:=rb.val
  unfold fE uL
  rw[a9 (by rw[b9];omega),aT,hg]
  simp only[Option.bind_some]
  rw[a1]
  simp only[Option.bind_some]
  rw[b1]
  simp only[Option.bind_some]
  rw[a2]
  simp only[Option.bind_some]
  unfold cE
  rw[wsucc (n:=1024) (by omega) (by decide)]
  cases ha:wv l[k].1 with
  | none=>simp
  | some x =>
   rw[ha] at a3
   simp only[Option.isSome_some,if_true]
   rw[b2]
   simp only[Option.bind_some]
   cases hb:wv l[k].2 with
   | none=>simp
   | some y =>
    rw[hb] at b3
    obtain⟨c1,c2⟩:=a3 x rfl
    obtain⟨d1,d2⟩:=b3 y rfl
    simp only[Option.isSome_some,if_true]
    rw[c1,c2,d1,d2]
    have hE:¬((-16777216≤x∧x≤16777216)∧(-16777216≤y∧y≤16777216))→(if sm24 x=true∧sm24 y=true then (0:Int) else 2)=2:=fun h=>b6 (by unfold sm24;simp only[decide_eq_true_eq];exact h)
    have hE0:((-16777216≤x∧x≤16777216)∧(-16777216≤y∧y≤16777216))→(if sm24 x=true∧sm24 y=true then (0:Int) else 2)=0:=fun h=>a9 (by unfold sm24;simp only[decide_eq_true_eq];exact h)
    by_cases p1:16777216<x
    ·rw[a9 (i7 p1),hE (by omega)];rfl
    rw[b6 (by simpa using p1)]
    by_cases p2:x < -16777216
    ·rw[a9 (i7 p2),hE (by omega)];rfl
    rw[b6 (by simpa using p2)]
    by_cases p3:16777216<y
    ·rw[a9 (i7 p3),hE (by omega)];rfl
    rw[b6 (by simpa using p3)]
    by_cases p4:y < -16777216
    ·rw[a9 (i7 p4),hE (by omega)];rfl
    rw[b6 (by simpa using p4),hE0 (by omega)];rfl
 have h:=Ec (step:=fE l) (p:=uL l) (n:=l.length) (r:=()) (fun k hk hb=>by
  have h1:=H k hk
  cases hs:uL l k<;>rw[hs] at h1<;>exact h1) (fun _=>by
  unfold fE
  rw[b6 (by rw[b9];omega)])
 rw[h]
 cases dZ (uL l) l.length<;>rfl
noncomputable def num(p:Nat×Nat):Int×Int:=((wv p.1).getD 0,(wv p.2).getD 0)
noncomputable def nums(l:List (Nat×Nat)):List (Int×Int):=l.map num
def small(z:Int×Int):Prop:=(-16777216≤z.1∧z.1≤16777216)∧(-16777216≤z.2∧z.2≤16777216)
instance (z:Int×Int):Decidable (small z):=by unfold small;exact inferInstance
def PV(p:Nat×Nat)(z:Int×Int):Prop:=SV p.1 z.1∧SV p.2 z.2
structure GoodL(l:List (Nat×Nat)):Prop where
 len:0<l.length∧l.length≤1024
 val:∀ p∈l,PV p (num p)∧small (num p)
theorem aBM{p:Nat×Nat}(h:cE p=0):PV p (num p)∧small (num p):=by
 unfold cE at h
 unfold num PV small
 cases ha:wv p.1 with
 | none=>rw[ha] at h;exact absurd h (by simp)
 | some x =>
  cases hb:wv p.2 with
  | none=>rw[ha,hb] at h;exact absurd h (by simp)
  | some y =>
   rw[ha,hb] at h
   simp only at h
   split at h
   ·rename_i hc
    unfold sm24 at hc
    simp only[decide_eq_true_eq] at hc
    exact⟨⟨Nz ha,Nz hb⟩,hc⟩
   ·exact absurd h (by decide)
theorem As{l:List (Nat×Nat)}(h:lE l=0):GoodL l:=by
 unfold lE at h
 by_cases h0:l.length=0
 ·rw[a9 h0] at h;exact absurd h (by decide)
 rw[b6 h0] at h
 by_cases h1:1024<l.length
 ·rw[a9 h1] at h;exact absurd h (by decide)
 rw[b6 h1] at h
 refine⟨⟨by omega,by omega⟩,fun p hp=>?_⟩
 cases hf:dZ (uL l) l.length with
 | some e=>rw[hf] at h;exact absurd h (Es hf)
 | none =>
  obtain⟨k,hk⟩:=j2.1 hp
  have hkl:=(a8.1 hk).1
  have:=firstOf_none.1 hf k hkl
  unfold uL at this
  rw[hk] at this
  simp only at this
  split at this
  ·rename_i hz;exact aBM hz
  ·cases this
theorem pY(l:List (Nat×Nat)):(nums l).length=l.length:=by unfold nums;simp
theorem Uu{l:List (Nat×Nat)}{k:Nat}(hk:k<l.length):(nums l)[k]?=some (num l[k]):=by
 unfold nums
 rw[e8,b8 hk]
 rfl
theorem Hx{b:Nat}{x:Int}(h:SV b x)(hb:-16777216≤x∧x≤16777216):f2i .f32 b .i64=some x:=aA7 h (by omega)
theorem xF{l:List (Nat×Nat)}(G:GoodL l):bN l=some (nums l):=by
 have hle:=G.len
 have key:=lU (step:=fK l) (st:=fun k (b:List (Int×Int))=>(b,(k:Int))) (g:=fun k b=>b++[num (l.getD k (0,0))]) (fin:=fun b=>b) l.length
  (fun k b=>b=(nums l).take k) (b0:=[]) (by simp) (fun k b hk hb=>by
   subst hb
   have hg:l[k]?=some l[k]:=b8 hk
   have hd:l.getD k (0,0)=l[k]:=by rw[i4,hg];rfl
   have hv:=G.val l[k] (List.getElem_mem hk)
   rw[hd]
   refine⟨?_,by rw[List.take_add_one,Uu hk];rfl⟩
   unfold fK oT
   simp only
   rw[a9 (by rw[b9];omega),aT,hg]
   simp only[Option.bind_some]
   rw[Hx hv.1.1 hv.2.1,Hx hv.1.2 hv.2.2]
   simp only[Option.bind_some,lL]
   rw[a9 (by simp;omega),wsucc (n:=1024) (by omega) (by decide)]
   rfl) (fun b hb=>by
   unfold fK
   simp only
   rw[b6 (by rw[b9];omega)])
 have hI:=key.2 l.length (b7 _)
 have hr:=key.1
 rw[hI,j4 (by rw[pY];omega)] at hr
 unfold bN
 simp only[Int.natCast_zero] at hr
 rw[hr]
 rfl
noncomputable def oL(z:Int×Int):Nat×Nat:=(FloatKind.f32.nearest z.1,FloatKind.f32.nearest z.2)
theorem Hn{x:Int}(h:-16777216≤x∧x≤16777216):SV (FloatKind.f32.nearest x) x:=by
 by_cases h1:x=16777216
 ·subst h1
  have e:FloatKind.f32.nearest 16777216=1266679808:=by decide +kernel
  rw[e]
  exact⟨_,_,_,read_b.1,Rd read_b.1,nv_b.1⟩
 by_cases h2:x = -16777216
 ·subst h2
  have e:FloatKind.f32.nearest (-16777216)=3414163456:=by decide +kernel
  rw[e]
  exact⟨_,_,_,read_b.2.1,Rd read_b.2.1,nv_b.2.1⟩
 have h24:(16777216:Nat)=2^24:=by decide
 exact aBR (by rw[← h24];omega)
theorem Kl{z:Int×Int}(h:small z):PV (oL z) z:=⟨Hn h.1,Hn h.2⟩
theorem aCw{p:Nat×Nat}{z:Int×Int}(h:PV p z):num p=z:=by
 unfold num
 rw[Pm h.1,Pm h.2]
 rfl
theorem aAU{z:Int×Int}(h:small z):num (oL z)=z:=aCw (Kl h)
theorem Fv(x:Int):gD x 16777216=some (decide (-16777216≤x∧x≤16777216)):=by
 unfold gD
 rw[w64 (x:=0-16777216) (by omega)]
 by_cases c:-16777216≤x
 ·rw[a9 (by rw[b9];omega)]
  congr 1
  rw[decide_eq_decide]
  omega
 ·rw[b6 (by rw[b9];omega)]
  congr 1
  symm
  rw[decide_eq_false_iff_not]
  omega
theorem Xe(z:Int×Int):(iH z.1 z.2 16777216).bind (fun (v6,v7)=>(aA v6 v7).bind fun v8=>some v8)=some (if small z then 0 else 8):=by
 unfold iH aD aA small
 rw[Fv,Fv]
 simp only[Option.bind_some]
 by_cases c1:-16777216≤z.1∧z.1≤16777216<;>by_cases c2:-16777216≤z.2∧z.2≤16777216<;>simp[c1,c2]
def xX(w:List (Int×Int))(k:Nat):Option Int:=match w[k]? with
 | some z=>if small z then none else some 8
 | none=>none
noncomputable def rec(w:List (Int×Int)):List (Nat×Nat)×Int:=if ∀ z∈w,small z then (w.map oL,0) else ([],8)
theorem big_none{w:List (Int×Int)}:dZ (xX w) w.length=none↔∀ z∈w,small z:=by
 rw[firstOf_none]
 constructor
 ·intro h z hz
  obtain⟨k,hk⟩:=j2.1 hz
  have:=h k (a8.1 hk).1
  unfold xX at this
  rw[hk] at this
  simp only at this
  split at this
  ·assumption
  ·cases this
 ·intro h k hk
  unfold xX
  rw[b8 hk]
  simp only
  rw[a9 (h _ (List.getElem_mem hk))]
theorem Yl{w:List (Int×Int)}{n:Nat}{e:Int}(h:dZ (xX w) n=some e):e=8:=by
 unfold dZ at h
 obtain⟨k,_,hk⟩:=List.exists_of_findSome?_eq_some h
 unfold xX at hk
 split at hk
 ·split at hk
  ·cases hk
  ·exact (a6 hk).symm
 ·cases hk
theorem Yu(w:List (Int×Int))(hw:w.length≤4096):run (eR w) (([]:List (Nat×Nat)),0)=some (w.map oL):=by
 have key:=lU (step:=eR w) (st:=fun k (b:List (Nat×Nat))=>(b,(k:Int))) (g:=fun k b=>b++[oL (w.getD k (0,0))]) (fin:=fun b=>b) w.length
  (fun k b=>b=(w.map oL).take k) (b0:=[]) (by simp) (fun k b hk hb=>by
   subst hb
   have hg:w[k]?=some w[k]:=b8 hk
   have hd:w.getD k (0,0)=w[k]:=by rw[i4,hg];rfl
   rw[hd]
   refine⟨?_,by rw[List.take_add_one,e8,hg];rfl⟩
   unfold eR
   simp only
   rw[a9 (by rw[b9];omega),aT,hg]
   simp only[Option.bind_some,lL]
   rw[a9 (by simp;omega),wsucc (n:=4096) (by omega) (by decide)]
   rfl) (fun b hb=>by
   unfold eR
   simp only
   rw[b6 (by rw[b9];omega)])
 have hI:=key.2 w.length (b7 _)
 have hr:=key.1
 rw[hI,j4 (by simp)] at hr
 simp only[Int.natCast_zero] at hr
 exact hr
theorem vF(w:List (Int×Int))(hw:w.length≤4096):bE w=some (rec w):=by
 have H:∀ k:Nat,k<w.length→cB (w.length:Int) w (k:Int)=some (match xX w k with|none=>.inl ((k+1:Nat):Int)|some e=>.inr (.inl e)):=by
  intro k hk
  have hg:w[k]?=some w[k]:=b8 hk
  unfold cB gR xX
  rw[a9 (by rw[b9];omega),aT,hg]
  simp only[Option.bind_some]
  have:=Xe w[k]
  rw[this]
  simp only[Option.bind_some]
  by_cases h:small w[k]
  ·rw[a9 h,a9 h,b6 (by decide),wsucc (n:=4096) (by omega) (by decide)]
  ·rw[b6 h,b6 h,a9 (by decide)]
 have h:=Ec (step:=cB (w.length:Int) w) (p:=xX w) (n:=w.length) (r:=()) (fun k hk hb=>by
  have h1:=H k hk
  cases hs:xX w k<;>rw[hs] at h1<;>exact h1) (fun _=>by
  unfold cB
  rw[b6 (by rw[b9];omega)])
 unfold bE mX kA rec
 simp only[Option.bind_some]
 rw[h]
 cases hf:dZ (xX w) w.length with
 | none =>
  rw[a9 (big_none.1 hf)]
  simp only[Option.bind_some]
  rw[b6 (by decide),Yu w hw]
  rfl
 | some e =>
  obtain rfl:=Yl hf
  rw[b6 (fun h=>by rw[big_none.2 h] at hf;cases hf)]
  rfl
theorem Xn(l:List (Nat×Nat))(hl:l.length≤1026):nH l=some l:=by
 have key:=lU (step:=kV l) (st:=fun k (b:List (Nat×Nat))=>(b,(k:Int))) (g:=fun k b=>b++[l.getD k (0,0)]) (fin:=fun b=>b) l.length
  (fun k b=>b=l.take k) (b0:=[]) (by simp) (fun k b hk hb=>by
   subst hb
   have hg:l[k]?=some l[k]:=b8 hk
   have hd:l.getD k (0,0)=l[k]:=by rw[i4,hg];rfl
   rw[hd]
   refine⟨?_,by rw[List.take_add_one,hg];rfl⟩
   unfold kV
   simp only
   rw[a9 (by rw[b9];omega),aT,hg]
   simp only[Option.bind_some,lL]
   rw[a9 (by simp;omega),wsucc (n:=1026) (by omega) (by decide)]
   rfl) (fun b hb=>by
   unfold kV
   simp only
   rw[b6 (by rw[b9];omega)])
 have hI:=key.2 l.length (b7 _)
 have hr:=key.1
 rw[hI,j4 (b7 _)] at hr
 unfold nH
 simp only[Int.natCast_zero] at hr
 rw[hr]
 rfl
theorem Xk{l:List (Nat×Nat)}(h:pC l=some true):l.length≤40∨(1024<l.length∧l.length≤1026):=by
 unfold pC at h
 split at h
 ·rename_i q
  have:=of_decide_eq_true q
  omega
 ·split at h
  ·rename_i q
   have h1:=of_decide_eq_true q
   have:=of_decide_eq_true (a6 h)
   omega
  ·cases h
theorem Xt(l:List (Nat×Nat)):∃ b,pC l=some b:=by
 unfold pC
 split
 ·exact⟨_,rfl⟩
 ·split<;>exact⟨_,rfl⟩
theorem Zj{b:Nat}{x:Int}(h:SV b x):∃ v,f2f .f32 b .f64=some v∧fbits .f64 v=some ((v:Nat):Int):=by
 obtain⟨s,m,e,h1,h2,h3⟩:=h
 obtain⟨M,E,hd⟩:=Ff (s:=s) h2
 refine⟨_,zV h1 h2,?_⟩
 have hn:=uG (k:=.f64) hd.rd
 unfold fbits
 rw[b6 (by rw[hn];decide)]
theorem Wr(l:List (Nat×Nat))(hl:l.length≤4096)(h:∀ p∈l,∃ z,PV p z):fD l l=some true:=by
 unfold fD
 rw[b6 (by simp)]
 have:run (eT l l) 0=some (.inr ()):=by
  refine bY (fun k=>(k:Int)) (n:=l.length) (fun k hk=>?_) ?_
  ·obtain⟨z,z1,z2⟩:=h l[k] (List.getElem_mem hk)
   obtain⟨a,a1,a2⟩:=Zj z1
   obtain⟨b,b1,b2⟩:=Zj z2
   unfold eT pN
   rw[a9 (by rw[b9];omega),aT,b8 hk]
   simp only[Option.bind_some,a1,b1,a2,b2,decide_true,if_true]
   rw[wsucc (n:=4096) (by omega) (by decide)]
  ·unfold eT
   rw[b6 (by rw[b9];omega)]
 rw[this]
 rfl
def zmul(a b:Int×Int):Int×Int:=(a.1*b.1-a.2*b.2,a.1*b.2+a.2*b.1)
def zadd(a b:Int×Int):Int×Int:=(a.1+b.1,a.2+b.2)
def zsub(a b:Int×Int):Int×Int:=(a.1-b.1,a.2-b.2)
def zsum(f:Nat→Int×Int):Nat→Int×Int
 | 0=>(0,0)
 | n+1=>zadd (zsum f n) (f n)
def zle(B:Int)(z:Int×Int):Prop:=(-B≤z.1∧z.1≤B)∧(-B≤z.2∧z.2≤B)
theorem Ub{f:Nat→Int×Int}{B:Int}:∀ {n:Nat},(∀ k,k<n→zle B (f k))→zle (n*B) (zsum f n)
 | 0,_=>by simp[zsum,zle]
 | n+1,h=>by
  have ih:=Ub (f:=f) (n:=n) (fun k hk=>h k (by omega))
  have h1:=h n (by omega)
  unfold zle at *
  simp only[zsum,zadd]
  have e:((n+1:Nat):Int)*B=n*B+B:=by rw[Int.natCast_add,Int.add_mul];simp
  rw[e]
  omega
def at0(w:List (Int×Int))(k:Nat):Int×Int:=w.getD k (0,0)
theorem nZ{w:List (Int×Int)}{k:Nat}(hk:k<w.length):w[k]?=some (at0 w k):=by
 unfold at0
 rw[i4,b8 hk]
 rfl
theorem pD{w:List (Int×Int)}(h:∀ z∈w,small z)(k:Nat):small (at0 w k):=by
 unfold at0
 by_cases hk:k<w.length
 ·rw[i4,b8 hk]
  exact h _ (List.getElem_mem hk)
 ·rw[i4,j7 (by omega)]
  unfold small
  simp
def cvT(a b:List (Int×Int))(k i:Nat):Int×Int:=if i≤k∧k-i<b.length then zmul (at0 a i) (at0 b (k-i)) else (0,0)
def cvS(a b:List (Int×Int))(i k:Nat):Int×Int:=zsum (cvT a b k) i
def cvI(a b:List (Int×Int))(i j k:Nat):Int×Int:=if i≤k∧k-i<j then zadd (cvS a b i k) (zmul (at0 a i) (at0 b (k-i))) else cvS a b i k
def cvL(a b:List (Int×Int))(i j:Nat):List (Int×Int):=(List.range (a.length+b.length-1)).map (cvI a b i j)
section
variable {a b:List (Int×Int)}
def cv(a b:List (Int×Int)):List (Int×Int):=cvL a b a.length 0
end
theorem yL{l:List (Nat×Nat)}(G:GoodL l):∀ z∈nums l,small z:=by
 intro z hz
 unfold nums at hz
 obtain⟨p,hp,rfl⟩:=l5.1 hz
 exact (G.val p hp).2
end Go.Rex
namespace Go.Rex
open Go Go.Rex
set_option maxRecDepth 100000
def aAg(u:Int×Int):Prop:=u=(1,0)∨u=(0,1)∨u=(-1,0)∨u=(0,-1)
section
variable {r c:List (Int×Int)}
end
end Go.Rex
namespace Go.Rex
open Go Go.Rex
set_option maxRecDepth 100000
instance (u:Int×Int):Decidable (aAg u):=by unfold aAg;exact inferInstance
end Go.Rex
namespace Go.Rex
def jH{α ε:Type}(P:α→Bool)(ex:Nat→α→ε)(en:ε):Nat→List α→ε
 | _,[]=>en
 | k,x::t=>if P x=true then ex k x else jH P ex en (k+1) t
theorem vY{α σ ε:Type}{step:σ→Option (σ ⊕ ε)}(st:Nat→σ)(P:α→Bool)(ex:Nat→α→ε)(en:ε) :
 ∀(xs ys:List α),(∀(k:Nat) x,(ys++xs)[k]?=some x→step (st k)=some (if P x=true then .inr (ex k x) else .inl (st (k+1))))→step (st (ys++xs).length)=some (.inr en)→run step (st ys.length)=some (jH P ex en ys.length xs)
 | [],ys,_,he=>by rw[List.append_nil] at he;exact jW he
 | x::t,ys,hs,he=>by
  have h1:=hs ys.length x (by simp)
  by_cases hp:P x=true
  ·rw[a9 hp] at h1
   rw[jW h1,jH,a9 hp]
  ·rw[b6 hp] at h1
   rw[lK h1,jH,b6 hp]
   have:=vY st P ex en t (ys++[x]) (fun k y hk=>hs k y (by simpa using hk)) (by simpa using he)
   simpa using this
theorem Jf{α σ ε:Type}{step:σ→Option (σ ⊕ ε)}(st:Nat→σ)(P:α→Bool)(ex:Nat→α→ε)(en:ε)(xs:List α)(hs:∀(k:Nat) x,xs[k]?=some x→step (st k)=some (if P x=true then .inr (ex k x) else .inl (st (k+1))))(he:step (st xs.length)=some (.inr en)){s:σ}(h0:s=st 0):run step s=some (jH P ex en 0 xs):=by
 subst h0
 exact vY st P ex en xs [] hs he
def fbit(L s:Nat)(ts:List Nat):Nat:=ts.foldl (fun a t=>(a+s/2^(L-t)%2)%2) 0
def nx(L:Nat)(ts:List Nat)(s:Nat):Nat:=s/2+fbit L s ts*2^(L-1)
structure Reg(L:Nat)(ts:List Nat):Prop where
 two:2≤L
 most:L≤8
 le:∀ t,t∈ts→1≤t∧t≤L
 last:∃ t',ts=t'++[L]∧∀ t,t∈t'→t<L
 len:ts.length≤12
theorem Ej(L s:Nat):∀(ts:List Nat) (a:Nat),a<2→ts.foldl (fun a t=>(a+s/2^(L-t)%2)%2) a<2
 | [],a,h=>h
 | t::ts,a,h=>Ej L s ts _ (i9 _ (by omega))
theorem pM(L s:Nat)(ts:List Nat):fbit L s ts<2:=Ej L s ts 0 (by omega)
theorem tJ{L:Nat}(h:1≤L):2^L=2*2^(L-1):=by
 obtain⟨k,rfl⟩:∃ k,L=k+1:=⟨L-1,by omega⟩
 rw[Nat.add_sub_cancel,k5]
 omega
theorem aB4{L:Nat}{ts:List Nat}{s:Nat}(hL:1≤L)(hs:s<2^L):nx L ts s<2^L:=by
 have h1:=pM L s ts
 have e:=tJ hL
 unfold nx
 have h2:s/2<2^(L-1):=by omega
 have h3:fbit L s ts*2^(L-1)≤1*2^(L-1):=g7 _ (by omega)
 omega
theorem Cc(L s s':Nat)(h:s/2=s'/2):∀(ts:List Nat) (a:Nat),(∀ t,t∈ts→t<L)→ts.foldl (fun a t=>(a+s/2^(L-t)%2)%2) a=ts.foldl (fun a t=>(a+s'/2^(L-t)%2)%2) a
 | [],a,_=>rfl
 | t::ts,a,ht=>by
  have h1:=ht t (by simp)
  obtain⟨j,hj⟩:∃ j,L-t=j+1:=⟨L-t-1,by omega⟩
  simp only[List.foldl_cons]
  have e:s/2^(L-t)=s'/2^(L-t):=by
   rw[hj,Nat.pow_succ',← Nat.div_div_eq_div_mul,← Nat.div_div_eq_div_mul,h]
  rw[e]
  exact Cc L s s' h ts _ (fun t ht'=>ht t (by simp[ht']))
theorem Jd{L s:Nat}{ts t':List Nat}(h:ts=t'++[L]):fbit L s ts=(fbit L s t'+s%2)%2:=by
 subst h
 unfold fbit
 rw[List.foldl_append]
 simp
theorem Sw{L:Nat}{ts:List Nat}(hr:Reg L ts){s s':Nat}(hs:s<2^L)(hs':s'<2^L)(h:nx L ts s=nx L ts s'):s=s':=by
 obtain⟨t',e,hl⟩:=hr.last
 have h2:=hr.two
 have e2:=tJ (L:=L) (by omega)
 unfold nx at h
 have b1:=pM L s ts
 have b2:=pM L s' ts
 have hp:=j0 (L-1)
 have hc:fbit L s ts=fbit L s' ts:=by
  rcases (show fbit L s ts=0∨fbit L s ts=1 by omega) with q|q<;>rcases (show fbit L s' ts=0∨fbit L s' ts=1 by omega) with q'|q'<;>rw[q,q'] at h ⊢<;>omega
 have hd:s/2=s'/2:=by rw[hc] at h;omega
 rw[Jd e,Jd e] at hc
 have:fbit L s t'=fbit L s' t':=Cc L s s' hd t' 0 hl
 have l1:=pM L s t'
 rw[this] at hc
 have l2:=pM L s' t'
 omega
theorem Vc(L:Nat):∀ ts:List Nat,nx L ts 0=0:=by
 have:∀(ts:List Nat),fbit L 0 ts=0:=by
  intro ts
  unfold fbit
  induction ts with
  | nil=>rfl
  | cons t ts ih=>simpa using ih
 intro ts
 unfold nx
 rw[this ts]
 simp
theorem aCE{L:Nat}{ts:List Nat}(hr:Reg L ts){s:Nat}(h0:0<s)(hs:s<2^L):0<nx L ts s:=by
 rcases Nat.eq_zero_or_pos (nx L ts s) with h|h
 ·have:=Sw hr hs (j0 L) (by rw[h,Vc])
  omega
 ·exact h
def stt(L:Nat)(ts:List Nat)(s:Nat):Nat→Nat
 | 0=>s
 | t+1=>nx L ts (stt L ts s t)
theorem stt_succ'(L:Nat)(ts:List Nat)(s:Nat):∀ t,stt L ts s (t+1)=stt L ts (nx L ts s) t
 | 0=>rfl
 | t+1=>by
  show nx L ts (stt L ts s (t+1))=nx L ts (stt L ts (nx L ts s) t)
  rw[stt_succ' L ts s t]
theorem uD(L:Nat)(ts:List Nat)(s a:Nat):∀ b,stt L ts s (a+b)=stt L ts (stt L ts s a) b
 | 0=>rfl
 | b+1=>by
  show nx L ts (stt L ts s (a+b))=nx L ts (stt L ts (stt L ts s a) b)
  rw[uD L ts s a b]
section
variable {L:Nat} {ts:List Nat} {s:Nat}
theorem kD(hr:Reg L ts)(h0:0<s)(hs:s<2^L):∀ t,0<stt L ts s t∧stt L ts s t<2^L
 | 0=>⟨h0,hs⟩
 | t+1=>by
  obtain⟨a,b⟩:=kD hr h0 hs t
  exact⟨aCE hr a b,aB4 (by have:=hr.two;omega) b⟩
def bt(L:Nat)(ts:List Nat)(s t:Nat):Nat:=stt L ts s t%2
theorem Yd(hr:Reg L ts){x:Nat}(hx:x<2^L){i:Nat}(hi:i+1<L):nx L ts x/2^i%2=x/2^(i+1)%2:=by
 unfold nx
 obtain⟨j,hj⟩:∃ j,L-1=i+(j+1):=⟨L-1-i-1,by omega⟩
 have e:fbit L x ts*2^(L-1)=2^i*(2*(fbit L x ts*2^j)):=by
  rw[hj,l4,k5]
  simp only[Nat.mul_comm,Nat.mul_left_comm,Nat.mul_assoc]
 rw[e,Nat.add_mul_div_left _ _ (j0 i),Nat.add_mul_mod_self_left,Nat.div_div_eq_div_mul,Nat.pow_succ']
theorem aCT(hr:Reg L ts){x:Nat}(hx:x<2^L):nx L ts x/2^(L-1)%2=fbit L x ts:=by
 have h2:=hr.two
 have e2:=tJ (L:=L) (by omega)
 unfold nx
 have h1:x/2<2^(L-1):=by omega
 rw[Nat.add_mul_div_right _ _ (j0 _),Nat.div_eq_of_lt h1,k7,g6 (pM _ _ _)]
theorem window(hr:Reg L ts)(h0:0<s)(hs:s<2^L):∀(i t:Nat),i<L→stt L ts s t/2^i%2=bt L ts s (t+i)
 | 0,t,_=>by simp[bt]
 | i+1,t,hi=>by
  have h1:=window hr h0 hs i (t+1) (by omega)
  have h2:=Yd hr (kD hr h0 hs t).2 (i:=i) hi
  rw[show t+(i+1)=t+1+i by omega,← h1,← h2]
  rfl
theorem aCH(hr:Reg L ts)(h0:0<s)(hs:s<2^L)(t:Nat):bt L ts s (t+L)=ts.foldl (fun a p=>(a+bt L ts s (t+L-p))%2) 0:=by
 have h2:=hr.two
 have h1:=window hr h0 hs (L-1) (t+1) (by omega)
 rw[show t+1+(L-1)=t+L by omega] at h1
 rw[← h1]
 have h3:=aCT hr (kD hr h0 hs t).2
 have h4:stt L ts s (t+1)=nx L ts (stt L ts s t):=rfl
 rw[h4,h3]
 unfold fbit
 have key:∀(l:List Nat) (a:Nat),(∀ p,p∈l→1≤p∧p≤L)→l.foldl (fun a p=>(a+stt L ts s t/2^(L-p)%2)%2) a=l.foldl (fun a p=>(a+bt L ts s (t+L-p))%2) a:=by
  intro l
  induction l with
  | nil=>intro a _;rfl
  | cons p l ih =>
   intro a hl
   have hp:=hl p (by simp)
   simp only[List.foldl_cons]
   rw[window hr h0 hs (L-p) t (by omega),show t+(L-p)=t+L-p by omega]
   exact ih _ (fun q hq=>hl q (by simp[hq]))
 exact key ts 0 hr.le
theorem returns(hr:Reg L ts)(h0:0<s)(hs:s<2^L):∃ n,1≤n∧n≤2^L-1∧stt L ts s n=s:=by
 have hdup:∃ i j,i<j∧j≤2^L-1∧stt L ts s i=stt L ts s j:=by
  apply g8
  intro hno
  have hnd:((List.range (2^L)).map (stt L ts s)).Nodup:=by
   rw[List.nodup_iff_pairwise_ne,List.pairwise_map]
   refine List.Pairwise.imp_of_mem ?_ List.pairwise_lt_range
   intro a b ha hb hlt he
   exact hno ⟨a,b,hlt,by have:=List.mem_range.1 hb;omega,he⟩
  have hsub:((List.range (2^L)).map (stt L ts s))⊆(List.range (2^L-1)).map (· + 1):=by
   intro x hx
   obtain⟨t,_,rfl⟩:=l5.1 hx
   obtain⟨a,b⟩:=kD hr h0 hs t
   exact l5.2 ⟨stt L ts s t-1,List.mem_range.2 (by omega),by omega⟩
  have:=hnd.length_le_of_subset hsub
  simp at this
  have:=j0 L
  omega
 obtain⟨i,j,hij,hj,he⟩:=hdup
 have back:∀(i k:Nat),stt L ts s i=stt L ts s (i+k)→s=stt L ts s k:=by
  intro i
  induction i with
  | zero=>intro k h;simpa [stt] using h
  | succ i ih =>
   intro k h
   rw[show i+1+k=(i+k)+1 by omega] at h
   exact ih k (Sw hr (kD hr h0 hs i).2 (kD hr h0 hs (i+k)).2 h)
 refine⟨j-i,by omega,by omega,?_⟩
 exact (back i (j-i) (by rw[he];congr 1;omega)).symm
theorem least{P:Nat→Prop}(h:∃ n,P n):∃ n,P n∧∀ m,m<n→¬ P m:=by
 obtain⟨n,hn⟩:=h
 induction n using Nat.strongRecOn with
 | _ n ih =>
  by_cases hx:∃ m,m<n∧P m
  ·obtain⟨m,hm,hp⟩:=hx
   exact ih m hm hp
  ·exact⟨n,hn,fun m hm hp=>hx ⟨m,hm,hp⟩⟩
def wX(L:Nat)(ts:List Nat)(s n:Nat):Prop:=(1≤n∧stt L ts s n=s)∧∀ m,m<n→¬(1≤m∧stt L ts s m=s)
theorem Qn(hr:Reg L ts)(h0:0<s)(hs:s<2^L):∃ n,wX L ts s n∧n≤2^L-1:=by
 obtain⟨n,h1,h2,h3⟩:=returns hr h0 hs
 obtain⟨m,hm,hl⟩:=least (P:=fun n=>1≤n∧stt L ts s n=s) ⟨n,h1,h3⟩
 refine⟨m,⟨hm,hl⟩,?_⟩
 rcases d5 n m with h|h
 ·exact absurd ⟨h1,h3⟩ (hl n h)
 ·omega
end
theorem w64n{x:Nat}(h:x<9223372036854775808):IntKind.i64.wrap (x:Int)=x:=w64 (by omega)
theorem Nk{v:Nat}(h:v<2^62):yP .and .i64 (v:Int) 1=((v%2:Nat):Int):=by
 show IntKind.i64.wrap (((BitVec.ofInt 64 (v:Int) &&& BitVec.ofInt 64 1).toNat:Nat):Int)=_
 have:(BitVec.ofInt 64 (v:Int) &&& BitVec.ofInt 64 1).toNat=v%2:=by
  rw[BitVec.ofInt_natCast,BitVec.toNat_and,BitVec.toNat_ofNat,g6 (by omega)]
  show v &&& 1=_
  exact Nat.and_one_is_mod v
 rw[this,w64n (by omega)]
theorem Wd{a b:Nat}(ha:a<2)(hb:b<2):yP .xor .i64 (a:Int) (b:Int)=(((a+b)%2:Nat):Int):=by
 rcases (show a=0∨a=1 by omega) with rfl|rfl<;>rcases (show b=0∨b=1 by omega) with rfl|rfl<;>decide
theorem Xj{a i c:Nat}(ha:a<2^i)(hc:c<2)(hi:i≤60):yP .or .i64 (a:Int) ((c*2^i:Nat):Int)=((a+c*2^i:Nat):Int):=by
 have hp:2^i≤2^60:=j6 (by omega) hi
 have hcm:c*2^i≤1*2^i:=g7 _ (by omega)
 show IntKind.i64.wrap (((BitVec.ofInt 64 (a:Int) ||| BitVec.ofInt 64 ((c*2^i:Nat):Int)).toNat:Nat):Int)=_
 have:(BitVec.ofInt 64 (a:Int) ||| BitVec.ofInt 64 ((c*2^i:Nat):Int)).toNat=a+c*2^i:=by
  rw[BitVec.ofInt_natCast,BitVec.ofInt_natCast,BitVec.toNat_or,BitVec.toNat_ofNat,BitVec.toNat_ofNat,g6 (by omega),g6 (by omega),Nat.or_comm,i8 c,← Nat.two_pow_add_eq_or_of_lt ha c,Nat.add_comm]
 rw[this,w64n (by omega)]
theorem Yh{v k:Nat}{n:Int}(hk:k≤60)(hn:n=(k:Int)):shI .shr .i64 (v:Int) n=some ((v/2^k:Nat):Int):=by
 subst hn
 unfold shI
 rw[b6 (by omega)]
 simp only
 have:min (k:Int).toNat IntKind.i64.bits=k:=by
  have:IntKind.i64.bits=64:=rfl
  omega
 rw[this,Int.fdiv_eq_ediv_of_nonneg _ (Int.pow_nonneg (by omega))]
 congr 1
theorem aAQ{v k:Nat}{n:Int}(hk:k≤60)(hv:v<2)(hn:n=(k:Int)):shI .shl .i64 (v:Int) n=some ((v*2^k:Nat):Int):=by
 subst hn
 unfold shI
 rw[b6 (by omega)]
 simp only
 have:min (k:Int).toNat IntKind.i64.bits=k:=by
  have:IntKind.i64.bits=64:=rfl
  omega
 have hp:2^k≤2^60:=j6 (by omega) hk
 have hcm:v*2^k≤1*2^k:=g7 _ (by omega)
 have e:(v:Int)*2^k=((v*2^k:Nat):Int):=by simp
 rw[this,e,w64n (by omega)]
end Go.Rex
namespace Go.Rex
abbrev ints(l:List Nat):List Int:=l.map (fun (t:Nat)=>(t:Int))
section
variable {L:Nat} {ts:List Nat} {s:Nat}
theorem Bn{α:Type}{l:List α}{k:Nat}{x:α}(h:l[k]?=some x):l.take (k+1)=l.take k++[x]:=by
 rw[List.take_add_one,h];rfl
theorem Tp(hr:Reg L ts)(hs:s<2^L):dU L (ints ts) s=some ((nx L ts s:Nat):Int):=by
 have h2:=hr.two
 have h8:=hr.most
 have hb:s<2^62:=f0 hs (j6 (by omega) (by omega))
 unfold dU
 have hrun:=bY (step:=cK L (ints ts) s) (e:=((fbit L s ts:Nat):Int)) (fun k=>((((ts.take k).foldl (fun a t=>(a+s/2^(L-t)%2)%2) 0:Nat):Int),(k:Int))) (n:=ts.length) (fun k hk=>?_) ?_
 ·rw[show ((0:Int),(0:Int))=((((ts.take 0).foldl (fun a t=>(a+s/2^(L-t)%2)%2) 0:Nat):Int),((0:Nat):Int)) from rfl,hrun,a7,Yh (k:=1) (n:=1) (by omega) rfl,a7]
  have hw:IntKind.i64.wrap ((L:Int)-1)=((L-1:Nat):Int):=by rw[w64 (by omega)];omega
  rw[aAQ (k:=L-1) (by omega) (pM L s ts) hw,a7]
  have hp:=tJ (L:=L) (by omega)
  have:=Xj (a:=s/2^1) (i:=L-1) (c:=fbit L s ts) (by omega) (pM L s ts) (by omega)
  rw[this]
  rfl
 ·obtain⟨t,ht⟩:∃ t,ts[k]?=some t:=⟨_,b8 hk⟩
  have htm:=hr.le t (d7 ht)
  dsimp only[cK]
  rw[a9 (by simpa using hk),aT,e8,ht,m9,a7]
  have hw:IntKind.i64.wrap ((L:Int)-(t:Int))=((L-t:Nat):Int):=by rw[w64 (by omega)];omega
  rw[Yh (k:=L-t) (by omega) hw,a7,Bn ht,List.foldl_append]
  rw[Nk (Nat.lt_of_le_of_lt (Nat.div_le_self _ _) hb),Wd (Ej L s (ts.take k) 0 (by omega)) (i9 _ (by omega))]
  rw[w64 (x:=(k:Int)+1) (by have:=hr.len;omega)]
  rfl
 ·dsimp only[cK]
  rw[b6 (by simp),List.take_length]
  rfl
theorem Hk(hr:Reg L ts)(h0:0<s)(hs:s<2^L){σ ε:Type}{step:Int→σ→Option (σ ⊕ ε)}(y:Nat→σ){n:Nat}{z:ε}(h:∀ k,k<n→step ((stt L ts s k:Nat):Int) (y k)=some (.inl (y (k+1))))(hn:step ((stt L ts s n:Nat):Int) (y n)=some (.inr z)) :
 aH s L (ints ts) (hand step) (.inl (y 0))=some (.inr z):=by
 unfold aH
 have hrun:=bY (step:=aU (hand step) L (ints ts)) (e:=.inr z) (fun k=>((((stt L ts s k:Nat):Int)),(Sum.inl (y k):σ ⊕ ε))) (n:=n) (fun k hk=>?_) ?_
 ·rw[show (((s:Nat):Int),(Sum.inl (y 0):σ ⊕ ε))=((((stt L ts s 0:Nat):Int)),(Sum.inl (y 0):σ ⊕ ε)) from rfl,hrun]
  rfl
 ·dsimp only[aU]
  simp only[hand,h k hk,Option.map_some,Option.bind_some,if_true]
  rw[Tp hr (kD hr h0 hs k).2]
  rfl
 ·dsimp only[aU]
  simp only[hand,hn,Option.map_some,Option.bind_some,Bool.false_eq_true,if_false]
def btl(L:Nat)(ts:List Nat)(s n:Nat):List Int:=(List.range n).map fun t=>((bt L ts s t:Nat):Int)
theorem Fy(L:Nat)(ts:List Nat)(s n:Nat):btl L ts s (n+1)=btl L ts s n++[((bt L ts s n:Nat):Int)]:=by
 unfold btl
 rw[List.range_succ,List.map_append]
 rfl
theorem uM(L:Nat)(ts:List Nat)(s n:Nat):(btl L ts s n).length=n:=by simp[btl]
theorem Js(a:Int)(b:List Int)(c:Int):eC a b c=some (c,a,b):=rfl
theorem Vv(hr:Reg L ts)(h0:0<s)(hs:s<2^L){n:Nat}(hp:wX L ts s n)(hn:n≤2^L-1):eP L (ints ts) s=some (n:Int):=by
 obtain⟨⟨h1,h2⟩,h3⟩:=hp
 have h8:=hr.most
 have hL:2^L≤2^8:=j6 (by omega) h8
 unfold eP
 rw[Tp hr hs,a7,Js,a7]
 dsimp only
 have hx:=kD hr h0 hs 1
 obtain⟨m,rfl⟩:∃ m,n=m+1:=⟨n-1,by omega⟩
 have:=Hk hr (s:=nx L ts s) hx.1 hx.2 (step:=cW s) (fun k=>((k+1:Nat):Int)) (n:=m) (z:=((m+1:Nat):Int)) (fun k hk=>?_) ?_
 ·rw[show (1:Int)=(((0+1:Nat):Nat):Int) from rfl]
  rw[this]
  rfl
 ·dsimp only[cW]
  rw[← stt_succ']
  have:=h3 (k+1) (by omega)
  rw[b6 (by simp only[decide_eq_true_eq];intro e;exact this ⟨by omega,by omega⟩),w64 (by omega)]
  congr 2
 ·dsimp only[cW]
  rw[← stt_succ',h2,a9 (by simp)]
end
end Go.Rex
namespace Go.Rex
theorem tD(x a b:Int):fU x a b=some (decide (a≤x∧x≤b)):=by
 unfold fU
 by_cases h:a≤x<;>simp[h]
theorem oZ(x a b:Int):bV x a b=some (!decide (a≤x∧x≤b),2):=by
 unfold bV aD
 by_cases h:x<a
 ·rw[a9 (by simpa using h)]
  have:¬(a≤x∧x≤b):=by omega
  simp[this]
 ·rw[b6 (by simpa using h)]
  by_cases h2:x≤b
  ·have h3:a≤x∧x≤b:=by omega
   have h4:¬ x>b:=by omega
   simp[h3,h4]
  ·have h3:¬(a≤x∧x≤b):=by omega
   have h4:x>b:=by omega
   simp only[h3,h4,decide_true,decide_false,Bool.not_false,Option.bind_some]
theorem tQ(b:Bool)(e:Int):aD b e=some (b,e):=rfl
theorem lJ(b:Bool)(e:Int):aA b e=some (if b=true then e else 0):=by
 unfold aA;cases b<;>rfl
theorem aBy(l:List Int)(h:l.length≤2000):mU l=some l:=by
 unfold mU lL
 rw[a9 ⟨by simp;omega,by simp;omega⟩]
 rfl
theorem Pc(a:Int)(l:List Int)(h:l.length≤2000):nM a l=some (a,l):=by
 unfold nM
 rw[aBy l h]
 rfl
def gk(L:Int)(l:List Int)(k:Nat):Int:=
 if 1≤l.getD k 0∧l.getD k 0≤L then (if 0<k∧l.getD k 0≤l.getD (k-1) 0 then 9 else 0) else 2
def Bm(L:Int)(l:List Int):Int:=jH (fun k=>decide (gk L l k≠0)) (fun _ k=>gk L l k) 0 0 (List.range l.length)
def chk(L:Int)(l:List Int):Int:=
 if ¬(2≤L∧L≤8) then 2 else if l.length=0 then 10 else if Bm L l≠0 then Bm L l else if l.getD (l.length-1) 0≠L then 6 else 0
theorem sG{l:List Int}{k:Nat}(h:k<l.length):l[k]?=some (l.getD k 0):=by
 rw[i4,b8 h];rfl
theorem Fe{L:Int}{l:List Int}(h:Bm L l=0):∀ k,k<l.length→gk L l k=0:=by
 have key:∀(xs:List Nat) (j:Nat),jH (fun k=>decide (gk L l k≠0)) (fun _ k=>gk L l k) 0 j xs=0→∀ k,k∈xs→gk L l k=0:=by
  intro xs
  induction xs with
  | nil=>intro j _ k hk;cases hk
  | cons x t ih =>
   intro j hj k hk
   unfold jH at hj
   by_cases hx:gk L l x=0
   ·rw[b6 (by simpa using hx)] at hj
    rcases j9.1 hk with rfl|hk
    ·exact hx
    ·exact ih _ hj k hk
   ·rw[a9 (by simpa using hx)] at hj
    exact absurd hj hx
 intro k hk
 exact key _ 0 h k (List.mem_range.2 hk)
theorem Kq{L:Int}{l:List Int}{k:Nat}(h:gk L l k=0):1≤l.getD k 0∧l.getD k 0≤L∧(0<k→l.getD (k-1) 0<l.getD k 0):=by
 unfold gk at h
 split at h
 ·rename_i h1
  split at h
  ·cases h
  ·rename_i h2
   exact⟨h1.1,h1.2,fun hk=>by omega⟩
 ·cases h
theorem Vb{ε:Type}{step:Int→Option (Int ⊕ ε)}{L:Int}{l:List Int}(inj:Int→ε)(en:ε)(hl:l.length≤2000)(hs:∀ k:Nat,k<l.length→step (k:Int)=some (if gk L l k≠0 then .inr (inj (gk L l k)) else .inl ((k+1:Nat):Int)))(he:step (l.length:Int)=some (.inr en)) :
 ∃ z,run step 0=some z∧((Bm L l=0∧z=en)∨(Bm L l≠0∧z=inj (Bm L l))):=by
 have hrun:=Jf (step:=step) (fun k:Nat=>(k:Int)) (fun k=>decide (gk L l k≠0)) (fun _ k=>inj (gk L l k)) en (List.range l.length) (fun k x hx=>by
  obtain⟨h1,h2⟩:=a8.1 hx
  rw[List.getElem_range] at h2
  subst h2
  rw[hs k (by simpa using h1)]
  by_cases q:gk L l k=0<;>simp[q]) (by simpa using he) (s:=0) rfl
 refine⟨_,hrun,?_⟩
 have key : ∀ (xs : List Nat) (j : Nat), (jH (fun k => decide (gk L l k ≠ 0)) (fun _ k => gk L l k) 0 j xs = 0 ∧ jH (fun k => decide (gk L l k ≠ 0)) (fun _ k => inj (gk L l k)) en j xs = en) ∨
     (jH (fun k=>decide (gk L l k≠0)) (fun _ k=>gk L l k) 0 j xs≠0∧jH (fun k=>decide (gk L l k≠0)) (fun _ k=>inj (gk L l k)) en j xs=inj (jH (fun k=>decide (gk L l k≠0)) (fun _ k=>gk L l k) 0 j xs)):=by
  intro xs
  induction xs with
  | nil=>intro j;exact .inl ⟨rfl,rfl⟩
  | cons x t ih =>
   intro j
   unfold jH
   by_cases hx:gk L l x=0
   ·rw[b6 (by simpa using hx),b6 (by simpa using hx)]
    exact ih (j+1)
   ·rw[a9 (by simpa using hx),a9 (by simpa using hx)]
    exact .inr ⟨hx,rfl⟩
 exact key _ 0
theorem aDk{L:Int}{l:List Int}{k:Nat}(q:¬(1≤l.getD k 0∧l.getD k 0≤L)):gk L l k=2:=by unfold gk;rw[b6 q]
theorem aDi{L:Int}{l:List Int}{k:Nat}(q:1≤l.getD k 0∧l.getD k 0≤L)(q2:0<k)(q3:l.getD k 0≤l.getD (k-1) 0):gk L l k=9:=by unfold gk;rw[a9 q,a9 ⟨q2,q3⟩]
theorem aBN{L:Int}{l:List Int}{k:Nat}(q:1≤l.getD k 0∧l.getD k 0≤L)(q3:0<k→¬ l.getD k 0≤l.getD (k-1) 0):gk L l k=0:=by unfold gk;rw[a9 q,b6 (fun h=>q3 h.1 h.2)]
theorem Th(L:Int)(l:List Int)(hl:l.length≤12):gP L l=some (chk L l):=by
 unfold gP chk
 rw[tD,a7]
 by_cases h1:2≤L∧L≤8
 ·rw[a9 (c:=decide (2≤L∧L≤8)=true) (by simpa using h1),b6 (c:=¬(2≤L∧L≤8)) (fun h=>h h1)]
  by_cases h2:l.length=0
  ·rw[a9 (c:=decide ((l.length:Int)=0)=true) (by simpa using h2),a9 (c:=l.length=0) h2]
  ·rw[b6 (c:=decide ((l.length:Int)=0)=true) (by simpa using h2),b6 (c:=l.length=0) h2]
   obtain⟨z,hz,hc⟩:=Vb (step:=cV L l) (L:=L) (l:=l) .inl (.inr ()) (by omega) (fun k hk=>by
    dsimp only[cV]
    rw[a9 (c:=decide ((k:Int)<(l.length:Int))=true) (by simpa using hk),aT,sG hk,a7,tD,a7]
    by_cases q:1≤l.getD k 0∧l.getD k 0≤L
    ·rw[a9 (c:=decide (1≤l.getD k 0∧l.getD k 0≤L)=true) (by simpa using q)]
     by_cases q2:0<k
     ·rw[a9 (c:=decide ((k:Int)>0)=true) (by simpa using q2),uU (k:=k-1) (by rw[w64 (by omega)];omega),sG (by omega),a7]
      by_cases q3:l.getD k 0≤l.getD (k-1) 0
      ·rw[a9 (c:=decide (l.getD k 0≤l.getD (k-1) 0)=true) (by simpa using q3),aDi q q2 q3];rfl
      ·rw[b6 (c:=decide (l.getD k 0≤l.getD (k-1) 0)=true) (by simpa using q3),aBN q (fun _=>q3),w64 (by omega)];rfl
     ·rw[b6 (c:=decide ((k:Int)>0)=true) (by simpa using q2),aBN q (fun h=>absurd h q2),w64 (by omega)];rfl
    ·rw[b6 (c:=decide (1≤l.getD k 0∧l.getD k 0≤L)=true) (by simpa using q),aDk q];rfl) (by
    dsimp only[cV]
    rw[b6 (by simp)])
   rw[hz,a7]
   rcases hc with⟨h3,rfl⟩|⟨h3,rfl⟩
   ·rw[b6 (c:=Bm L l≠0) (fun h=>h h3)]
    dsimp only
    rw[uU (k:=l.length-1) (by rw[w64 (by omega)];omega),sG (by omega),a7]
    by_cases q:l.getD (l.length-1) 0=L<;>simp only[q,ne_eq,not_true_eq_false,not_false_eq_true,decide_true,decide_false,if_true,if_false,Bool.false_eq_true]
   ·rw[a9 (c:=Bm L l≠0) h3]
 ·rw[b6 (c:=decide (2≤L∧L≤8)=true) (by simpa using h1),a9 (c:=¬(2≤L∧L≤8)) h1]
theorem Mr(l:List Int)(x:Int)(hl:l.length≤2000):dR l x=some (l.any fun y=>decide (x=y)):=by
 unfold dR jG
 have hrun:=Jf (step:=cL l x) (fun k:Nat=>(k:Int)) (fun y=>decide (x=y)) (fun k _=>.inl (k:Int)) (.inr ()) l (fun k y hy=>by
  have h1:=(a8.1 hy).1
  dsimp only[cL]
  rw[a9 (by simpa using h1),aT,hy,a7]
  by_cases q:x=y
  ·rw[a9 (by simpa using q),a9 (by simpa using q)]
  ·rw[b6 (by simpa using q),b6 (by simpa using q),w64 (by omega)];rfl) (by
  dsimp only[cL]
  rw[b6 (by simp)]) (s:=0) rfl
 rw[hrun,a7]
 have key:∀(xs:List Int) (j:Nat),∃ v:Int,(match (jH (fun y=>decide (x=y)) (fun k _=>(.inl (k:Int):Int ⊕ Unit)) (.inr ()) j xs) with|.inl v11=>some v11|.inr _=>some (-1))=some v∧decide (v≥0)=xs.any fun y=>decide (x=y):=by
  intro xs
  induction xs with
  | nil=>intro j;exact⟨-1,rfl,rfl⟩
  | cons y t ih =>
   intro j
   unfold jH
   by_cases q:x=y
   ·rw[a9 (by simpa using q)];exact⟨j,rfl,by simp[q]⟩
   ·rw[b6 (by simpa using q)]
    obtain⟨v,h1,h2⟩:=ih (j+1)
    exact⟨v,h1,by rw[h2];simp[q]⟩
 obtain⟨v,h1,h2⟩:=key l 0
 rw[← h2]
 generalize jH (fun y=>decide (x=y)) (fun k _=>(Sum.inl (k:Int):Int ⊕ Unit)) (Sum.inr ()) 0 l=z at *
 rcases z with z|z
 ·obtain rfl:=a6 h1;rfl
 ·obtain rfl:=a6 h1;rfl
theorem Mt{L:Int}{l:List Int}(h:Bm L l=0){j:Nat}(hj:j<l.length):∀ i,i<j→l.getD i 0<l.getD j 0:=by
 induction j with
 | zero=>intro i hi;omega
 | succ j ih =>
  intro i hi
  have h1:=(Kq (Fe h (j+1) hj)).2.2 (by omega)
  rw[Nat.add_sub_cancel] at h1
  rcases d5 i j with q|q
  ·have:=ih (by omega) i q;omega
  ·obtain rfl:i=j:=by omega
   exact h1
theorem Zd{L:Int}{l:List Int}(h:Bm L l=0)(hn:l.length≠0):(l.any fun y=>decide (L=y))=decide (l.getD (l.length-1) 0=L):=by
 rw[Bool.eq_iff_iff,List.any_eq_true,b9]
 constructor
 ·rintro⟨y,hy,he⟩
  have he':L=y:=by simpa using he
  obtain⟨j,hj⟩:=j2.1 hy
  have hjl:=(a8.1 hj).1
  have hd:l.getD j 0=L:=by rw[i4,hj];exact he'.symm
  rcases d5 j (l.length-1) with q|q
  ·have h1:=Mt h (j:=l.length-1) (by omega) j q
   have h2:=(Kq (Fe h (l.length-1) (by omega))).2.1
   omega
  ·have:l.length-1=j:=by omega
   rw[this];exact hd
 ·intro he
  exact⟨l.getD (l.length-1) 0,d7 (sG (by omega)),by simpa using he.symm⟩
theorem aBJ(L:Int)(l:List Int)(hl:l.length≤12):gN L l=some (chk L l):=by
 unfold gN nB nC
 simp only[oZ,tQ,Option.bind_some,Mr l L (show l.length≤2000 by omega)]
 unfold iK chk
 rw[lJ,a7]
 by_cases h1:2≤L∧L≤8
 ·rw[b6 (c:=¬(2≤L∧L≤8)) (by simpa using h1)]
  rw[show decide (2≤L∧L≤8)=true by simpa using h1]
  simp only[Bool.not_true,Bool.false_eq_true,if_false,ne_eq,not_true_eq_false,decide_false,lJ,Option.bind_some]
  by_cases h2:l.length=0
  ·rw[a9 h2]
   have:(l.length:Int)=0:=by omega
   simp[this]
  ·have h2':¬(l.length:Int)=0:=by omega
   rw[b6 h2]
   simp only[h2',decide_false,Bool.false_eq_true,if_false,not_true_eq_false]
   unfold kE
   obtain⟨z,hz,hc⟩:=Vb (step:=dD l.length l 1 L) (L:=L) (l:=l) .inl (.inr ()) (by omega) (fun k hk=>by
    dsimp only[dD]
    rw[a9 (by simpa using hk)]
    have hasc:dP k l 1 L=some (gk L l k):=by
     unfold dP aM
     rw[aT,sG hk,a7,oZ,a7]
     dsimp only
     by_cases q:1≤l.getD k 0∧l.getD k 0≤L
     ·rw[show decide (1≤l.getD k 0∧l.getD k 0≤L)=true by simpa using q]
      by_cases q2:0<k
      ·rw[a9 (by simpa using q2),uU (k:=k-1) (by rw[w64 (by omega)];omega),sG (by omega),a7,tQ,a7]
       dsimp only
       simp only[lJ,Option.bind_some,Bool.not_true,Bool.false_eq_true,if_false,ne_eq,not_true_eq_false,decide_false]
       by_cases q3:l.getD k 0≤l.getD (k-1) 0
       ·rw[aDi q q2 q3];simp only[q3,decide_true,if_true];rfl
       ·rw[aBN q (fun _=>q3)];simp only[q3,decide_false,Bool.false_eq_true,if_false];rfl
      ·rw[b6 (by simpa using q2),aBN q (fun h=>absurd h q2),tQ,a7]
       dsimp only
       simp only[lJ,Option.bind_some,Bool.not_true,Bool.false_eq_true,if_false,ne_eq,not_true_eq_false,decide_false]
     ·rw[aDk q,show decide (1≤l.getD k 0∧l.getD k 0≤L)=false by simpa using q]
      by_cases q2:0<k
      ·rw[a9 (by simpa using q2),uU (k:=k-1) (by rw[w64 (by omega)];omega),sG (by omega),a7,tQ,a7]
       dsimp only
       simp only[lJ,Option.bind_some,Bool.not_false,if_true];rfl
      ·rw[b6 (by simpa using q2),tQ,a7]
       dsimp only
       simp only[lJ,Option.bind_some,Bool.not_false,if_true];rfl
    rw[hasc,a7]
    by_cases q:gk L l k=0
    ·rw[b6 (by simpa using q),b6 (by simpa using q),w64 (by omega)];rfl
    ·rw[a9 (by simpa using q),a9 q]) (by
    dsimp only[dD]
    rw[b6 (by simp)])
   rw[hz,a7]
   rcases hc with⟨h3,rfl⟩|⟨h3,rfl⟩
   ·rw[Zd h3 h2,b6 (c:=¬ Bm L l=0) (fun h=>h h3)]
    dsimp only[Option.bind_some]
    by_cases q:l.getD (l.length-1) 0=L<;>simp only[q,decide_true,decide_false,Bool.not_true,Bool.not_false,if_true,if_false,Bool.false_eq_true,ne_eq,not_true_eq_false,not_false_eq_true,Option.bind_some,lJ]<;>rfl
   ·rw[a9 (c:=¬ Bm L l=0) h3]
    dsimp only[Option.bind_some]
    simp only[h3,not_false_eq_true,decide_true,if_true,Option.bind_some]
 ·rw[a9 (c:=¬(2≤L∧L≤8)) h1,show decide (2≤L∧L≤8)=false by simpa using h1]
  simp
theorem aCz{L:Int}{l:List Int}(hl:l.length≤12)(h:chk L l=0):∃(n:Nat) (ts:List Nat),L=n∧l=ints ts∧Reg n ts:=by
 unfold chk at h
 split at h
 ·cases h
 rename_i h1
 split at h
 ·cases h
 rename_i h2
 split at h
 ·rename_i h3;exact absurd h h3
 rename_i h3
 split at h
 ·cases h
 rename_i h4
 have h1':2≤L∧L≤8:=Classical.not_not.1 h1
 have h3':Bm L l=0:=Classical.not_not.1 h3
 have h4':l.getD (l.length-1) 0=L:=Classical.not_not.1 h4
 have hpos:∀ x,x∈l→1≤x∧x≤L:=fun x hx=>by
  obtain⟨j,hj⟩:=j2.1 hx
  have hjl:=(a8.1 hj).1
  have:=Kq (Fe h3' j hjl)
  have hd:l.getD j 0=x:=by rw[i4,hj];rfl
  rw[hd] at this
  exact⟨this.1,this.2.1⟩
 have he:l=ints (l.map Int.toNat):=by
  unfold ints
  rw[List.map_map]
  conv=>lhs;rw[← List.map_id l]
  apply k6
  intro x hx
  have:=hpos x hx
  simp;omega
 refine⟨L.toNat,l.map Int.toNat,by omega,he,⟨by omega,by omega,fun t ht=>?_,?_,by simpa using hl⟩⟩
 ·obtain⟨x,hx,rfl⟩:=l5.1 ht
  have:=hpos x hx
  omega
 ·refine⟨(l.take (l.length-1)).map Int.toNat,?_,fun t ht=>?_⟩
  ·have : l = l.take (l.length - 1) ++ [L] := by
     conv=>lhs;rw[← List.take_append_drop (l.length-1) l]
     congr 1
     have hx:l[l.length-1]?=some L:=by rw[sG (by omega),h4']
     obtain⟨k,hk⟩:∃ k,l.length=k+1:=⟨l.length-1,by omega⟩
     rw[List.drop_eq_getElem_cons (by omega)]
     rw[show l.length-1+1=l.length by omega,List.drop_length]
     congr 1
     have:=(a8.1 hx).2
     exact this
   conv=>lhs;rw[this]
   simp
  ·obtain⟨x,hx,rfl⟩:=l5.1 ht
   obtain⟨i,hi⟩:=j2.1 hx
   rw[m6] at hi
   split at hi
   ·rename_i hlt
    have hd:l.getD i 0=x:=by rw[i4,hi];rfl
    have:=Mt h3' (j:=l.length-1) (by omega) i (by omega)
    have:=hpos x (d7 hi)
    omega
   ·cases hi
theorem Bi(L:Int)(l:List Int)(hl:l.length≤12):cC L l=some (chk L l):=by
 unfold cC
 rw[aBJ L l hl];rfl
theorem Ju{L:Nat}(hL:L≤8)(l:List Int):nK L l=some ((2^L-1:Nat):Int):=by
 have hp:2^L≤2^8:=j6 (by omega) hL
 have hp0:=j0 L
 unfold nK
 have hrun:=bY (step:=kU L) (e:=((2^L:Nat):Int)) (fun k=>(((2^k:Nat):Int),(k:Int))) (n:=L) (fun k hk=>?_) ?_
 ·rw[show ((1:Int),(0:Int))=(((2^0:Nat):Int),((0:Nat):Int)) from rfl,hrun,a7,w64 (by omega)]
  congr 1;omega
 ·dsimp only[kU]
  have hk2:2^k≤2^8:=j6 (by omega) (by omega)
  have hk3:=j0 k
  rw[a9 (by simpa using hk),w64 (x:=2*((2^k:Nat):Int)) (by omega),w64 (x:=(k:Int)+1) (by omega),k5]
  congr 3;omega
 ·dsimp only[kU]
  rw[b6 (by simp)]
theorem uH{L:Nat}(hL:L≤8)(l:List Int):aC L l=some ((2^L-1:Nat):Int):=by
 have hp:2^L≤2^8:=j6 (by omega) hL
 have hp0:=j0 L
 unfold aC
 rw[show (1:Int)=((1:Nat):Int) from rfl,aAQ (k:=L) (by omega) (by omega) rfl,a7]
 rw[w64 (by omega)]
 congr 1;omega
section
variable {L:Nat} {ts:List Nat} {s:Nat}
theorem aBL(hr:Reg L ts)(h0:0<s)(hs:s<2^L){n:Nat}(hn:n≤2000):fV L (ints ts) s n=some (btl L ts s n):=by
 unfold fV
 rw[Js,a7]
 dsimp only
 rw[show ([]:List Int)=btl L ts s 0 from rfl]
 have hit:=Hk hr h0 hs (step:=dQ n) (fun k=>btl L ts s k) (n:=n) (z:=btl L ts s n) (fun k hk=>?_) ?_
 ·rw[hit];rfl
 ·dsimp only[dQ]
  rw[uM,b6 (by simp only[decide_eq_true_eq];omega)]
  have h8:=hr.most
  have hb:stt L ts s k<2^62:=f0 (kD hr h0 hs k).2 (j6 (by omega) (by omega))
  rw[Nk hb,wK (by rw[uM];omega) (by omega),Fy]
  rfl
 ·dsimp only[dQ]
  rw[uM,a9 (by simp)]
end
end Go.Rex
namespace Go.Rex
theorem pow8{L:Nat}(h:L≤8):2^L≤256:=j6 (n:=2) (by omega) h
def sgl(L:Nat)(ts:List Nat)(s n:Nat):List Int:=(List.range n).map fun t=>1-2*((bt L ts s t:Nat):Int)
theorem mF(L:Nat)(ts:List Nat)(s n:Nat):(sgl L ts s n).length=n:=by simp[sgl]
theorem aBk{step:List Int×Int→Option ((List Int×Int) ⊕ List Int)}{l:List Int}{g:Int→Int}(hs:∀(k:Nat) (a:List Int) x,k<l.length→a.length=l.length→a[k]?=some x→l[k]?=some x→step (a,(k:Int))=some (.inl (a.set k (g x),((k+1:Nat):Int))))(he:∀ a:List Int,a.length=l.length→step (a,(l.length:Int))=some (.inr a)):run step (l,0)=some (l.map g):=by
 have hrun:=bY (step:=step) (e:=l.map g) (fun k=>((l.take k).map g++l.drop k,(k:Int))) (n:=l.length) (fun k hk=>?_) ?_
 ·simpa using hrun
 ·obtain⟨x,hx⟩:∃ x,l[k]?=some x:=⟨_,b8 hk⟩
  have hd:l.drop k=x::l.drop (k+1):=by
   rw[List.drop_eq_getElem_cons hk]
   rw[b8 hk] at hx
   rw[a6 hx]
  have hl:((l.take k).map g).length=k:=by simp;omega
  have hg:((l.take k).map g++l.drop k)[k]?=some x:=by
   rw[d6 (by omega),hl,Nat.sub_self,hd];rfl
  rw[hs k _ x hk (by simp;omega) hg hx]
  congr 3
  rw[hd,Bn hx,List.map_append,List.append_assoc]
  rw[List.set_append_right _ _ (by omega),hl,Nat.sub_self]
  rfl
 ·rw[List.take_length,List.drop_length,List.append_nil]
  have:=he (l.map g) (by simp)
  exact this
section
variable {L:Nat} {ts:List Nat} {s:Nat}
theorem aCr(L:Nat)(ts:List Nat)(s n:Nat):(btl L ts s n).map (fun b=>1-2*b)=sgl L ts s n:=by
 unfold btl sgl
 rw[List.map_map]
 rfl
theorem aB1(L:Nat)(ts:List Nat)(s t:Nat):bt L ts s t≤1:=by unfold bt;omega
theorem aBu{x:Int}{n:Nat}{k:Nat}(h:(btl L ts s n)[k]?=some x):0≤x∧x≤1:=by
 obtain⟨t,_,rfl⟩:=l5.1 (d7 h)
 have:=aB1 L ts s t
 omega
theorem Br(hr:Reg L ts)(h0:0<s)(hs:s<2^L):cA L (ints ts) s=some (sgl L ts s (2^L-1)):=by
 have hp:=pow8 hr.most
 unfold cA
 rw[uH hr.most,a7,aBL hr h0 hs (by omega),a7,aBk (g:=fun b=>1-2*b)]
 ·rw[aCr];rfl
 ·intro k a x hk ha hx hx2
  have hb:=aBu hx2
  dsimp only[dH]
  rw[uM] at hk
  rw[a9 (by rw[uM];simpa using hk),aT,hx,a7,w64 (x:=2*x) (by omega),w64 (x:=1-2*x) (by omega),w64 (x:=(k:Int)+1) (by omega),Int.toNat_natCast]
  rfl
 ·intro a ha
  dsimp only[dH]
  rw[b6 (by simp)]
end
end Go.Rex
namespace Go.Rex
section
variable {L:Nat} {ts:List Nat} {s:Nat}
theorem tmod2(x:Nat):(x:Int).tmod 2=((x%2:Nat):Int):=by
 rw[g9 (by omega)];omega
theorem tdiv2(x:Nat):(x:Int).tdiv 2=((x/2:Nat):Int):=by
 rw[Int.tdiv_eq_ediv_of_nonneg (by omega)];omega
theorem Uz(f:Nat→Nat):∀(l:List Nat) (a:Nat),l.foldl (fun a p=>a+f p) a%2=l.foldl (fun a p=>(a+f p)%2) (a%2)
 | [],a=>rfl
 | p::l,a=>by
  simp only[List.foldl_cons]
  rw[Uz f l]
  congr 1
  omega
theorem aAE(f:Nat→Nat)(hf:∀ p,f p≤1):∀(l:List Nat) (a:Nat),l.foldl (fun a p=>a+f p) a≤a+l.length
 | [],a=>by simp
 | p::l,a=>by
  simp only[List.foldl_cons,List.length_cons]
  have:=aAE f hf l (a+f p)
  have:=hf p
  omega
theorem Ru(hr:Reg L ts)(h0:0<s)(hs:s<2^L){n:Nat}(hn:n≤2000):rG L (ints ts) s n=some (btl L ts s n):=by
 have hL2:=hr.two
 have h8:=hr.most
 have hlen:=hr.len
 have hL:2^L≤2^8:=j6 (by omega) h8
 unfold rG
 have hrun:=bY (step:=kZ L (ints ts) n) (e:=btl L ts s n) (fun t=>(((s/2^(min t L):Nat):Int),btl L ts s t,(t:Int))) (n:=n) (fun t ht=>?_) ?_
 ·rw[show (((s:Nat):Int),([]:List Int),(0:Int))=(((s/2^(min 0 L):Nat):Int),btl L ts s 0,((0:Nat):Int)) by simp[btl],hrun]
  rfl
 ·dsimp only[kZ]
  rw[a9 (by simpa using ht)]
  by_cases hlt:t<L
  ·rw[a9 (by simpa using hlt),tmod2,tdiv2]
   have hw:=window hr h0 hs t 0 hlt
   rw[k7] at hw
   rw[show min t L=t by omega,show s/2^t%2=bt L ts s t from hw,wK (by rw[uM];omega) (by omega),a7,← Fy,w64 (x:=((s/2^t/2:Nat):Int)) (by have:=Nat.div_le_self s (2^t);have:=Nat.div_le_self (s/2^t) 2;omega),w64 (x:=(t:Int)+1) (by omega)]
   rw[Nat.div_div_eq_div_mul,← k5,show min (t+1) L=t+1 by omega]
   rfl
  ·rw[b6 (by simpa using hlt)]
   obtain⟨u,rfl⟩:∃ u,t=u+L:=⟨t-L,by omega⟩
   have hin:=bY (step:=kT (ints ts) (btl L ts s (u+L)) ((u+L:Nat):Int)) (e:=((ts.foldl (fun a p=>a+bt L ts s (u+L-p)) 0:Nat):Int)) (fun k=>((((ts.take k).foldl (fun a p=>a+bt L ts s (u+L-p)) 0:Nat):Int),(k:Int))) (n:=ts.length) (fun k hk=>?_) ?_
   ·rw[show ((0:Int),(0:Int))=((((ts.take 0).foldl (fun a p=>a+bt L ts s (u+L-p)) 0:Nat):Int),((0:Nat):Int)) from rfl,hin,a7,tmod2,Uz,← aCH hr h0 hs u,wK (by rw[uM];omega) (by omega),a7,← Fy,w64 (x:=((u+L:Nat):Int)+1) (by omega),show min (u+L) L=L by omega,show min (u+L+1) L=L by omega]
    rfl
   ·obtain⟨p,hp⟩:∃ p,ts[k]?=some p:=⟨_,b8 hk⟩
    have hpm:=hr.le p (d7 hp)
    dsimp only[kT]
    rw[a9 (by simpa using hk),aT,e8,hp,m9,a7,w64 (x:=((u+L:Nat):Int)-(p:Int)) (by omega),uU (k:=u+L-p) (by omega)]
    have hg:(btl L ts s (u+L))[u+L-p]?=some ((bt L ts s (u+L-p):Nat):Int):=by
     unfold btl
     rw[e8,l9 (by omega)]
     rfl
    rw[hg,a7,Bn hp,List.foldl_append]
    have hle:=aAE (fun p=>bt L ts s (u+L-p)) (fun p=>by unfold bt;omega) (ts.take k) 0
    rw[List.length_take] at hle
    have hb1:bt L ts s (u+L-p)≤1:=by unfold bt;omega
    rw[w64 (x:=(((ts.take k).foldl (fun a p=>a+bt L ts s (u+L-p)) 0:Nat):Int)+((bt L ts s (u+L-p):Nat):Int)) (by omega),w64 (x:=(k:Int)+1) (by omega)]
    congr 3
   ·dsimp only[kT]
    rw[b6 (by simp),List.take_length]
 ·dsimp only[kZ]
  rw[b6 (by simp)]
theorem Ei(hr:Reg L ts)(h0:0<s)(hs:s<2^L):oY L (ints ts) s=some ((nx L ts s:Nat):Int):=by
 have hL2:=hr.two
 have h8:=hr.most
 have hL:2^L≤2^8:=j6 (by omega) h8
 have hx:=aB4 (L:=L) (ts:=ts) (s:=s) (by omega) hs
 unfold oY
 have hw:IntKind.i64.wrap ((L:Int)+1)=((L+1:Nat):Int):=by rw[w64 (by omega)];omega
 rw[hw,Ru hr h0 hs (by omega),a7]
 have hrun:=bY (step:=kY (btl L ts s (L+1))) (e:=((nx L ts s:Nat):Int)) (fun j=>(((nx L ts s/2^(L-j):Nat):Int),(((L-j:Nat)):Int))) (n:=L) (fun j hj=>?_) ?_
 ·rw[show ((0:Int),(L:Int))=(((nx L ts s/2^(L-0):Nat):Int),(((L-0:Nat)):Int)) by rw[Nat.sub_zero,Nat.div_eq_of_lt hx];rfl,hrun]
  rfl
 ·dsimp only[kY]
  obtain⟨k,hk⟩:∃ k,L-j=k+1:=⟨L-j-1,by omega⟩
  rw[show L-(j+1)=k by omega,hk,a9 (by simp;omega),aT]
  have hg:(btl L ts s (L+1))[k+1]?=some ((bt L ts s (k+1):Nat):Int):=by
   unfold btl
   rw[e8,l9 (by omega)]
   rfl
  rw[hg,a7]
  have hwin:=window hr h0 hs k 1 (by omega)
  have hstt:stt L ts s 1=nx L ts s:=rfl
  rw[hstt,Nat.add_comm 1 k] at hwin
  have hd:nx L ts s/2^k=2*(nx L ts s/2^(k+1))+bt L ts s (k+1):=by
   rw[← hwin,k5,← Nat.div_div_eq_div_mul]
   omega
  have hb:=Nat.div_le_self (nx L ts s) (2^k)
  rw[w64 (x:=2*((nx L ts s/2^(k+1):Nat):Int)) (by omega),w64 (x:=2*((nx L ts s/2^(k+1):Nat):Int)+((bt L ts s (k+1):Nat):Int)) (by omega),w64 (x:=((k+1:Nat):Int)-1) (by omega),hd]
  congr 3
  omega
 ·dsimp only[kY]
  rw[b6 (by simp),Nat.sub_self,l8,Nat.div_one]
theorem Km(hr:Reg L ts)(h0:0<s)(hs:s<2^L){n:Nat}(hp:wX L ts s n)(hn:n≤2^L-1):oC L (ints ts) s=some (n:Int):=by
 obtain⟨⟨h1,h2⟩,h3⟩:=hp
 have h8:=hr.most
 have hL:2^L≤2^8:=j6 (by omega) h8
 unfold oC
 rw[Ei hr h0 hs,a7]
 obtain⟨m,rfl⟩:∃ m,n=m+1:=⟨n-1,by omega⟩
 have hrun:=bY (step:=jC L (ints ts) s) (e:=((m+1:Nat):Int)) (fun k=>(((k+1:Nat):Int),((stt L ts s (k+1):Nat):Int))) (n:=m) (fun k hk=>?_) ?_
 ·rw[show ((1:Int),((nx L ts s:Nat):Int))=(((0+1:Nat):Int),((stt L ts s (0+1):Nat):Int)) from rfl,hrun]
  rfl
 ·dsimp only[jC]
  have:=h3 (k+1) (by omega)
  obtain⟨a,b⟩:=kD hr h0 hs (k+1)
  rw[a9 (by simp only[decide_eq_true_eq];intro e;exact this ⟨by omega,by omega⟩),Ei hr a b,a7,w64 (by omega)]
  congr 3
 ·dsimp only[jC]
  rw[h2,b6 (by simp)]
end
end Go.Rex
namespace Go.Rex
section
variable {L:Nat} {ts:List Nat} {s:Nat}
end
end Go.Rex
namespace Go.Rex
theorem Pu{L:Nat}{l:List Int}(s:Int)(hl:l.length≤12)(h:chk L l=0)(hL:L≤8):iG L l s=some (if 1≤s∧s≤((2^L-1:Nat):Int) then 0 else 2):=by
 unfold iG
 rw[Th _ _ hl,h,a7,b6 (by simp),Ju hL,a7,tD,a7]
 by_cases q:1≤s∧s≤((2^L-1:Nat):Int)
 ·rw[a9 (by simpa using q),a9 q]
 ·rw[b6 (by simpa using q),b6 q]
theorem vD{L:Nat}(l:List Int)(s:Int)(hL:L≤8):aQ s L l=some (if 1≤s∧s≤((2^L-1:Nat):Int) then 0 else 2):=by
 unfold aQ
 rw[uH hL,a7,oZ,a7]
 dsimp only
 rw[lJ,a7]
 by_cases q:1≤s∧s≤((2^L-1:Nat):Int)
 ·rw[a9 q,show decide (1≤s∧s≤((2^L-1:Nat):Int))=true by simpa using q];rfl
 ·rw[b6 q,show decide (1≤s∧s≤((2^L-1:Nat):Int))=false by simpa using q];rfl
end Go.Rex
namespace Go.Rex
open Go Go.Rex
set_option maxRecDepth 100000
def fo(w:List (Int×Int))(N:Nat):Nat→List (Int×Int)
 | 0=>List.replicate N (0,0)
 | t+1=>(fo w N t).set (t%N) (zadd (at0 (fo w N t) (t%N)) (at0 w t))
theorem Bu(w:List (Int×Int))(N:Nat):∀ t,(fo w N t).length=N
 | 0=>by simp[fo]
 | t+1=>by simp[fo,Bu w N t]
theorem Va(w:List (Int×Int))(i:Nat)(z:Int×Int)(k:Nat):at0 (w.set i z) k=if i=k∧k<w.length then z else at0 w k:=by
 unfold at0
 rw[i4,k8,i4]
 by_cases q:i=k
 ·subst q
  by_cases h:i<w.length
  ·rw[a9 rfl,a9 h,a9 ⟨rfl,h⟩];rfl
  ·rw[a9 rfl,b6 h,b6 (fun x=>h x.2),j7 (by omega)]
 ·rw[b6 q,b6 (fun x=>q x.1)]
theorem aBZ{w:List (Int×Int)}(hw:∀ z∈w,small z)(N:Nat):∀ t k:Nat,zle (t*16777216) (at0 (fo w N t) k)
 | 0,k=>by
  unfold fo at0
  rw[i4,List.getElem?_replicate]
  split<;>simp[zle]
 | t+1,k=>by
  have ih:=aBZ hw N t
  simp only[fo]
  rw[Va]
  have e:((t+1:Nat):Int)*16777216=t*16777216+16777216:=by omega
  rw[e]
  split
  ·have h1:=ih (t%N)
   have h2:=pD hw t
   unfold zle zadd at *
   unfold small at h2
   simp only
   omega
  ·have h1:=ih k
   unfold zle at *
   omega
def fold(w:List (Int×Int))(N:Nat):List (Int×Int):=fo w N w.length
theorem Nv{w:List (Int×Int)}(hw:∀ z∈w,small z)(lw:w.length≤1024){N:Nat}(hN:1≤N∧N≤1024):fS w (N:Int)=some (fold w N):=by
 have step:∀ t:Nat,t<w.length→eB w (N:Int) (fo w N t,(t:Int))=some (.inl (fo w N (t+1),((t+1:Nat):Int))):=by
  intro t ht
  have hlt:t%N<(fo w N t).length:=by rw[Bu];exact i9 _ (by omega)
  have e1:(t:Int).tmod (N:Int)=((t%N:Nat):Int):=by rw[g9 (by omega)];exact (Int.natCast_emod t N).symm
  have b1:=aBZ hw N t (t%N)
  have b2:=pD hw t
  have hb:(t:Int)*16777216≤1024*16777216:=Int.mul_le_mul_of_nonneg_right (by omega) (by decide)
  unfold zle at b1
  unfold small at b2
  have g1:=nZ hlt
  have g2:=nZ ht
  unfold eB dA
  simp only
  rw[a9 (by rw[b9];omega),aT,g2]
  simp only[Option.bind_some]
  rw[b6 (by omega),e1,aT,g1]
  simp only[Option.bind_some]
  rw[w64 (by omega),w64 (by omega),wsucc (n:=1024) (by omega) (by decide)]
  rfl
 have hmk:mkI 16 (N:Int) ((0,0):Int×Int)=some (fo w N 0):=by
  unfold mkI
  rw[a9 (by omega)]
  rfl
 have key:=lU (step:=eB w (N:Int)) (st:=fun t (_:Unit)=>(fo w N t,(t:Int))) (g:=fun _ x=>x) (fin:=fun _=>fold w N) w.length (fun _ _=>True) (b0:=()) trivial
  (fun t _ ht _=>⟨(step t ht),trivial⟩) (fun _ _=>by
   unfold eB
   simp only
   rw[b6 (by rw[b9];omega)]
   rfl)
 have k1:=key.1
 simp only[Int.natCast_zero] at k1
 unfold fS
 rw[hmk]
 simp only[Option.bind_some]
 rw[k1]
 rfl
noncomputable def foV(l:List (Nat×Nat))(n:Int):List (Nat×Nat)×Int:=if lE l≠0 then ([],lE l) else if 1≤n∧n≤1024 then rec (fold (nums l) n.toNat) else ([],2)
theorem Bp(x:Option (List (Nat×Nat)×Int)):(x.bind fun (a,b)=>some (a,b))=x:=by cases x<;>rfl
theorem Zr(l:List (Nat×Nat))(N:Nat)(h1:lE l=0)(h2:1≤(N:Int)∧(N:Int)≤1024):foV l (N:Int)=rec (fold (nums l) N):=by
 have n1:¬ lE l≠0:=by simpa using h1
 unfold foV
 rw[b6 n1,a9 h2,Int.toNat_natCast]
theorem aBz(l:List (Nat×Nat))(n:Int)(h1:lE l=0)(h2:¬(1≤n∧n≤1024)):foV l n=([],2):=by
 have n1:¬ lE l≠0:=by simpa using h1
 unfold foV
 rw[b6 n1,b6 h2]
theorem aBF(l:List (Nat×Nat))(n:Int)(h1:lE l≠0):foV l n=([],lE l):=by
 unfold foV
 rw[a9 h1]
theorem Jv(l:List (Nat×Nat))(N:Nat)(G:GoodL l)(h2:1≤N∧N≤1024):((bN l).bind fun v9=>(fS v9 (N:Int)).bind fun v10=>(bE v10).bind fun (v11,v12)=>some (v11,v12))=some (rec (fold (nums l) N)):=by
 have g:=G.len
 rw[xF G]
 rw[a7]
 rw[(Nv (yL G) (by rw[pY];omega) h2)]
 rw[a7]
 rw[Bp]
 exact vF _ (by unfold fold;rw[Bu];omega)
theorem Mu(l:List (Nat×Nat))(n:Int):mE l n=some (foV l n):=by
 unfold mE fP iM aA
 simp only[Option.bind_some]
 rw[oZ,xL]
 simp only[Option.bind_some]
 by_cases h1:lE l=0
 ·by_cases h2:1≤n∧n≤1024
  ·obtain⟨N,rfl⟩:∃ N:Nat,n=(N:Int):=⟨n.toNat,by omega⟩
   have d:decide (1≤(N:Int)∧(N:Int)≤1024)=true:=i7 h2
   rw[b6 (by simpa using h1),d,Zr l N h1 h2]
   simp only[Bool.not_true,Bool.false_eq_true,if_false,Option.bind_some,ne_eq,not_true_eq_false,decide_false]
   exact Jv l N (As h1) (by omega)
  ·have d:decide (1≤n∧n≤1024)=false:=decide_eq_false h2
   rw[d,aBz l n h1 h2]
   simp[h1]
 ·rw[aBF l n h1]
  simp[h1]
def zstr(z:Int×Int)(s:Int):Int×Int:=(z.1*s,z.2*s)
def pE(s:Int):Prop:=s=1∨s = -1
def atS(S:List Int)(k:Nat):Int:=S.getD k 0
theorem Dt{S:List Int}{k:Nat}(hk:k<S.length):S[k]?=some (atS S k):=by
 unfold atS
 rw[i4,b8 hk]
 rfl
def wgT(W:List (Int×Int))(S:List Int)(n k:Nat):Int×Int:=zstr (at0 W k) (atS S ((n+S.length-k)%S.length))
def wgS(W:List (Int×Int))(S:List Int)(n j:Nat):Int×Int:=zsum (wgT W S n) j
def wgL(W:List (Int×Int))(S:List Int)(n j:Nat):List (Int×Int):=(List.range S.length).map fun i=>if i<n then wgS W S i S.length else if i=n then wgS W S n j else (0,0)
section
variable {W:List (Int×Int)} {S:List Int}
theorem Do{z:Int×Int}{s B:Int}(hz:zle B z)(hs:pE s):zle B (zstr z s):=by
 unfold zle zstr at *
 rcases hs with rfl|rfl<;>simp only[Int.mul_one,Int.mul_neg]<;>omega
theorem tP{z:Int×Int}(h:small z):zle 16777216 z:=h
theorem aCK(hW:∀ z∈W,small z)(hS:∀ k,k<S.length→pE (atS S k))(h0:0<S.length)(n:Nat){j:Nat}(hj:j≤1024):zle 17179869184 (wgS W S n j):=by
 have h:=Ub (f:=wgT W S n) (B:=16777216) (n:=j) (fun k _=>Do (tP (pD hW k)) (hS _ (i9 _ h0)))
 have h2:(j:Int)*16777216≤1024*16777216:=Int.mul_le_mul_of_nonneg_right (by omega) (by decide)
 unfold wgS
 unfold zle at *
 omega
theorem Ae(n j:Nat):(wgL W S n j).length=S.length:=by unfold wgL;simp
theorem Fh(n j:Nat){i:Nat}(hi:i<S.length):(wgL W S n j)[i]?=some (if i<n then wgS W S i S.length else if i=n then wgS W S n j else (0,0)):=by
 unfold wgL
 rw[e8,l9 hi]
 rfl
theorem aBi{n:Nat}(j:Nat)(hn:n<S.length):(wgL W S n j).set n (wgS W S n (j+1))=wgL W S n (j+1):=by
 apply j8
 intro i
 rw[k8,Ae]
 by_cases hi:i<S.length
 ·rw[Fh n (j+1) hi]
  by_cases q:n=i
  ·subst q
   rw[a9 rfl,a9 hi,b6 (by omega),a9 rfl]
  ·rw[b6 q,Fh n j hi]
   by_cases c:i<n
   ·rw[a9 c,a9 c]
   ·rw[b6 c,b6 c,b6 (fun h=>q h.symm),b6 (fun h=>q h.symm)]
 ·have hn2:∀ j,(wgL W S n j)[i]?=none:=fun j=>j7 (by rw[Ae];omega)
  rw[hn2,hn2,b6 (by omega)]
theorem Zt(n:Nat):wgL W S n S.length=wgL W S (n+1) 0:=by
 unfold wgL
 apply k6
 intro i _
 by_cases c:i<n
 ·rw[a9 c,a9 (by omega)]
 ·rw[b6 c]
  by_cases q:i=n
  ·rw[a9 q,a9 (by omega),q]
  ·rw[b6 q,b6 (by omega)]
   by_cases q2:i=n+1
   ·rw[a9 q2];rfl
   ·rw[b6 q2]
theorem Yy:wgL W S 0 0=List.replicate S.length (0,0):=by
 apply j8
 intro i
 by_cases hi:i<S.length
 ·rw[Fh 0 0 hi,List.getElem?_replicate,a9 hi,b6 (by omega)]
  by_cases q:i=0
  ·rw[a9 q];rfl
  ·rw[b6 q]
 ·rw[j7 (by rw[Ae];omega),j7 (by simp;omega)]
theorem mods{n k N:Nat}(hn:n<N)(hk:k<N)(hN:N≤1024):eK (IntKind.i64.wrap ((n:Int)-k)) (N:Int)=some (((n+N-k)%N:Nat):Int):=by
 rw[w64 (x:=(n:Int)-k) (by omega)]
 by_cases q:k≤n
 ·have e:(n+N-k)%N=n-k:=by rw[show n+N-k=(n-k)+N by omega,Nat.add_mod_right,g6 (by omega)]
  have t1:((n:Int)-k).tmod N=(n:Int)-k:=by rw[g9 (by omega),Int.emod_eq_of_lt (by omega) (by omega)]
  rw[e]
  unfold eK
  rw[b6 (by omega),t1,w64 (by omega),g9 (by omega),Int.add_emod_right,Int.emod_eq_of_lt (by omega) (by omega)]
  congr 1
  omega
 ·have e:(n+N-k)%N=n+N-k:=g6 (by omega)
  have t1:((n:Int)-k).tmod N=(n:Int)-k:=by
   have:((n:Int)-k) = -((k:Int)-n):=by omega
   rw[this,Int.neg_tmod,g9 (by omega),Int.emod_eq_of_lt (by omega) (by omega)]
  rw[e]
  unfold eK
  rw[b6 (by omega),t1,w64 (by omega),g9 (by omega),Int.emod_eq_of_lt (by omega) (by omega)]
  congr 1
  omega
theorem Zg{z:Int×Int}{s:Int}(hz:small z)(hs:pE s):IntKind.i64.wrap (z.1*s)=(zstr z s).1∧IntKind.i64.wrap (z.2*s)=(zstr z s).2:=by
 have h:=Do (tP hz) hs
 unfold zle at h
 exact⟨w64 (by show _≤(zstr z s).1∧(zstr z s).1≤_;omega),w64 (by show _≤(zstr z s).2∧(zstr z s).2≤_;omega)⟩
theorem Zu(hW:∀ z∈W,small z)(hS:∀ k,k<S.length→pE (atS S k))(lW:W.length=S.length)(lS:0<S.length∧S.length≤1024){n:Nat}(hn:n<S.length) :
 run (bM W S (n:Int)) (wgL W S n 0,0)=some (wgL W S (n+1) 0):=by
 have step:∀ k:Nat,k<S.length→bM W S (n:Int) (wgL W S n k,(k:Int))=some (.inl (wgL W S n (k+1),((k+1:Nat):Int))):=by
  intro k hk
  have hi:(n+S.length-k)%S.length<S.length:=i9 _ lS.1
  have sg:=hS _ hi
  have sW:=pD hW k
  have b1:=aCK hW hS lS.1 n (j:=k) (by omega)
  have b2:=Do (tP sW) sg
  obtain⟨s1,s2⟩:=Zg sW sg
  have gW:W[k]?=some (at0 W k):=nZ (by omega)
  have gL:(wgL W S n k)[n]?=some (wgS W S n k):=by rw[Fh n k hn,b6 (by omega),a9 rfl]
  have m1:=mods hn hk lS.2
  have nx:=aBi (W:=W) k hn
  have e:wgS W S n (k+1)=zadd (wgS W S n k) (zstr (at0 W k) (atS S ((n+S.length-k)%S.length))):=rfl
  have w1:IntKind.i64.wrap ((wgS W S n k).1+(zstr (at0 W k) (atS S ((n+S.length-k)%S.length))).1)=(wgS W S n (k+1)).1:=by
   rw[e];unfold zle at b1 b2;exact w64 (by omega)
  have w2:IntKind.i64.wrap ((wgS W S n k).2+(zstr (at0 W k) (atS S ((n+S.length-k)%S.length))).2)=(wgS W S n (k+1)).2:=by
   rw[e];unfold zle at b1 b2;exact w64 (by omega)
  unfold bM iQ aZ cU dA
  try simp only
  rw[a9 (by rw[b9];omega),aT,gW,a7]
  try simp only
  rw[aT,gL,a7,m1,a7,aT,Dt hi,a7,a7,a7,a7]
  try simp only
  rw[s1,s2,w1,w2,wsucc (n:=1024) (by omega) (by decide),show ((n:Int)).toNat=n by omega]
  rw[← nx]
  try rfl
 have key:=lU (step:=bM W S (n:Int)) (st:=fun j (_:Unit)=>(wgL W S n j,(j:Int))) (g:=fun _ x=>x) (fin:=fun _=>wgL W S (n+1) 0) S.length (fun _ _=>True) (b0:=()) trivial
  (fun j _ hj _=>⟨(step j hj),trivial⟩) (fun _ _=>by
   unfold bM
   simp only
   rw[b6 (by rw[b9];omega),Zt])
 exact key.1
def wgh(W:List (Int×Int))(S:List Int):List (Int×Int):=wgL W S S.length 0
theorem Vq(hW:∀ z∈W,small z)(hS:∀ k,k<S.length→pE (atS S k))(lW:W.length=S.length)(lS:0<S.length∧S.length≤1024):fC W S=some (wgh W S):=by
 have lz:(wgL W S 0 0).length=S.length:=Ae 0 0
 have key:=lU (step:=dC W S (wgL W S 0 0)) (st:=fun n (_:Unit)=>(wgL W S n 0,(n:Int))) (g:=fun _ x=>x) (fin:=fun _=>wgh W S) S.length (fun _ _=>True) (b0:=()) trivial
  (fun n _ hn _=>⟨by
   unfold dC
   simp only
   rw[a9 (by rw[b9];omega),(Zu hW hS lW lS hn),a7,wsucc (n:=1024) (by omega) (by decide)],trivial⟩) (fun _ _=>by
   unfold dC
   simp only
   rw[b6 (by rw[b9];omega)]
   rfl)
 have k1:=key.1
 simp only[Int.natCast_zero] at k1
 unfold fC mkI
 rw[a9 (by omega),a7,show ((W.length:Int)).toNat=S.length by omega,← Yy (W:=W),k1,a7]
theorem zT:(wgh W S).length=S.length:=Ae _ _
theorem aAp{n:Nat}(hn:n<S.length):at0 (wgh W S) n=wgS W S n S.length:=by
 have h1:=nZ (w:=wgh W S) (k:=n) (by rw[zT];exact hn)
 unfold wgh at h1
 rw[Fh _ _ hn,a9 hn] at h1
 exact (a6 h1).symm
end
end Go.Rex
namespace Go.Rex
open Go Go.Rex
set_option maxRecDepth 100000
def crT(W:List (Int×Int))(S:List Int)(k t:Nat):Int×Int:=zstr (at0 W t) (atS S ((t+S.length-k)%S.length))
def crS(W:List (Int×Int))(S:List Int)(k j:Nat):Int×Int:=zsum (crT W S k) j
def cor(W:List (Int×Int))(S:List Int):List (Int×Int):=(List.range S.length).map fun k=>zsub (crS W S k S.length) (zsum (at0 W) S.length)
def coT(W:List (Int×Int))(S:List Int)(n t:Nat):Int×Int:=zstr (at0 W t) (atS S ((t+S.length-n)%S.length)-1)
def coL(W:List (Int×Int))(S:List Int)(n j:Nat):List (Int×Int):=(List.range S.length).map fun i=>if i<n then zsum (coT W S i) S.length else if i=n then zsum (coT W S n) j else (0,0)
section
variable {W:List (Int×Int)} {S:List Int}
theorem Ml(n:Nat):∀ j:Nat,zsum (coT W S n) j=zsub (crS W S n j) (zsum (at0 W) j)
 | 0=>by simp[zsum,crS,zsub]
 | j+1=>by
  have ih:=Ml n j
  have e:coT W S n j=zsub (crT W S n j) (at0 W j):=by
   unfold coT crT zstr zsub
   simp only[Int.mul_sub,Int.mul_one]
  unfold crS at *
  simp only[zsum]
  rw[ih,e]
  unfold zadd zsub
  simp only[Prod.mk.injEq]
  omega
theorem aAb(hW:∀ z∈W,small z)(hS:∀ k,k<S.length→pE (atS S k))(h0:0<S.length)(n:Nat){j:Nat}(hj:j≤1024):zle 17179869184 (crS W S n j):=by
 have h:=Ub (f:=crT W S n) (B:=16777216) (n:=j) (fun k _=>Do (tP (pD hW k)) (hS _ (i9 _ h0)))
 have h2:(j:Int)*16777216≤1024*16777216:=Int.mul_le_mul_of_nonneg_right (by omega) (by decide)
 unfold crS
 unfold zle at *
 omega
theorem aAo(hW:∀ z∈W,small z){j:Nat}(hj:j≤1024):zle 17179869184 (zsum (at0 W) j):=by
 have h:=Ub (f:=at0 W) (B:=16777216) (n:=j) (fun k _=>tP (pD hW k))
 have h2:(j:Int)*16777216≤1024*16777216:=Int.mul_le_mul_of_nonneg_right (by omega) (by decide)
 unfold zle at *
 omega
theorem aCp(hW:∀ z∈W,small z)(hS:∀ k,k<S.length→pE (atS S k))(h0:0<S.length)(n:Nat){j:Nat}(hj:j≤1024):zle 34359738368 (zsum (coT W S n) j):=by
 rw[Ml]
 have h1:=aAb hW hS h0 n hj
 have h2:=aAo hW hj
 unfold zsub
 unfold zle at *
 omega
theorem Dk(n j:Nat):(coL W S n j).length=S.length:=by unfold coL;simp
theorem Ma(n j:Nat){i:Nat}(hi:i<S.length):(coL W S n j)[i]?=some (if i<n then zsum (coT W S i) S.length else if i=n then zsum (coT W S n) j else (0,0)):=by
 unfold coL
 rw[e8,l9 hi]
 rfl
theorem aBG{n:Nat}(j:Nat)(hn:n<S.length):(coL W S n j).set n (zsum (coT W S n) (j+1))=coL W S n (j+1):=by
 apply j8
 intro i
 rw[k8,Dk]
 by_cases hi:i<S.length
 ·rw[Ma n (j+1) hi]
  by_cases q:n=i
  ·subst q
   rw[a9 rfl,a9 hi,b6 (by omega),a9 rfl]
  ·rw[b6 q,Ma n j hi]
   by_cases c:i<n
   ·rw[a9 c,a9 c]
   ·rw[b6 c,b6 c,b6 (fun h=>q h.symm),b6 (fun h=>q h.symm)]
 ·have hn2:∀ j,(coL W S n j)[i]?=none:=fun j=>j7 (by rw[Dk];omega)
  rw[hn2,hn2,b6 (by omega)]
theorem Zs(n:Nat):coL W S n S.length=coL W S (n+1) 0:=by
 unfold coL
 apply k6
 intro i _
 by_cases c:i<n
 ·rw[a9 c,a9 (by omega)]
 ·rw[b6 c]
  by_cases q:i=n
  ·rw[a9 q,a9 (by omega),q]
  ·rw[b6 q,b6 (by omega)]
   by_cases q2:i=n+1
   ·rw[a9 q2];rfl
   ·rw[b6 q2]
theorem aAY:coL W S 0 0=List.replicate S.length (0,0):=by
 apply j8
 intro i
 by_cases hi:i<S.length
 ·rw[Ma 0 0 hi,List.getElem?_replicate,a9 hi,b6 (by omega)]
  by_cases q:i=0
  ·rw[a9 q];rfl
  ·rw[b6 q]
 ·rw[j7 (by rw[Dk];omega),j7 (by simp;omega)]
theorem aBw:coL W S S.length 0=cor W S:=by
 unfold coL cor
 apply k6
 intro i hi
 rw[List.mem_range] at hi
 rw[a9 hi,Ml]
theorem str2{z:Int×Int}{s:Int}(hz:small z)(hs:pE s):zle 33554432 (zstr z (s-1))∧IntKind.i64.wrap (s-1)=s-1:=by
 unfold small at hz
 unfold zle zstr
 rcases hs with rfl|rfl
 ·rw[show (1:Int)-1=0 from rfl]
  exact⟨by simp only[Int.mul_zero];omega,by decide⟩
 ·rw[show (-1:Int)-1 = -2 from rfl]
  exact⟨by simp only;omega,by decide⟩
theorem aBP(hW:∀ z∈W,small z)(hS:∀ k,k<S.length→pE (atS S k))(lW:W.length=S.length)(lS:0<S.length∧S.length≤1024){n:Nat}(hn:n<S.length) :
 run (bL W S (n:Int)) (coL W S n 0,0)=some (coL W S (n+1) 0):=by
 have step:∀ k:Nat,k<S.length→bL W S (n:Int) (coL W S n k,(k:Int))=some (.inl (coL W S n (k+1),((k+1:Nat):Int))):=by
  intro k hk
  have hi:(k+S.length-n)%S.length<S.length:=i9 _ lS.1
  have sg:=hS _ hi
  have sW:=pD hW k
  have b1:=aCp hW hS lS.1 n (j:=k) (by omega)
  obtain⟨b2,t1⟩:=str2 sW sg
  have gW:W[k]?=some (at0 W k):=nZ (by omega)
  have gL:(coL W S n k)[n]?=some (zsum (coT W S n) k):=by rw[Ma n k hn,b6 (by omega),a9 rfl]
  have m1:=mods hk hn lS.2
  have nx:=aBG (W:=W) k hn
  have e:zsum (coT W S n) (k+1)=zadd (zsum (coT W S n) k) (zstr (at0 W k) (atS S ((k+S.length-n)%S.length)-1)):=rfl
  have c2:eH (n:Int) (k:Int) S=some (atS S ((k+S.length-n)%S.length)-1):=by
   unfold eH aZ
   rw[m1,a7,aT,Dt hi,a7,a7,t1]
  generalize atS S ((k+S.length-n)%S.length)-1=s at *
  have s1:IntKind.i64.wrap ((at0 W k).1*s)=(zstr (at0 W k) s).1:=by unfold zle at b2;exact w64 (by show _≤(zstr (at0 W k) s).1∧(zstr (at0 W k) s).1≤_;omega)
  have s2:IntKind.i64.wrap ((at0 W k).2*s)=(zstr (at0 W k) s).2:=by unfold zle at b2;exact w64 (by show _≤(zstr (at0 W k) s).2∧(zstr (at0 W k) s).2≤_;omega)
  have w1:IntKind.i64.wrap ((zsum (coT W S n) k).1+(zstr (at0 W k) s).1)=(zsum (coT W S n) (k+1)).1:=by
   rw[e];unfold zle at b1 b2;exact w64 (by omega)
  have w2:IntKind.i64.wrap ((zsum (coT W S n) k).2+(zstr (at0 W k) s).2)=(zsum (coT W S n) (k+1)).2:=by
   rw[e];unfold zle at b1 b2;exact w64 (by omega)
  unfold bL cU dA
  try simp only
  rw[a9 (by rw[b9];omega),aT,gW,a7]
  try simp only
  rw[aT,gL,a7,c2,a7,a7,a7]
  try simp only
  rw[s1,s2,w1,w2,wsucc (n:=1024) (by omega) (by decide),show ((n:Int)).toNat=n by omega]
  rw[← nx]
  try rfl
 have key := lU (step := bL W S (n : Int)) (st := fun j (_ : Unit) => (coL W S n j, (j : Int))) (g := fun _ x => x) (fin := fun _ => coL W S (n + 1) 0) S.length (fun _ _ => True) (b0 := ()) trivial
     (fun j _ hj _=>⟨step j hj,trivial⟩) (fun _ _=>by
      unfold bL
      simp only
      rw[b6 (by rw[b9];omega),Zs])
 exact key.1
theorem Zi(hW:∀ z∈W,small z)(hS:∀ k,k<S.length→pE (atS S k))(lW:W.length=S.length)(lS:0<S.length∧S.length≤1024):fG W S=some (cor W S):=by
 have lz:(coL W S 0 0).length=S.length:=Dk 0 0
 have key := lU (step := dF W S (coL W S 0 0)) (st := fun n (_ : Unit) => (coL W S n 0, (n : Int))) (g := fun _ x => x) (fin := fun _ => cor W S) S.length (fun _ _ => True) (b0 := ()) trivial
     (fun n _ hn _=>⟨by
      unfold dF
      simp only
      rw[a9 (by rw[b9];omega),aBP hW hS lW lS hn,a7,wsucc (n:=1024) (by omega) (by decide)],trivial⟩) (fun _ _=>by
      unfold dF
      simp only
      rw[b6 (by rw[b9];omega),aBw])
 have k1:=key.1
 simp only[Int.natCast_zero] at k1
 unfold fG mkI
 rw[a9 (by omega),a7,show ((W.length:Int)).toNat=S.length by omega,← aAY (W:=W),k1,a7]
end
end Go.Rex
namespace Go.Rex
open Go Go.Rex
set_option maxRecDepth 100000
def even2(M:Int)(z:Int×Int):Prop:=z.1.tmod M=0∧z.2.tmod M=0
instance (M:Int) (z:Int×Int):Decidable (even2 M z):=by unfold even2;exact inferInstance
def qtZ(M:Int)(z:Int×Int):Int×Int:=(z.1.tdiv M,z.2.tdiv M)
def dvf{ε:Type}(M:Int)(e:ε)(b:List (Int×Int))(z:Int×Int):List (Int×Int) ⊕ ε:=if even2 M z then .inl (b++[qtZ M z]) else .inr e
theorem Tv{ε:Type}{M:Int}(e:ε)(b:List (Int×Int)){z:Int×Int}(h:even2 M z):dvf M e b z = .inl (b++[qtZ M z]):=a9 h
theorem Qp{ε:Type}{M:Int}(e:ε)(b:List (Int×Int)){z:Int×Int}(h:¬ even2 M z):dvf M e b z = .inr e:=b6 h
theorem Tb{ε:Type}(M:Int)(e:ε)(fin:List (Int×Int)→ε):∀(l b:List (Int×Int)),walk (dvf M e) fin b l=if ∀ z∈l,even2 M z then fin (b++l.map (qtZ M)) else e
 | [],b=>by simp[walk]
 | z::l,b=>by
  simp only[walk]
  by_cases h:even2 M z
  ·rw[Tv _ _ h]
   simp only
   rw[Tb M e fin l]
   by_cases h2:∀ z∈l,even2 M z
   ·rw[a9 h2,a9 (by intro y hy;rcases j9.1 hy with rfl|hy;exact h;exact h2 y hy)]
    simp
   ·rw[b6 h2,b6 (fun h3=>h2 fun y hy=>h3 y (j1 _ hy))]
  ·rw[Qp _ _ h,b6 (fun h3=>h (h3 z List.mem_cons_self))]
theorem Tl{x:Int}{M:Nat}{B:Int}(hx:-B≤x∧x≤B)(hM:1≤M):-B≤x.tdiv M∧x.tdiv M≤B:=by
 have h:=Int.natAbs_tdiv_le_natAbs x (M:Int)
 omega
theorem aAe{w:List (Int×Int)}{M:Nat}(hM:1≤M)(lw:w.length≤1024)(hw:∀ z∈w,zle 34359738368 z):kX w (M:Int)=some (if ∀ z∈w,even2 M z then (w.map (qtZ M),true) else ([],false)):=by
 have key:=Ea (step:=gY w (M:Int)) (fun k b=>(b,(k:Int))) (dvf (M:Int) (.inl ():Unit ⊕ List (Int×Int))) (fun b=>.inr b) (fun k b=>b.length=k) w
  (fun k z b hz hb=>by
   have hk:=(a8.1 hz).1
   have bz:=hw z (j2.2 ⟨k,hz⟩)
   unfold zle at bz
   have d1:=Tl bz.1 hM
   have d2:=Tl bz.2 hM
   unfold gY
   simp only
   rw[a9 (by rw[b9];omega),aT,hz,a7]
   try simp only
   rw[b6 (by omega)]
   by_cases h1:z.1.tmod M=0
   ·rw[b6 (by simpa using h1)]
    by_cases h2:z.2.tmod M=0
    ·rw[b6 (by simpa using h2),Tv _ _ ⟨h1,h2⟩]
     unfold lL
     rw[a9 (by simp;omega),a7,w64 (by omega),w64 (by omega),wsucc (n:=1024) (by omega) (by decide)]
     refine⟨rfl,fun b' hb'=>?_⟩
     have:=Sum.inl.inj hb'
     subst this
     simp[hb]
    ·rw[a9 (by simpa using h2),Qp _ _ (fun h=>h2 h.2)]
     exact⟨rfl,fun b' hb'=>by cases hb'⟩
   ·rw[a9 (by simpa using h1),Qp _ _ (fun h=>h1 h.1)]
    exact⟨rfl,fun b' hb'=>by cases hb'⟩)
  (fun b hb=>by
   unfold gY
   simp only
   rw[b6 (by rw[b9];omega)]) (b0:=[]) rfl
 rw[Tb] at key
 simp only[Int.natCast_zero,List.nil_append] at key
 unfold kX
 rw[key,a7]
 by_cases h:∀ z∈w,even2 M z
 ·rw[a9 h,a9 h]
 ·rw[b6 h,b6 h]
section
variable {W:List (Int×Int)} {S:List Int}
theorem Tn:(cor W S).length=S.length:=by unfold cor;simp
theorem aB6(hW:∀ z∈W,small z)(hS:∀ k,k<S.length→pE (atS S k))(lS:0<S.length∧S.length≤1024):∀ z∈cor W S,zle 34359738368 z:=by
 intro z hz
 unfold cor at hz
 rw[l5] at hz
 obtain⟨k,_,rfl⟩:=hz
 have h1:=aAb hW hS lS.1 k (j:=S.length) lS.2
 have h2:=aAo hW (j:=S.length) lS.2
 unfold zsub
 unfold zle at *
 omega
end
end Go.Rex
namespace Go.Rex
theorem Qj(x y:Nat):(x ^^^ y)%2=(x%2+y%2)%2:=by
 have:=Nat.xor_mod_two_pow (a:=x) (b:=y) (n:=1)
 rw[show (2:Nat)^1=2 from rfl] at this
 rw[this]
 rcases (show x%2=0∨x%2=1 by omega) with h|h<;>rcases (show y%2=0∨y%2=1 by omega) with h'|h'<;>rw[h,h']<;>rfl
theorem Wl(x y k:Nat):(x ^^^ y)/2^k%2=(x/2^k%2+y/2^k%2)%2:=by
 rw[Nat.xor_div_two_pow,Qj]
theorem Nb(L x y:Nat):∀(ts:List Nat) (a b:Nat),ts.foldl (fun a t=>(a+(x ^^^ y)/2^(L-t)%2)%2) ((a+b)%2) =
 (ts.foldl (fun a t=>(a+x/2^(L-t)%2)%2) a+ts.foldl (fun a t=>(a+y/2^(L-t)%2)%2) b)%2
 | [],a,b=>rfl
 | t::ts,a,b=>by
  simp only[List.foldl_cons]
  rw[← Nb L x y ts,Wl]
  congr 1
  omega
theorem Xs(L x y:Nat)(ts:List Nat):fbit L (x ^^^ y) ts=(fbit L x ts+fbit L y ts)%2:=Nb L x y ts 0 0
section
variable {L:Nat} {ts:List Nat}
theorem aCL(hL:1≤L){x y:Nat}(hx:x<2^L)(hy:y<2^L):nx L ts (x ^^^ y)=nx L ts x ^^^ nx L ts y:=by
 have hp:=tJ hL
 have h2:=j0 (L-1)
 have e1:∀ z,z<2^L→nx L ts z%2^(L-1)=z/2∧nx L ts z/2^(L-1)=fbit L z ts:=fun z hz=>by
  unfold nx
  have h1:z/2<2^(L-1):=by omega
  rw[Nat.add_mul_mod_self_right,g6 h1,Nat.add_mul_div_right _ _ h2,Nat.div_eq_of_lt h1,k7]
  exact⟨rfl,rfl⟩
 obtain⟨a1,a2⟩:=e1 x hx
 obtain⟨b1,b2⟩:=e1 y hy
 have m1:(nx L ts x ^^^ nx L ts y)%2^(L-1)=(x ^^^ y)/2:=by
  rw[Nat.xor_mod_two_pow,a1,b1,Nat.xor_div_two]
 have m2:(nx L ts x ^^^ nx L ts y)/2^(L-1)=fbit L (x ^^^ y) ts:=by
  rw[Nat.xor_div_two_pow,a2,b2,Xs]
  have f1:=pM L x ts
  have f2:=pM L y ts
  rcases (show fbit L x ts=0∨fbit L x ts=1 by omega) with h|h<;>rcases (show fbit L y ts=0∨fbit L y ts=1 by omega) with h'|h'<;>rw[h,h']<;>rfl
 rw[← Nat.div_add_mod (nx L ts x ^^^ nx L ts y) (2^(L-1)),m1,m2]
 unfold nx
 rw[Nat.add_comm,i8]
theorem To(hr:Reg L ts){x y:Nat}(hx:0<x∧x<2^L)(hy:0<y∧y<2^L):∀ t,stt L ts (x ^^^ y) t=stt L ts x t ^^^ stt L ts y t
 | 0=>rfl
 | t+1=>by
  show nx L ts _=nx L ts _ ^^^ nx L ts _
  rw[To hr hx hy t,aCL (by have:=hr.two;omega) (kD hr hx.1 hx.2 t).2 (kD hr hy.1 hy.2 t).2]
theorem Pk(hr:Reg L ts){s:Nat}(h0:0<s)(hs:s<2^L):∀(i k:Nat),stt L ts s i=stt L ts s (i+k)→s=stt L ts s k:=by
 intro i
 induction i with
 | zero=>intro k h;simpa [stt] using h
 | succ i ih =>
  intro k h
  rw[show i+1+k=(i+k)+1 by omega] at h
  exact ih k (Sw hr (kD hr h0 hs i).2 (kD hr h0 hs (i+k)).2 h)
def Maxi(L:Nat)(ts:List Nat):Prop:=wX L ts 1 (2^L-1)
theorem rX(hr:Reg L ts):1<2^L:=by
 have h1:2^1≤2^L:=j6 (by omega) (by have:=hr.two;omega)
 omega
theorem Vp(hr:Reg L ts){s n:Nat}(h0:0<s)(hs:s<2^L)(hp:wX L ts s n):((List.range n).map (stt L ts s)).Nodup:=by
 rw[List.nodup_iff_pairwise_ne,List.pairwise_map]
 refine List.Pairwise.imp_of_mem ?_ List.pairwise_lt_range
 intro a b ha hb hlt he
 have hb':=List.mem_range.1 hb
 have:=Pk hr h0 hs a (b-a) (by rw[show a+(b-a)=b by omega];exact he)
 exact hp.2 (b-a) (by omega) ⟨by omega,this.symm⟩
theorem Nt{α:Type}[DecidableEq α]{l m:List α}(hl:l.Nodup)(hs:l⊆m)(hlen:m.length≤l.length):m⊆l:=by
 intro x hx
 apply g8
 intro hn
 have h1:(x::l).Nodup:=List.nodup_cons.2 ⟨hn,hl⟩
 have h2:(x::l)⊆m:=by
  intro y hy
  rcases j9.1 hy with rfl|hy
  ·exact hx
  ·exact hs hy
 have:=h1.length_le_of_subset h2
 simp at this
 omega
theorem Pa(hr:Reg L ts){s:Nat}(h0:0<s)(hs:s<2^L)(hp:wX L ts s (2^L-1)):((List.range (2^L-1)).map (stt L ts s)).Perm ((List.range (2^L-1)).map (· + 1)):=by
 have hnd:=Vp hr h0 hs hp
 have hsub:((List.range (2^L-1)).map (stt L ts s))⊆(List.range (2^L-1)).map (· + 1):=by
  intro x hx
  obtain⟨t,_,rfl⟩:=l5.1 hx
  obtain⟨a,b⟩:=kD hr h0 hs t
  exact l5.2 ⟨stt L ts s t-1,List.mem_range.2 (by omega),by omega⟩
 have hnd2:((List.range (2^L-1)).map (· + 1)).Nodup:=by
  rw[List.nodup_iff_pairwise_ne,List.pairwise_map]
  exact List.Pairwise.imp (fun h=>by omega) List.pairwise_lt_range
 exact (List.perm_ext_iff_of_nodup hnd hnd2).2 fun x=>⟨fun h=>hsub h,fun h=>Nt hnd hsub (by simp) h⟩
theorem zJ(hr:Reg L ts)(hm:Maxi L ts){s:Nat}(h0:0<s)(hs:s<2^L):wX L ts s (2^L-1):=by
 have h1:=rX hr
 have hmem:s∈(List.range (2^L-1)).map (stt L ts 1):=(Pa hr (by omega) h1 hm).mem_iff.2 (l5.2 ⟨s-1,List.mem_range.2 (by omega),by omega⟩)
 obtain⟨k,hk,rfl⟩:=l5.1 hmem
 refine⟨⟨hm.1.1,?_⟩,fun m hmlt hc=>?_⟩
 ·rw[← uD,Nat.add_comm,uD,hm.1.2]
 ·rw[← uD] at hc
  exact hm.2 m hmlt ⟨hc.1,(Pk hr (by omega) h1 k m hc.2.symm).symm⟩
theorem Wp{L:Nat}(h2:2≤L)(h8:L≤8):(((List.range (2^L-1)).map (· + 1)).map (· % 2)).sum=2^(L-1):=by
 rcases (show L=2∨L=3∨L=4∨L=5∨L=6∨L=7∨L=8 by omega) with rfl|rfl|rfl|rfl|rfl|rfl|rfl<;>decide +kernel
theorem aCN(hr:Reg L ts)(hm:Maxi L ts){s:Nat}(h0:0<s)(hs:s<2^L):((List.range (2^L-1)).map (bt L ts s)).sum=2^(L-1):=by
 have h1:=(Pa hr h0 hs (zJ hr hm h0 hs)).map (· % 2)
 have h2:=h1.sum_nat
 rw[Wp hr.two hr.most,List.map_map] at h2
 exact h2
def isum(f:Nat→Int):Nat→Int
 | 0=>0
 | n+1=>isum f n+f n
theorem aP{f g:Nat→Int}:∀ {n:Nat},(∀ k,k<n→f k=g k)→isum f n=isum g n
 | 0,_=>rfl
 | n+1,h=>by unfold isum;rw[aP (fun k hk=>h k (by omega)),h n (by omega)]
theorem Hr(b:Nat→Nat):∀ n,isum (fun t=>1-2*((b t:Nat):Int)) n=n-2*((((List.range n).map b).sum:Nat):Int)
 | 0=>rfl
 | n+1=>by
  unfold isum
  rw[Hr b n,List.range_succ,List.map_append,List.sum_append]
  simp
  omega
theorem Hs(hr:Reg L ts)(hm:Maxi L ts){s:Nat}(h0:0<s)(hs:s<2^L):isum (fun t=>1-2*((bt L ts s t:Nat):Int)) (2^L-1) = -1:=by
 have hp:=tJ (L:=L) (by have:=hr.two;omega)
 have:=j0 (L-1)
 rw[Hr,aCN hr hm h0 hs]
 omega
theorem Qz(hr:Reg L ts){s n:Nat}(hp:stt L ts s n=s):∀(q t:Nat),stt L ts s (t+n*q)=stt L ts s t
 | 0,t=>by simp
 | q+1,t=>by
  have h:t+n*(q+1)=n+(t+n*q):=by rw[Nat.mul_add];omega
  rw[h,uD,hp,Qz hr hp q t]
theorem Xl(hr:Reg L ts){s:Nat}(h0:0<s)(hs:s<2^L)(d t:Nat):(1-2*((bt L ts s t:Nat):Int))*(1-2*((bt L ts s (d+t):Nat):Int))=1-2*((bt L ts (s ^^^ stt L ts s d) t:Nat):Int):=by
 have hd:=kD hr h0 hs d
 have e:bt L ts (s ^^^ stt L ts s d) t=(bt L ts s t+bt L ts s (d+t))%2:=by
  unfold bt
  rw[To hr ⟨h0,hs⟩ hd,Qj,uD]
 rw[e]
 have b1:bt L ts s t=0∨bt L ts s t=1:=by unfold bt;omega
 have b2:bt L ts s (d+t)=0∨bt L ts s (d+t)=1:=by unfold bt;omega
 rcases b1 with h|h<;>rcases b2 with h'|h'<;>rw[h,h']<;>rfl
theorem Pw(hr:Reg L ts)(hm:Maxi L ts){s:Nat}(h0:0<s)(hs:s<2^L){d:Nat}(hd:d<2^L-1) :
 isum (fun t=>(1-2*((bt L ts s t:Nat):Int))*(1-2*((bt L ts s (d+t):Nat):Int))) (2^L-1)=if d=0 then ((2^L-1:Nat):Int) else -1:=by
 rw[aP (fun t _=>Xl hr h0 hs d t)]
 split
 ·rename_i h
  subst h
  have:s ^^^ stt L ts s 0=0:=Nat.xor_self s
  rw[this]
  have hz:∀ t,stt L ts 0 t=0:=by
   intro t
   induction t with
   | zero=>rfl
   | succ t ih=>show nx L ts _=0;rw[ih,Vc]
  have:∀ n,isum (fun t=>1-2*((bt L ts 0 t:Nat):Int)) n=n:=by
   intro n
   induction n with
   | zero=>rfl
   | succ n ih=>unfold isum;rw[ih];unfold bt;rw[hz];simp
  rw[this]
 ·rename_i h
  have hsd:=kD hr h0 hs d
  have hne:s ^^^ stt L ts s d≠0:=by
   intro e
   have he:s=stt L ts s d:=by
    have h1:s ^^^ stt L ts s d ^^^ stt L ts s d=stt L ts s d:=by rw[e,Nat.zero_xor]
    rwa [Nat.xor_assoc,Nat.xor_self,Nat.xor_zero] at h1
   exact (zJ hr hm h0 hs).2 d (by omega) ⟨by omega,he.symm⟩
  have hlt:s ^^^ stt L ts s d<2^L:=Nat.xor_lt_two_pow hs hsd.2
  exact Hs hr hm (by omega) hlt
end
end Go.Rex
namespace Go.Rex
open Go Go.Rex
set_option maxRecDepth 100000
theorem Qh(L:Nat)(ts:List Nat)(s n:Nat):∀ k,k<(sgl L ts s n).length→pE (atS (sgl L ts s n) k):=by
 intro k hk
 have h:=Dt hk
 rw[mF] at hk
 have e:(sgl L ts s n)[k]?=some (1-2*((bt L ts s k:Nat):Int)):=by
  unfold sgl
  rw[e8,l9 hk]
  rfl
 rw[e] at h
 have h:=a6 h
 unfold pE
 have:=aB1 L ts s k
 omega
noncomputable def exG(w:List (Int×Int))(S:List Int):List (Nat×Nat)×Int:=if (rec (fold w S.length)).2≠0 then ([],(rec (fold w S.length)).2) else rec (wgh (fold w S.length) S)
theorem Ug(w:List (Int×Int)):((rec w).2=0∧(∀ z∈w,small z)∧(rec w).1=w.map oL)∨((rec w).2=8∧(rec w).1=[]):=by
 unfold rec
 by_cases h:∀ z∈w,small z
 ·rw[a9 h];exact .inl ⟨rfl,h,rfl⟩
 ·rw[b6 h];exact .inr ⟨rfl,rfl⟩
section
variable {L:Nat} {ts:List Nat} {s:Nat}
theorem aA0(hr:Reg L ts)(h0:0<s)(hs:s<2^L){l:List (Nat×Nat)}(G:GoodL l):((bN l).bind fun v12 =>
 (aC L (ints ts)).bind fun v13 =>
 (fS v12 v13).bind fun v14 =>
 (bF L (ints ts) s).bind fun v15 =>
 (bE v14).bind fun (v16,v17) =>
 if (decide (v17≠0))=true then
  (some (([]:List (Nat×Nat)),v17))
 else
  ((fC v14 v15).bind fun v18 =>
  (bE v18).bind fun (v19,v20) =>
  some (v19,v20)))=some (exG (nums l) (sgl L ts s (2^L-1))):=by
 have g:=G.len
 have hL:=hr.most
 have hp:=pow8 hL
 have h1:1<2^L:=rX hr
 have nw:(nums l).length≤1024:=by rw[pY];omega
 unfold bF
 rw[xF G,a7,uH hL,a7,(Nv (yL G) nw (by omega)),a7,Br hr h0 hs,a7,a7,vF _ (by unfold fold;rw[Bu];omega),a7]
 unfold exG
 rw[mF]
 have ln:=mF L ts s (2^L-1)
 have sg:=Qh L ts s (2^L-1)
 generalize sgl L ts s (2^L-1)=S at *
 have lf:(fold (nums l) (2^L-1)).length=2^L-1:=by unfold fold;rw[Bu]
 generalize fold (nums l) (2^L-1)=W at *
 rcases Ug W with⟨e1,e2,e3⟩|⟨e1,e2⟩
 ·rcases hR:rec W with⟨r1,r2⟩
  rw[hR] at e1
  obtain rfl:r2=0:=e1
  simp only
  rw[b6 (by simp),b6 (by simp),(Vq e2 sg (by omega) (by omega)),a7,Bp]
  exact vF _ (by rw[zT];omega)
 ·rcases hR:rec W with⟨r1,r2⟩
  rw[hR] at e1
  obtain rfl:r2=8:=e1
  simp only
  rw[a9 (by simp),a9 (by simp)]
end
theorem Rs{l:List (Nat×Nat)}{L:Nat}{ts:List Nat}{s:Nat}(ht:(ints ts).length≤12)(hl:lE l=0)(hc:chk L (ints ts)=0)(hr:Reg L ts)(h0:0<s)(hs:s<2^L):kW l L (ints ts) s=some (exG (nums l) (sgl L ts s (2^L-1))):=by
 have hL:=hr.most
 have hin:1≤(s:Int)∧(s:Int)≤((2^L-1:Nat):Int):=by omega
 unfold kW fP aY iS
 rw[a7,a7,xL]
 simp only
 rw[a7,b6 (by simpa using hl),Bi _ _ ht,a7,hc,b6 (by decide),vD _ _ hL,a7,a9 hin,b6 (by decide),a7,b6 (by decide)]
 exact aA0 hr h0 hs (As hl)
end Go.Rex
namespace Go.Rex
open Go Go.Rex
set_option maxRecDepth 100000
section
variable {L:Nat} {ts:List Nat} {s:Nat}
theorem aBY(hr:Reg L ts){n:Nat}(hp:wX L ts 1 n)(hn:n≤2^L-1):cM L (ints ts)=some (if n=2^L-1 then 0 else 22):=by
 unfold cM eZ aD aA
 have:=Vv hr (s:=1) (by omega) (rX hr) hp hn
 rw[show (1:Int)=((1:Nat):Int) from rfl,this,a7,uH hr.most,a7]
 by_cases h:n=2^L-1
 ·simp[h]
 ·have h':¬((n:Int)=((2^L-1:Nat):Int)):=by omega
  rw[decide_eq_false h',b6 h]
  simp
theorem aDn(hr:Reg L ts){n:Nat}(hp:wX L ts 1 n)(hn:n≤2^L-1):kS L (ints ts)=some (decide (n=2^L-1)):=by
 unfold kS
 have:=Km hr (s:=1) (by omega) (rX hr) hp hn
 rw[show (1:Int)=((1:Nat):Int) from rfl,this,a7,Ju hr.most,a7]
 by_cases h:n=2^L-1
 ·simp[h]
 ·have h':¬((n:Int)=((2^L-1:Nat):Int)):=by omega
  rw[decide_eq_false h,decide_eq_false h']
noncomputable def unV(W:List (Int×Int))(S:List Int):List (Nat×Nat)×Int:=if ∀ z∈cor W S,even2 ((S.length+1:Nat):Int) z then rec ((cor W S).map (qtZ ((S.length+1:Nat):Int))) else ([],20)
theorem Xx(hr:Reg L ts)(h0:0<s)(hs:s<2^L){l:List (Nat×Nat)}(G:GoodL l)(hl:l.length=2^L-1):((bF L (ints ts) s).bind fun v12 =>
 (bN l).bind fun v13 =>
 (fG v13 v12).bind fun v14 =>
 (aC L (ints ts)).bind fun v15 =>
 (kX v14 (IntKind.i64.wrap (v15+1))).bind fun (v16,v17) =>
 if v17=true then
  ((bE v16).bind fun (v18,v19) =>
  some (v18,v19))
 else
  (some (([]:List (Nat×Nat)),20)))=some (unV (nums l) (sgl L ts s (2^L-1))):=by
 have g:=G.len
 have hL:=hr.most
 have hp:=pow8 hL
 have h1:1<2^L:=rX hr
 unfold bF
 rw[Br hr h0 hs,a7,a7,xF G,a7]
 have ln:=mF L ts s (2^L-1)
 have sg:=Qh L ts s (2^L-1)
 generalize sgl L ts s (2^L-1)=S at *
 have lw:(nums l).length=S.length:=by rw[pY];omega
 have sm:=yL G
 generalize nums l=W at *
 rw[Zi sm sg lw (by omega),a7,uH hL,a7,← ln,wsucc (n:=1024) (by omega) (by decide),aAe (by omega) (by rw[Tn];omega) (aB6 sm sg (by omega)),a7]
 unfold unV
 by_cases h:∀ z∈cor W S,even2 ((S.length+1:Nat):Int) z
 ·rw[a9 h,a9 h]
  simp only
  rw[a9 trivial,Bp]
  exact vF _ (by rw[m5,Tn];omega)
 ·rw[b6 h,b6 h]
  simp only
  rw[b6 (by simp)]
end
theorem Zq(l:List (Nat×Nat)){L:Nat}(t:List Int)(hL:L≤8):eN l L t=some (if l.length=2^L-1 then 0 else 13):=by
 unfold eN aD aA
 rw[uH hL,a7]
 by_cases h:l.length=2^L-1
 ·simp[h]
 ·have h':¬((l.length:Int)=((2^L-1:Nat):Int)):=by omega
  rw[b6 h,i7 h']
  simp
noncomputable def unG(l:List (Nat×Nat))(L:Nat)(ts:List Nat)(s n:Nat):List (Nat×Nat)×Int:=if n=2^L-1 then if l.length=2^L-1 then unV (nums l) (sgl L ts s (2^L-1)) else ([],13) else ([],22)
theorem aDd{l:List (Nat×Nat)}{L:Nat}{ts:List Nat}{s n:Nat}(ht:(ints ts).length≤12)(hl:lE l=0)(hc:chk L (ints ts)=0)(hr:Reg L ts)(h0:0<s)(hs:s<2^L)(hp:wX L ts 1 n)(hn:n≤2^L-1):jY l L (ints ts) s=some (unG l L ts s n):=by
 have hL:=hr.most
 have hin:1≤(s:Int)∧(s:Int)≤((2^L-1:Nat):Int):=by omega
 unfold unG
 unfold jY fP aY iV
 rw[a7,a7,xL]
 simp only
 rw[a7,b6 (by simpa using hl),Bi _ _ ht,a7,hc,b6 (by decide),vD _ _ hL,a7,a9 hin,b6 (by decide),aBY hr hp hn,a7,Zq l _ hL]
 by_cases h1:n=2^L-1
 ·rw[a9 h1,a9 h1,b6 (by decide),a7]
  by_cases h2:l.length=2^L-1
  ·rw[a9 h2,a9 h2,b6 (by decide),a7,b6 (by decide)]
   exact Xx hr h0 hs (As hl) h2
  ·rw[b6 h2,b6 h2,a9 (by decide),a7,a9 (by decide)]
 ·rw[b6 h1,b6 h1,a9 (by decide),a7,a9 (by decide)]
end Go.Rex
namespace Go.Rex
open Go Go.Rex
set_option maxRecDepth 100000
theorem Uf{w:List (Int×Int)}{k:Nat}(hk:w.length≤k):at0 w k=(0,0):=by
 unfold at0
 rw[i4,j7 hk]
 rfl
def Si(a:List (Int×Int))(n:Nat):List (Int×Int):=(List.range n).map (at0 a)
theorem aBC(a:List (Int×Int))(n k:Nat):at0 (Si a n) k=if k<n then at0 a k else (0,0):=by
 unfold Si
 by_cases h:k<n
 ·rw[a9 h]
  have hl:k<((List.range n).map (at0 a)).length:=by simp;exact h
  have:=nZ hl
  rw[e8,l9 h] at this
  exact (a6 this).symm
 ·rw[b6 h,Uf (by simp;omega)]
structure ChirpOf(n:Nat)(c:List (Nat×Nat)):Prop where
 len:c.length=n
 val:∀ p∈c,∃ z,PV p z∧aAg z
theorem aBc{l:List (Nat×Nat)}(hl:0<l.length∧l.length≤1024)(h:∀ p∈l,∃ z,PV p z∧small z):lE l=0:=by
 unfold lE
 rw[b6 (by omega),b6 (by omega)]
 have:dZ (uL l) l.length=none:=firstOf_none.2 (fun k hk=>by
  unfold uL
  rw[b8 hk]
  simp only
  rw[a9]
  obtain⟨z,z1,z2⟩:=h l[k] (List.getElem_mem hk)
  unfold cE
  rw[Pm z1.1,Pm z1.2]
  simp only
  rw[a9]
  unfold sm24
  simp only[decide_eq_true_eq]
  exact z2)
 rw[this]
 rfl
theorem Nr{w:List (Int×Int)}(h:∀ z∈w,small z):nums (w.map oL)=w:=by
 unfold nums
 rw[List.map_map]
 conv=>rhs;rw[← List.map_id w]
 exact k6 (fun z hz=>aAU (h z hz))
theorem Vd{w:List (Int×Int)}(hl:0<w.length∧w.length≤1024)(h:∀ z∈w,small z):lE (w.map oL)=0:=
 aBc (by simp;exact hl) (fun p hp=>by
  obtain⟨z,hz,rfl⟩:=l5.1 hp
  exact⟨z,Kl (h z hz),h z hz⟩)
structure Lists(v1 v2:List (Int×Int))(a b s:List (Int×Int)):Prop where
 la:a.length=v1.length
 lb:b.length=v1.length
 ls:s.length=v1.length
 ba:∀ k,zle 10000 (at0 a k)
 bb:∀ k,zle 10000 (at0 b k)
 sum:∀ k,at0 s k=zadd (at0 a k) (at0 b k)
theorem rE(f:Nat→Int)(c:Int):∀ n,isum (fun t=>f t*c) n=isum f n*c
 | 0=>by simp[isum]
 | n+1=>by simp only[isum];rw[rE f c n,Int.add_mul]
theorem rD(f:Nat→Int)(c:Int):∀ n,isum (fun t=>c*f t) n=c*isum f n
 | 0=>by simp[isum]
 | n+1=>by simp only[isum];rw[rD f c n,Int.mul_add]
theorem Nm(f g:Nat→Int):∀ n,isum (fun t=>f t+g t) n=isum f n+isum g n
 | 0=>by simp[isum]
 | n+1=>by simp only[isum];rw[Nm f g n];omega
theorem En(f g:Nat→Int):∀ n,isum (fun t=>f t-g t) n=isum f n-isum g n
 | 0=>by simp[isum]
 | n+1=>by simp only[isum];rw[En f g n];omega
theorem Jg:∀ n,isum (fun _=>0) n=0
 | 0=>rfl
 | n+1=>by simp only[isum];rw[Jg n];omega
theorem tN(f:Nat→Nat→Int)(m:Nat):∀ n,isum (fun t=>isum (fun j=>f t j) m) n=isum (fun j=>isum (fun t=>f t j) n) m
 | 0=>by simp only[isum];rw[Jg]
 | n+1=>by simp only[isum];rw[tN f m n,Nm]
theorem Gp(x:Int)(k:Nat):∀ n,isum (fun j=>if j=k then x else 0) n=if k<n then x else 0
 | 0=>by simp[isum]
 | n+1=>by
  simp only[isum]
  rw[Gp x k n]
  by_cases h1:k<n
  ·rw[a9 h1,b6 (by omega),a9 (by omega)];omega
  ·by_cases h2:n=k
   ·rw[b6 h1,a9 h2,a9 (by omega)];omega
   ·rw[b6 h1,b6 h2,b6 (by omega)];omega
def sgq(L:Nat)(ts:List Nat)(s k:Nat):Int:=1-2*((bt L ts s k:Nat):Int)
section
variable {L:Nat} {ts:List Nat} {s:Nat}
theorem Ay(hr:Reg L ts)(s a t:Nat):sgq L ts s (t+a)=sgq L ts (stt L ts s a) t:=by
 unfold sgq bt
 rw[Nat.add_comm,uD]
theorem Tx(hr:Reg L ts)(hm:Maxi L ts)(h0:0<s)(hs:s<2^L)(a:Nat):isum (fun t=>sgq L ts s (t+a)) (2^L-1) = -1:=by
 rw[aP (fun t _=>Ay hr s a t)]
 obtain⟨h1,h2⟩:=kD hr h0 hs a
 exact Hs hr hm h1 h2
theorem Yw(hr:Reg L ts)(hm:Maxi L ts)(h0:0<s)(hs:s<2^L){j k:Nat}(hj:j<2^L-1)(hk:k<2^L-1):isum (fun t=>sgq L ts s (t+(2^L-1-j))*sgq L ts s (t+(2^L-1-k))) (2^L-1)=if j=k then ((2^L-1:Nat):Int) else -1:=by
 have key:∀ j k:Nat,k≤j→j<2^L-1→isum (fun t=>sgq L ts s (t+(2^L-1-j))*sgq L ts s (t+(2^L-1-k))) (2^L-1)=if j=k then ((2^L-1:Nat):Int) else -1:=by
  intro j k hkj hj
  obtain⟨h1,h2⟩:=kD hr h0 hs (2^L-1-j)
  have e:∀ t,t<2^L-1→sgq L ts s (t+(2^L-1-j))*sgq L ts s (t+(2^L-1-k))=sgq L ts (stt L ts s (2^L-1-j)) t*sgq L ts (stt L ts s (2^L-1-j)) (j-k+t):=by
   intro t _
   rw[show t+(2^L-1-k)=(j-k+t)+(2^L-1-j) by omega,Ay hr,Ay hr]
  rw[aP e]
  have c:=Pw hr hm h1 h2 (d:=j-k) (by omega)
  unfold sgq
  rw[c]
  by_cases h:j=k
  ·rw[a9 h,a9 (by omega)]
  ·rw[b6 h,b6 (by omega)]
 rcases Nat.le_total k j with h|h
 ·exact key j k h hj
 ·rw[aP (fun t _=>Int.mul_comm _ _),key k j h hk]
  by_cases e:j=k
  ·rw[a9 e,a9 e.symm]
  ·rw[b6 e,b6 (fun x=>e x.symm)]
theorem Jt(hr:Reg L ts)(hm:Maxi L ts)(h0:0<s)(hs:s<2^L)(a:Nat→Int){k:Nat}(hk:k<2^L-1) :
 isum (fun t=>isum (fun j=>a j*sgq L ts s (t+(2^L-1-j))) (2^L-1)*sgq L ts s (t+(2^L-1-k))) (2^L-1)-isum (fun t=>isum (fun j=>a j*sgq L ts s (t+(2^L-1-j))) (2^L-1)) (2^L-1)=a k*((2^L-1+1:Nat):Int):=by
 have e1:isum (fun t=>isum (fun j=>a j*sgq L ts s (t+(2^L-1-j))) (2^L-1)*sgq L ts s (t+(2^L-1-k))) (2^L-1)=isum (fun j=>a j*if j=k then ((2^L-1:Nat):Int) else -1) (2^L-1):=by
  rw[aP (fun t _=>(rE _ _ _).symm),tN]
  refine aP (fun j hj=>?_)
  rw[← Yw hr hm h0 hs hj hk,← rD]
  exact aP (fun t _=>Int.mul_assoc _ _ _)
 have e2:isum (fun t=>isum (fun j=>a j*sgq L ts s (t+(2^L-1-j))) (2^L-1)) (2^L-1)=isum (fun j=>a j*-1) (2^L-1):=by
  rw[tN]
  refine aP (fun j hj=>?_)
  rw[rD,Tx hr hm h0 hs]
 rw[e1,e2,← En]
 have e3:∀ j,j<2^L-1→(a j*(if j=k then ((2^L-1:Nat):Int) else -1)-a j*-1)=if j=k then a k*((2^L-1+1:Nat):Int) else 0:=by
  intro j _
  by_cases h:j=k
  ·subst h
   rw[a9 rfl,a9 rfl,← Int.mul_sub]
   congr 1
  ·rw[b6 h,b6 h]
   omega
 rw[aP e3,Gp,a9 hk]
theorem Sh(hr:Reg L ts)(hm:Maxi L ts)(h0:0<s)(hs:s<2^L)(m:Nat):atS (sgl L ts s (2^L-1)) (m%(2^L-1))=sgq L ts s m:=by
 have h1:=rX hr
 have hlt:m%(2^L-1)<2^L-1:=i9 _ (by omega)
 have h:=Dt (S:=sgl L ts s (2^L-1)) (k:=m%(2^L-1)) (by rw[mF];exact hlt)
 have e:(sgl L ts s (2^L-1))[m%(2^L-1)]?=some (sgq L ts s (m%(2^L-1))):=by
  unfold sgl sgq
  rw[e8,l9 hlt]
  rfl
 rw[e] at h
 rw[← a6 h]
 unfold sgq bt
 have hp:=(zJ hr hm h0 hs).1.2
 have:=Qz hr hp (m/(2^L-1)) (m%(2^L-1))
 rw[Nat.mod_add_div] at this
 rw[this]
end
theorem wR(f:Nat→Int×Int):∀ n,(zsum f n).1=isum (fun t=>(f t).1) n∧(zsum f n).2=isum (fun t=>(f t).2) n
 | 0=>⟨rfl,rfl⟩
 | n+1=>by
  obtain⟨h1,h2⟩:=wR f n
  simp only[zsum,zadd,isum]
  rw[h1,h2]
  exact⟨rfl,rfl⟩
theorem Xi{L:Nat}{ts:List Nat}{s:Nat}(hr:Reg L ts)(hm:Maxi L ts)(h0:0<s)(hs:s<2^L)(W:List (Int×Int)) :
 cor (wgh W (sgl L ts s (2^L-1))) (sgl L ts s (2^L-1))=(List.range (2^L-1)).map fun k=>zstr (at0 W k) ((2^L-1+1:Nat):Int):=by
 have hl:=mF L ts s (2^L-1)
 have hS:=fun m=>Sh hr hm h0 hs m
 generalize hSS:sgl L ts s (2^L-1)=S at *
 unfold cor
 rw[hl]
 apply k6
 intro k hk
 rw[List.mem_range] at hk
 have w:∀ t,t<2^L-1→at0 (wgh W S) t=(isum (fun j=>(at0 W j).1*sgq L ts s (t+(2^L-1-j))) (2^L-1),isum (fun j=>(at0 W j).2*sgq L ts s (t+(2^L-1-j))) (2^L-1)):=by
  intro t ht
  rw[aAp (by omega),hl]
  unfold wgS
  obtain⟨h1,h2⟩:=wR (wgT W S t) (2^L-1)
  refine Prod.ext (h1.trans ?_) (h2.trans ?_)
  ·refine aP (fun j hj=>?_)
   unfold wgT zstr
   rw[hl,hS,show t+(2^L-1)-j=t+(2^L-1-j) by omega]
  ·refine aP (fun j hj=>?_)
   unfold wgT zstr
   rw[hl,hS,show t+(2^L-1)-j=t+(2^L-1-j) by omega]
 have c:∀ t,t<2^L-1→crT (wgh W S) S k t=(isum (fun j=>(at0 W j).1*sgq L ts s (t+(2^L-1-j))) (2^L-1)*sgq L ts s (t+(2^L-1-k)),isum (fun j=>(at0 W j).2*sgq L ts s (t+(2^L-1-j))) (2^L-1)*sgq L ts s (t+(2^L-1-k))):=by
  intro t ht
  unfold crT zstr
  rw[w t ht,hl,hS,show t+(2^L-1)-k=t+(2^L-1-k) by omega]
 obtain⟨a1,a2⟩:=wR (crT (wgh W S) S k) (2^L-1)
 obtain⟨b1,b2⟩:=wR (at0 (wgh W S)) (2^L-1)
 have x1:=Jt hr hm h0 hs (fun j=>(at0 W j).1) hk
 have x2:=Jt hr hm h0 hs (fun j=>(at0 W j).2) hk
 unfold zsub zstr crS
 refine Prod.ext ?_ ?_
 ·simp only
  rw[a1,b1,← x1,aP (fun t ht=>by rw[c t ht]),aP (n:=2^L-1) (f:=fun t=>(at0 (wgh W S) t).1) (fun t ht=>by rw[w t ht])]
 ·simp only
  rw[a2,b2,← x2,aP (fun t ht=>by rw[c t ht]),aP (n:=2^L-1) (f:=fun t=>(at0 (wgh W S) t).2) (fun t ht=>by rw[w t ht])]
theorem Zk{L:Nat}{ts:List Nat}{s:Nat}(hr:Reg L ts)(hm:Maxi L ts)(h0:0<s)(hs:s<2^L)(W:List (Int×Int)):unV (wgh W (sgl L ts s (2^L-1))) (sgl L ts s (2^L-1))=rec (Si W (2^L-1)):=by
 have hl:=mF L ts s (2^L-1)
 unfold unV
 rw[Xi hr hm h0 hs,hl]
 have e:∀ z∈(List.range (2^L-1)).map (fun k=>zstr (at0 W k) ((2^L-1+1:Nat):Int)),even2 ((2^L-1+1:Nat):Int) z:=by
  intro z hz
  obtain⟨k,_,rfl⟩:=l5.1 hz
  unfold even2 zstr
  exact⟨Int.mul_tmod_left _ _,Int.mul_tmod_left _ _⟩
 rw[a9 e,List.map_map]
 congr 1
 unfold Si
 apply k6
 intro k _
 show qtZ _ (zstr (at0 W k) _)=at0 W k
 unfold qtZ zstr
 simp only
 rw[Int.mul_tdiv_cancel _ (by omega),Int.mul_tdiv_cancel _ (by omega)]
end Go.Rex
namespace Go.Rex
def Pr(p:Nat):Prop:=2≤p∧∀ q,q ∣ p→q=1∨q=p
theorem Pr.coprime{p a:Nat}(h:Pr p)(ha:¬ p ∣ a):Nat.Coprime p a:=by
 rcases h.2 _ (Nat.gcd_dvd_left p a) with h1|h1
 ·exact h1
 ·exact absurd (h1 ▸ Nat.gcd_dvd_right p a) ha
theorem Pr.dvd_mul{p a b:Nat}(h:Pr p)(hd:p ∣ a*b):p ∣ a∨p ∣ b:=by
 rcases Nat.decEq (a%p) 0 with hn|hn
 ·right
  exact (h.coprime (fun hh=>hn (Nat.mod_eq_zero_of_dvd hh))).dvd_of_dvd_mul_left hd
 ·exact .inl (l6 hn)
theorem Pr.dvd_pow{p a:Nat}(h:Pr p):∀ {n:Nat},p ∣ a^n→p ∣ a
 | 0,hd=>by
  have:=Nat.le_of_dvd (by simp) hd
  have:=h.1
  simp at *
  omega
 | n+1,hd=>by
  rw[k5] at hd
  rcases h.dvd_mul hd with h1|h1
  ·exact h.dvd_pow h1
  ·exact h1
def dB(f:Nat→Nat):Nat→Nat
 | 0=>0
 | n+1=>dB f n+f n
theorem Gi(f g:Nat→Nat):∀ n,dB (fun k=>f k+g k) n=dB f n+dB g n
 | 0=>rfl
 | n+1=>by simp only[dB,Gi f g n];omega
theorem yZ(f:Nat→Nat)(a:Nat):∀ n,dB (fun k=>a*f k) n=a*dB f n
 | 0=>rfl
 | n+1=>by simp only[dB,yZ f a n,Nat.mul_add]
theorem uN(f:Nat→Nat):∀ n,dB f (n+1)=f 0+dB (fun k=>f (k+1)) n
 | 0=>by simp[dB]
 | n+1=>by
  have:=uN f n
  simp only[dB] at *
  omega
theorem Fk{f g:Nat→Nat}:∀ n,(∀ k,k<n→f k=g k)→dB f n=dB g n
 | 0,_=>rfl
 | n+1,h=>by simp only[dB];rw[Fk n (fun k hk=>h k (by omega)),h n (by omega)]
theorem Ph{f:Nat→Nat}{p:Nat}:∀ n,(∀ k,k<n→p ∣ f k)→p ∣ dB f n
 | 0,_=>⟨0,rfl⟩
 | n+1,h=>by simp only[dB];exact Nat.dvd_add (Ph n fun k hk=>h k (by omega)) (h n (by omega))
def choose':Nat→Nat→Nat
 | _,0=>1
 | 0,_+1=>0
 | n+1,k+1=>choose' n k+choose' n (k+1)
theorem vG(n:Nat):choose' n 0=1:=by cases n<;>rfl
theorem xC:∀ {n k:Nat},n<k→choose' n k=0
 | 0,k+1,_=>rfl
 | n+1,k+1,h=>by simp only[choose'];rw[xC (by omega),xC (by omega)]
theorem Cz:∀ n,choose' n n=1
 | 0=>rfl
 | n+1=>by simp only[choose'];rw[Cz n,xC (by omega)]
theorem pS:∀ n k,(k+1)*choose' (n+1) (k+1)=(n+1)*choose' n k
 | 0,0=>by simp[choose']
 | 0,k+1=>by simp[choose']
 | n+1,0=>by
  have:=pS n 0
  simp only[choose',vG] at *
  omega
 | n+1,k+1=>by
  have h1:=pS n (k+1)
  have h2:=pS n k
  have e:choose' (n+2) (k+2)=choose' (n+1) (k+1)+choose' (n+1) (k+2):=rfl
  have e2:choose' (n+1) (k+1)=choose' n k+choose' n (k+1):=rfl
  rw[show k+1+1=k+2 from rfl,show n+1+1=n+2 from rfl] at *
  rw[e,Nat.mul_add,h1,show (k+2)*choose' (n+1) (k+1)=(k+1)*choose' (n+1) (k+1)+choose' (n+1) (k+1) by rw[show k+2=(k+1)+1 from rfl,Nat.add_mul,Nat.one_mul],h2,show (n+2)*choose' (n+1) (k+1)=(n+1)*choose' (n+1) (k+1)+choose' (n+1) (k+1) by rw[show n+2=(n+1)+1 from rfl,Nat.add_mul,Nat.one_mul]]
  have:(n+1)*choose' (n+1) (k+1)=(n+1)*choose' n k+(n+1)*choose' n (k+1):=by rw[e2,Nat.mul_add]
  omega
theorem binom(a:Nat):∀ n,(a+1)^n=dB (fun k=>choose' n k*a^k) (n+1)
 | 0=>by simp[dB,choose']
 | n+1=>by
  rw[k5,binom a n,uN (fun k=>choose' (n+1) k*a^k)]
  have e:∀ k,choose' (n+1) (k+1)*a^(k+1)=a*(choose' n k*a^k)+choose' n (k+1)*a^(k+1):=by
   intro k
   show (choose' n k+choose' n (k+1))*a^(k+1)=_
   rw[Nat.add_mul,k5,i8 (a^k) a,Nat.mul_left_comm]
  rw[Fk _ fun k _=>e k,Gi,yZ]
  have s:=uN (fun k=>choose' n k*a^k) (n+1)
  have z:dB (fun k=>choose' n k*a^k) (n+1+1)=dB (fun k=>choose' n k*a^k) (n+1):=by
   show dB _ (n+1)+choose' n (n+1)*a^(n+1)=_
   rw[xC (by omega)]
   omega
  rw[z] at s
  simp only[vG,Nat.pow_zero,Nat.mul_one] at *
  rw[Nat.mul_add,k9,i8 _ a]
  omega
theorem Pr.choose{p k:Nat}(h:Pr p)(h1:0<k)(h2:k<p):p ∣ choose' p k:=by
 obtain⟨j,rfl⟩:∃ j,k=j+1:=⟨k-1,by omega⟩
 obtain⟨n,rfl⟩:∃ n,p=n+1:=⟨p-1,by omega⟩
 have:=pS n j
 rcases h.dvd_mul (a:=j+1) (b:=choose' (n+1) (j+1)) ⟨choose' n j,this⟩ with h3|h3
 ·exact absurd (Nat.le_of_dvd (by omega) h3) (by omega)
 ·exact h3
theorem Pr.fermat{p:Nat}(h:Pr p):∀ a,a^p%p=a%p
 | 0=>by
  have:=h.1
  rw[Nat.zero_pow (by omega)]
 | a+1=>by
  have ih:=h.fermat a
  rw[binom]
  obtain⟨n,rfl⟩:∃ n,p=n+1:=⟨p-1,by have:=h.1;omega⟩
  show (dB _ (n+1)+choose' (n+1) (n+1)*a^(n+1))%(n+1)=_
  rw[uN,Cz,vG]
  obtain⟨c,hc⟩:=Ph (p:=n+1) (f:=fun k=>choose' (n+1) (k+1)*a^(k+1)) n (fun k hk=>Nat.dvd_mul_right_of_dvd (h.choose (by omega) (by omega)) _)
  rw[hc,l8,Nat.one_mul,Nat.one_mul,Nat.add_right_comm,Nat.add_mul_mod_self_left,Nat.add_mod,ih,← Nat.add_mod,Nat.add_comm]
theorem Pr.fermat1{p a:Nat}(h:Pr p)(ha:¬ p ∣ a):a^(p-1)%p=1:=by
 have h1:=h.1
 have hf:=h.fermat a
 obtain⟨n,rfl⟩:∃ n,p=n+1:=⟨p-1,by omega⟩
 rw[Nat.add_sub_cancel]
 have hpos:0<a^n:=Nat.pow_pos (Nat.pos_of_ne_zero fun h=>ha (h ▸ Nat.dvd_zero _))
 have:(n+1) ∣ a*(a^n-1):=by
  rw[Nat.mul_sub,k9,i8,← k5]
  exact l6 (Nat.sub_mod_eq_zero_of_mod_eq hf)
 rcases h.dvd_mul this with h2|h2
 ·exact absurd h2 ha
 ·obtain⟨c,hc⟩:=h2
  rw[show a^n=1+(n+1)*c by omega,Nat.add_mul_mod_self_left]
  exact g6 (by omega)
def pev:List Int→Int→Int
 | [],_=>0
 | c::cs,x=>c+x*pev cs x
def qt(r:Int):List Int→List Int
 | []=>[]
 | [_]=>[]
 | _::c::cs=>pev (c::cs) r::qt r (c::cs)
theorem Zh(r:Int):∀ l,(qt r l).length=l.length-1
 | []=>rfl
 | [_]=>rfl
 | _::c::cs=>by simp only[qt,List.length_cons,Zh r (c::cs)];omega
theorem Ut(r:Int):∀ l,2≤l.length→(qt r l).getLast?=l.getLast?
 | [_,b],_=>by simp[qt,pev]
 | _::b::c::cs,_=>by
  have:=Ut r (b::c::cs) (by simp)
  simp only[qt,List.getLast?_cons_cons] at *
  exact this
theorem aB2(r x:Int):∀ l,pev l x-pev l r=(x-r)*pev (qt r l) x
 | []=>by simp[qt,pev]
 | [a]=>by simp[qt,pev]
 | a::c::cs=>by
  have ih:=aB2 r x (c::cs)
  rw[show pev (a::c::cs) x=a+x*pev (c::cs) x from rfl,show pev (a::c::cs) r=a+r*pev (c::cs) r from rfl,show pev (qt r (a::c::cs)) x=pev (c::cs) r+x*pev (qt r (c::cs)) x from rfl]
  generalize pev (c::cs) x=A at *
  generalize pev (c::cs) r=B at *
  generalize pev (qt r (c::cs)) x=Q at *
  have h:(x-r)*(x*Q)=x*(A-B):=by rw[ih,Int.mul_left_comm]
  rw[Int.mul_add,h,Int.mul_sub,Int.sub_mul]
  omega
theorem Pr.dvd_mulI{p:Nat}{a b:Int}(h:Pr p)(hd:(p:Int) ∣ a*b):(p:Int) ∣ a∨(p:Int) ∣ b:=by
 rw[Int.ofNat_dvd_left,Int.natAbs_mul] at hd
 rcases h.dvd_mul hd with h1|h1
 ·exact .inl (Int.ofNat_dvd_left.2 h1)
 ·exact .inr (Int.ofNat_dvd_left.2 h1)
theorem Mz{p:Nat}(h:Pr p):∀(n:Nat) (l:List Int),l.length=n+1→(∀ a,l.getLast?=some a→¬(p:Int) ∣ a)→∀ rs:List Nat,rs.Nodup→(∀ x,x∈rs→x<p∧(p:Int) ∣ pev l x)→rs.length≤n
 | 0,l,hl,ha,rs,_,hr=>by
  match l,hl with
  | [a],_ =>
   cases rs with
   | nil=>simp
   | cons x t =>
    have:=(hr x (by simp)).2
    simp only[pev,Int.mul_zero,Int.add_zero] at this
    exact absurd this (ha a (by simp))
 | n+1,l,hl,ha,rs,hn,hr=>by
  cases rs with
  | nil=>simp
  | cons r t =>
   rw[List.nodup_cons] at hn
   have hr0:=hr r (by simp)
   have:=Mz h n (qt r l) (by rw[Zh];omega) (fun a hh=>ha a (by rw[← Ut r l (by omega)];exact hh)) t hn.2 fun x hx=>by
    have hx0:=hr x (by simp[hx])
    refine⟨hx0.1,?_⟩
    have hd:(p:Int) ∣ ((x:Int)-r)*pev (qt r l) x:=by rw[← aB2];exact Int.dvd_sub hx0.2 hr0.2
    rcases h.dvd_mulI hd with h1|h1
    ·exfalso
     have hne:x≠r:=fun e=>hn.1 (e ▸ hx)
     rw[Int.ofNat_dvd_left] at h1
     have:=Nat.le_of_dvd (by omega) h1
     omega
    ·exact h1
   simp only[List.length_cons]
   omega
def pw:Nat→List Int
 | 0=>[1]
 | d+1=>0::pw d
theorem aBU(x:Int):∀ d,pev (pw d) x=x^d
 | 0=>by simp[pw,pev]
 | d+1=>by simp only[pw,pev,aBU x d];rw[Int.pow_succ,Int.mul_comm];omega
theorem Lt:∀ d,(pw d).length=d+1
 | 0=>rfl
 | d+1=>by simp[pw,Lt d]
theorem Tt:∀ d,(pw d).getLast?=some 1
 | 0=>rfl
 | d+1=>by
  have:=Tt d
  have hl:=Lt d
  simp only[pw]
  cases hp:pw d with
  | nil=>rw[hp] at hl;simp at hl
  | cons a t=>rw[List.getLast?_cons_cons,← hp];exact this
theorem Pr.nonroot{p d:Nat}(h:Pr p)(hd:0<d)(hlt:d<p-1):∃ g,0<g∧g<p∧g^d%p≠1:=by
 have h2:=h.1
 refine g8 fun hc=>?_
 have hall:∀ g,0<g→g<p→g^d%p=1:=fun g h1 h2=>g8 fun h3=>hc ⟨g,h1,h2,h3⟩
 obtain⟨e,rfl⟩:∃ e,d=e+1:=⟨d-1,by omega⟩
 have:=Mz h (e+1) (-1::pw e) (by simp[Lt]) (fun a ha hdv=>by
  have hl:=Lt e
  have hp:=Tt e
  cases hq:pw e with
  | nil=>rw[hq] at hl;simp at hl
  | cons b t =>
   rw[hq] at ha hp
   rw[List.getLast?_cons_cons,hp] at ha
   obtain rfl:=a6 ha
   rw[Int.ofNat_dvd_left] at hdv
   have:=Nat.le_of_dvd (by decide) hdv
   simp at this
   omega) (List.range' 1 (p-1)) List.nodup_range' fun x hx=>by
   rw[List.mem_range'_1] at hx
   obtain⟨y,rfl⟩:∃ y,x=y+1:=⟨x-1,by omega⟩
   refine⟨by omega,?_⟩
   have e1:=hall (y+1) (by omega) (by omega)
   rw[show pev (-1::pw e) ((y+1:Nat):Int) = -1+((y+1:Nat):Int)*pev (pw e) ((y+1:Nat):Int) from rfl,aBU]
   have hpos:1≤(y+1)^(e+1):=Nat.pow_pos (by omega)
   have hk:p ∣ (y+1)^(e+1)-1:=by
    refine l6 (Nat.sub_mod_eq_zero_of_mod_eq ?_)
    rw[e1,g6 (by omega)]
   obtain⟨c,hcc⟩:=hk
   refine⟨(c:Int),?_⟩
   have:(((y+1)^(e+1):Nat):Int)=1+(p:Int)*c:=by
    rw[show (y+1)^(e+1)=1+p*c by omega];simp
   rw[k5] at this
   simp only[Int.natCast_mul,Int.natCast_pow] at this
   rw[Int.mul_comm]
   omega
 simp at this
 omega
structure Ord(p a n:Nat):Prop where
 pos:0<n
 one:a^n%p=1
 least:∀ m,0<m→m<n→a^m%p≠1
theorem nW{p a n:Nat}(hp:2≤p)(h:a^n%p=1)(k:Nat):a^(n*k)%p=1:=by
 rw[Nat.pow_mul,Nat.pow_mod,h,Nat.one_pow]
 exact g6 (by omega)
theorem Ord.dvd{p a n m:Nat}(hp:2≤p)(h:Ord p a n)(hm:a^m%p=1):n ∣ m:=by
 have hlt:=i9 m h.pos
 have e:a^(m%n)%p=1:=by
  have h1:a^m=a^(n*(m/n))*a^(m%n):=by rw[← l4,Nat.div_add_mod]
  rw[h1,Nat.mul_mod,nW hp h.one,Nat.one_mul,Nat.mod_mod] at hm
  exact hm
 rcases Nat.eq_zero_or_pos (m%n) with h0|h0
 ·exact l6 h0
 ·exact absurd e (h.least _ h0 hlt)
theorem Ord.iff{p a n m:Nat}(hp:2≤p)(h:Ord p a n):a^m%p=1↔n ∣ m:=
 ⟨h.dvd hp,fun ⟨k,hk⟩=>hk ▸ nW hp h.one k⟩
theorem Ord.of_iff{p a n:Nat}(hn:0<n)(h:∀ m,a^m%p=1↔n ∣ m):Ord p a n:=
 ⟨hn,(h n).2 (Nat.dvd_refl n),fun m h1 h2 h3=>by have:=Nat.le_of_dvd h1 ((h m).1 h3);omega⟩
theorem Gh{p a n:Nat}(hn:0<n)(h:a^n%p=1):∃ m,Ord p a m:=by
 induction n using Nat.strongRecOn with
 | _ n ih =>
  refine g8 fun hc=>?_
  refine hc ⟨n,hn,h,fun m h1 h2 h3=>hc (ih m h2 h1 h3)⟩
theorem Ord.mod{p a n:Nat}(h:Ord p a n):Ord p (a%p) n:=
 ⟨h.pos,by rw[← Nat.pow_mod];exact h.one,fun m h1 h2=>by rw[← Nat.pow_mod];exact h.least m h1 h2⟩
theorem Ord.unmod{p a n:Nat}(h:Ord p (a%p) n):Ord p a n:=
 ⟨h.pos,by rw[Nat.pow_mod];exact h.one,fun m h1 h2=>by rw[Nat.pow_mod];exact h.least m h1 h2⟩
theorem Ord.pow{p a n k:Nat}(hp:2≤p)(hk:0<k)(h:Ord p a (n*k)):Ord p (a^k) n:=by
 have hn:0<n:=Nat.pos_of_mul_pos_right h.pos
 refine Ord.of_iff hn fun m=>?_
 rw[← Nat.pow_mul,h.iff hp,i8 n k]
 exact⟨fun hd=>Nat.dvd_of_mul_dvd_mul_left hk hd,fun hd=>Nat.mul_dvd_mul_left k hd⟩
theorem Ord.mul{p a b m n:Nat}(hp:2≤p)(ha:Ord p a m)(hb:Ord p b n)(hc:Nat.Coprime m n):Ord p (a*b) (m*n):=by
 refine Ord.of_iff (Nat.mul_pos ha.pos hb.pos) fun t=>⟨fun h=>?_,fun ⟨k,hk⟩=>?_⟩
 ·have key:∀ s,(a*b)^(t*s)%p=1:=fun s=>nW hp h s
  have h1:m ∣ t*n:=by
   refine ha.dvd hp ?_
   have:=key n
   rw[Nat.mul_pow,Nat.mul_mod,(hb.iff hp).2 (Nat.dvd_mul_left n t),k9,Nat.mod_mod] at this
   exact this
  have h2:n ∣ t*m:=by
   refine hb.dvd hp ?_
   have:=key m
   rw[Nat.mul_pow,Nat.mul_mod,(ha.iff hp).2 (Nat.dvd_mul_left m t),Nat.one_mul,Nat.mod_mod] at this
   exact this
  exact hc.mul_dvd_of_dvd_of_dvd (hc.dvd_of_dvd_mul_right h1) (hc.symm.dvd_of_dvd_mul_right h2)
 ·rw[Nat.mul_pow,Nat.mul_mod,(ha.iff hp).2 ⟨n*k,by rw[hk,Nat.mul_assoc]⟩,(hb.iff hp).2 ⟨m*k,by rw[hk,Nat.mul_assoc,Nat.mul_left_comm]⟩]
  exact g6 (by omega)
theorem pK{m:Nat}(hm:2≤m):∃ q,Pr q∧q ∣ m:=by
 induction m using Nat.strongRecOn with
 | _ m ih =>
  refine g8 fun hc=>?_
  refine hc ⟨m,⟨hm,fun q hq=>?_⟩,Nat.dvd_refl m⟩
  have hle:=Nat.le_of_dvd (by omega) hq
  have hpos:0<q:=Nat.pos_of_dvd_of_pos hq (by omega)
  refine g8 fun hn=>?_
  rw[not_or] at hn
  obtain⟨r,hr,hd⟩:=ih q (by omega) (by omega)
  exact hc ⟨r,hr,Nat.dvd_trans hd hq⟩
theorem Hw{q:Nat}(hq:2≤q):∀ m,0<m→∃ k m',m=q^k*m'∧¬ q ∣ m':=by
 intro m
 induction m using Nat.strongRecOn with
 | _ m ih =>
  intro hm
  rcases Nat.decEq (m%q) 0 with h|h
  ·exact⟨0,m,by simp,fun hd=>h (Nat.mod_eq_zero_of_dvd hd)⟩
  ·obtain⟨c,rfl⟩:=l6 h
   have hc:0<c:=Nat.pos_of_mul_pos_left hm
   obtain⟨k,m',e,hn⟩:=ih c (by have:=g7 c hq;omega) hc
   exact⟨k+1,m',by rw[k5,i8 (q^k) q,Nat.mul_assoc,← e],hn⟩
theorem Pr.coprime_pow{q m:Nat}(h:Pr q)(hm:¬ q ∣ m)(k:Nat):Nat.Coprime (q^k) m:=Nat.Coprime.pow_left k (h.coprime hm)
theorem Ky{p q k:Nat}(h:Pr p)(hq:Pr q)(hk:0<k)(hd:q^k ∣ p-1):∃ a,Ord p a (q^k):=by
 have hp:=h.1
 have hq2:=hq.1
 obtain⟨c,hc⟩:=hd
 obtain⟨j,rfl⟩:∃ j,k=j+1:=⟨k-1,by omega⟩
 have hcpos:0<c:=Nat.pos_of_ne_zero fun e=>by rw[e] at hc;omega
 have hqj:0<q^j:=Nat.pow_pos (by omega)
 have e1:(p-1)=c*q^j*q:=by rw[hc,k5,i8,Nat.mul_assoc]
 have hcq:0<c*q^j:=Nat.mul_pos hcpos hqj
 obtain⟨g,g1,g2,g3⟩:=h.nonroot (d:=c*q^j) hcq (by rw[e1];have:=Nat.mul_le_mul_left (c*q^j) hq2;omega)
 have hg:¬ p ∣ g:=fun hd=>by have:=Nat.le_of_dvd g1 hd;omega
 have one:(g^c)^(q^(j+1))%p=1:=by
  rw[← Nat.pow_mul,k5,← Nat.mul_assoc,← e1]
  exact h.fermat1 hg
 obtain⟨n,hn⟩:=Gh (Nat.pow_pos (by omega:0<q)) one
 have d1:=hn.dvd hp one
 have d2:¬ n ∣ q^j:=fun hd=>g3 (by rw[Nat.pow_mul];exact (hn.iff hp).2 hd)
 have:n=q^(j+1):=by
  obtain⟨t,ht⟩:=d1
  rcases Nat.decEq (t%q) 0 with hh|hh
  ·have hcop:Nat.Coprime q t:=hq.coprime fun hd=>hh (Nat.mod_eq_zero_of_dvd hd)
   have:t ∣ 1:=by
    have h3:t ∣ q^(j+1):=⟨n,by rw[ht,i8]⟩
    have h4:Nat.Coprime t (q^(j+1)):=(hcop.symm).pow_right _
    have:=Nat.Coprime.eq_one_of_dvd h4 h3
    rw[this]
    exact Nat.dvd_refl 1
   have:=Nat.dvd_one.1 this
   rw[ht,this,k9]
  ·obtain⟨s,rfl⟩:=l6 hh
   refine absurd ⟨s,?_⟩ d2
   have:q*(q^j)=q*(n*s):=by rw[i8 q (q^j),← k5,ht,Nat.mul_left_comm]
   exact Nat.eq_of_mul_eq_mul_left (by omega) this
 exact⟨g^c,this ▸ hn⟩
theorem aBD{p:Nat}(h:Pr p):∀ m,0<m→m ∣ p-1→∃ a,Ord p a m:=by
 have hp:=h.1
 intro m
 induction m using Nat.strongRecOn with
 | _ m ih =>
  intro hm hd
  rcases d5 m 2 with hl|hl
  ·obtain rfl:m=1:=by omega
   exact⟨1,by omega,by rw[Nat.one_pow];exact g6 (by omega),fun k h1 h2=>by omega⟩
  ·obtain⟨q,hq,hqm⟩:=pK hl
   obtain⟨k,m',rfl,hn⟩:=Hw hq.1 m hm
   have hq2:=hq.1
   have hk:0<k:=Nat.pos_of_ne_zero fun e=>by rw[e] at hqm;simp at hqm;exact hn hqm
   have hqk:2≤q^k:=by
    obtain⟨j,rfl⟩:∃ j,k=j+1:=⟨k-1,by omega⟩
    rw[k5]
    exact e7 hq2 (Nat.le_mul_of_pos_left q (Nat.pow_pos (by omega)))
   have hm':0<m':=Nat.pos_of_mul_pos_left hm
   obtain⟨a,ha⟩:=Ky h hq hk (Nat.dvd_trans (Nat.dvd_mul_right _ _) hd)
   obtain⟨b,hb⟩:=ih m' (by have:=g7 m' hqk;omega) hm' (Nat.dvd_trans (Nat.dvd_mul_left _ _) hd)
   exact⟨a*b,ha.mul hp hb (hq.coprime_pow hn k)⟩
theorem Pr.rooted{p n:Nat}(h:Pr p)(hn:0<n)(hd:n ∣ p-1):∃ g,0<g∧g<p∧Ord p (g^((p-1)/n)) n:=by
 have hp:=h.1
 obtain⟨a,ha⟩:=aBD h (p-1) (by omega) (Nat.dvd_refl _)
 obtain⟨c,hc⟩:=hd
 have hcpos:0<c:=Nat.pos_of_ne_zero fun e=>by rw[e] at hc;omega
 refine⟨a%p,?_,i9 _ (by omega),?_⟩
 ·refine Nat.pos_of_ne_zero fun e=>?_
  have:=ha.one
  rw[Nat.pow_mod,e,Nat.zero_pow (by omega),Nat.zero_mod] at this
  omega
 ·rw[show (p-1)/n=c by rw[hc];exact Nat.mul_div_cancel_left c hn]
  have:=ha.mod
  rw[hc] at this
  exact this.pow hp hcpos
theorem wP{P:Nat→Prop}(h:∃ n,P n):∃ n,P n∧∀ m,m<n→¬ P m:=by
 obtain⟨n,hn⟩:=h
 induction n using Nat.strongRecOn with
 | _ n ih =>
  refine g8 fun hc=>hc ⟨n,hn,fun m hm hP=>hc (ih m hm hP)⟩
def trial(n q:Nat):Prop:=n<q*q∨q ∣ n
theorem Nn{n q:Nat}(hn:2≤n)(hq:2≤q)(h:∀ r,2≤r→r<q→¬ trial n r)(ht:trial n q):n<q*q↔Pr n:=by
 constructor
 ·intro hlt
  refine⟨hn,fun d hd=>g8 fun hc=>?_⟩
  rw[not_or] at hc
  obtain⟨e,he⟩:=hd
  have hd0:d≠0:=fun h0=>by rw[h0] at he;omega
  have he0:e≠0:=fun h0=>by rw[h0] at he;omega
  have he1:e≠1:=fun h1=>by rw[h1] at he;omega
  have key:d<q∨e<q:=by
   refine g8 fun hh=>?_
   rw[not_or] at hh
   have:=Nat.mul_le_mul (show q≤d by omega) (show q≤e by omega)
   omega
  rcases key with hk|hk
  ·exact h d (by omega) hk (.inr ⟨e,he⟩)
  ·exact h e (by omega) hk (.inr ⟨d,by rw[he,i8]⟩)
 ·intro hp
  rcases ht with h1|h1
  ·exact h1
  ·rcases hp.2 q h1 with h2|h2
   ·omega
   ·subst h2
    have:=g7 q hq
    omega
theorem Jm{n:Nat}(hn:2≤n)(hm:n≤2147483647):∃ e,run (dS n) 2=some e∧((∃ u,e = .inr u)↔Pr n):=by
 obtain⟨m,hP,hl⟩:=wP (P:=fun k=>trial n (2+k)) ⟨n,.inl (by have:=g7 (2+n) (show 1≤2+n by omega);omega)⟩
 have small:∀ k,k≤m→(2+k)*(2+k)≤4294967296:=by
  intro k hk
  rcases Nat.eq_zero_or_pos k with h0|h0
  ·subst h0;decide
  ·have h1:=hl (k-1) (by omega)
   have h2:¬ n<(2+(k-1))*(2+(k-1)):=fun hh=>h1 (.inl hh)
   have h3:2+(k-1)<65536:=by
    refine g8 fun hc=>?_
    have:=Nat.mul_le_mul (show 65536≤2+(k-1) by omega) (show 65536≤2+(k-1) by omega)
    omega
   have:=Nat.mul_le_mul (show 2+k≤65536 by omega) (show 2+k≤65536 by omega)
   omega
 have hc:=Nn hn (q:=2+m) (by omega) (fun r h1 h2=>by have:=hl (r-2) (by omega);rwa [show 2+(r-2)=r by omega] at this) hP
 have sq:∀ k,k≤m→IntKind.i64.wrap (((2+k:Nat):Int)*((2+k:Nat):Int))=(((2+k)*(2+k):Nat):Int):=by
  intro k hk
  have:=small k hk
  rw[← l7,w64 (by omega)]
 have step:∀ k,k<m→dS n ((2+k:Nat):Int)=some (.inl ((2+(k+1):Nat):Int)):=by
  intro k hk
  have h1:=hl k hk
  have h2:(2+k)*(2+k)≤n:=Nat.le_of_not_lt fun hh=>h1 (.inl hh)
  have h3:¬(2+k) ∣ n:=fun hh=>h1 (.inr hh)
  have hs:=small k (by omega)
  have hk2:2+k≤(2+k)*(2+k):=Nat.le_mul_of_pos_left _ (by omega)
  unfold dS
  rw[sq k (by omega),a9 (by rw[b9];exact Int.ofNat_le.2 h2),b6 (by omega),b6,w64 (by omega)]
  ·simp;omega
  ·rw[g9 (by omega)]
   simp only[decide_eq_true_eq]
   intro hh
   exact h3 (l6 (by omega))
 by_cases hlast:n<(2+m)*(2+m)
 ·refine⟨.inr (),bY (fun k=>((2+k:Nat):Int)) (n:=m) step ?_,⟨fun _=>hc.1 hlast,fun _=>⟨(),rfl⟩⟩⟩
  unfold dS
  rw[sq m (b7 _),b6 (by rw[b9,Int.ofNat_le];exact Nat.not_le.2 hlast)]
 ·have hd:(2+m) ∣ n:=hP.resolve_left hlast
  refine⟨.inl (),bY (fun k=>((2+k:Nat):Int)) (n:=m) step ?_,(by constructor;(rintro⟨u,hu⟩;cases hu);(intro hp;exact absurd (hc.2 hp) hlast))⟩
  unfold dS
  rw[sq m (b7 _),a9 (by rw[b9,Int.ofNat_le];exact Nat.le_of_not_lt hlast),b6 (by omega),a9]
  rw[g9 (by omega)]
  have:=Nat.mod_eq_zero_of_dvd hd
  simp only[decide_eq_true_eq]
  omega
theorem Sc{n:Nat}(hn:2≤n)(hm:n≤2147483647):∃ b,gU n=some b∧mT n=some b∧(b=true↔Pr n):=by
 obtain⟨e,he,hp⟩:=Jm hn hm
 have he2:run (mD n) 2=some e:=he
 unfold gU mT
 rw[he,he2,b6 (by simp;omega)]
 cases e with
 | inl u=>exact⟨false,rfl,rfl,(by constructor;(intro h;cases h);(intro h;obtain⟨u,hu⟩:=hp.2 h;cases hu))⟩
 | inr u=>exact⟨true,rfl,rfl,⟨fun _=>hp.1 ⟨u,rfl⟩,fun _=>rfl⟩⟩
theorem Nx(x n:Nat):x^n=(x*x)^(n/2)*x^(n%2):=by
 have e:x*x=x^2:=by rw[k5,Nat.pow_one]
 rw[e,← Nat.pow_mul,← l4,Nat.div_add_mod]
theorem zA{a b p:Nat}(ha:a<2147483648)(hb:b<2147483648):(IntKind.i64.wrap ((a:Int)*(b:Int))).tmod (p:Int)=((a*b%p:Nat):Int):=by
 have:=Nat.mul_le_mul (Nat.le_of_lt ha) (Nat.le_of_lt hb)
 rw[← l7,w64 (by omega),g9 (by omega)]
 simp
theorem Rh{p:Nat}(hp:0<p)(hp2:p≤2147483647):∀(n x o:Nat),x<2147483648→o<p→n≤2147483648→run (iA p) ((x:Int),(n:Int),(o:Int))=some ((o*x^n%p:Nat):Int):=by
 intro n
 induction n using Nat.strongRecOn with
 | _ n ih =>
  intro x o hx ho hn
  rcases Nat.eq_zero_or_pos n with h0|h0
  ·subst h0
   refine jW ?_
   unfold iA
   simp only[]
   rw[b6 (by simp),l8,k9,g6 ho]
  ·have hxx:x*x%p<2147483648:=by have:=i9 (x*x) hp;omega
   have ih2:=ih (n/2) (by omega) (x*x%p)
   have ediv:IntKind.i64.wrap ((n:Int).tdiv 2)=((n/2:Nat):Int):=by
    rw[Int.tdiv_eq_ediv_of_nonneg (by omega),w64 (by omega)];omega
   have emod:(n:Int).tmod 2=((n%2:Nat):Int):=by rw[g9 (by omega)];omega
   have hpw:=Nx x n
   rcases Nat.mod_two_eq_zero_or_one n with h2|h2
   ·have:=ih2 o hxx ho (by omega)
    rw[lK (s':=(((x*x%p:Nat):Int),((n/2:Nat):Int),(o:Int))),this]
    ·rw[hpw,h2,l8,k9,Nat.mul_mod,← Nat.pow_mod,← Nat.mul_mod]
    ·unfold iA
     simp only[]
     rw[a9 (by simp;omega),b6 (by rw[emod,h2];simp),zA hx hx,ediv]
   ·have ho2:o*x%p<p:=i9 _ hp
    have:=ih2 (o*x%p) hxx ho2 (by omega)
    rw[lK (s':=(((x*x%p:Nat):Int),((n/2:Nat):Int),((o*x%p:Nat):Int))),this]
    ·rw[hpw,h2,Nat.pow_one,Nat.mul_mod,Nat.mod_mod,← Nat.pow_mod,← Nat.mul_mod,Nat.mul_right_comm,Nat.mul_assoc]
    ·unfold iA
     simp only[]
     rw[a9 (by simp;omega),a9 (by rw[emod,h2];simp),zA hx hx,ediv,zA (by omega) hx]
theorem Ge{p:Nat}(hp:2≤p):(1:Int).tmod (p:Int)=1:=by
 rw[g9 (by omega)]
 exact Int.emod_eq_of_lt (by omega) (by omega)
theorem Zv{p n x:Nat}(hp:2≤p)(hp2:p≤2147483647)(hx:x<2147483648)(hn:n≤2147483648):nV x n p=some ((x^n%p:Nat):Int):=by
 unfold nV
 rw[b6 (by omega),Ge hp]
 have:=Rh (by omega) hp2 n x 1 hx (by omega) hn
 rw[Nat.one_mul] at this
 rw[show ((1:Nat):Int)=(1:Int) from rfl] at this
 rw[this]
 rfl
theorem nN{p a b:Nat}(v2 v3:Int)(hp:0<p)(ha:a<2147483648)(hb:b<2147483648):aS p v2 v3 a b=some ((a*b%p:Nat):Int):=by
 unfold aS
 rw[b6 (by omega),zA ha hb]
theorem Sd{p:Nat}(v2 v3:Int)(hp:0<p)(hp2:p≤2147483647):∀(n x o:Nat),x<2147483648→o<p→n≤2147483648→run (cN p v2 v3) ((x:Int),(n:Int),(o:Int))=some ((o*x^n%p:Nat):Int):=by
 intro n
 induction n using Nat.strongRecOn with
 | _ n ih =>
  intro x o hx ho hn
  rcases Nat.eq_zero_or_pos n with h0|h0
  ·subst h0
   refine jW ?_
   unfold cN
   simp only[]
   rw[b6 (by simp),l8,k9,g6 ho]
  ·have hxx:x*x%p<2147483648:=by have:=i9 (x*x) hp;omega
   have ih2:=ih (n/2) (by omega) (x*x%p)
   have ediv:IntKind.i64.wrap ((n:Int).tdiv 2)=((n/2:Nat):Int):=by
    rw[Int.tdiv_eq_ediv_of_nonneg (by omega),w64 (by omega)];omega
   have emod:(n:Int).tmod 2=((n%2:Nat):Int):=by rw[g9 (by omega)];omega
   have hpw:=Nx x n
   rcases Nat.mod_two_eq_zero_or_one n with h2|h2
   ·have:=ih2 o hxx ho (by omega)
    rw[lK (s':=(((x*x%p:Nat):Int),((n/2:Nat):Int),(o:Int))),this]
    ·rw[hpw,h2,l8,k9,Nat.mul_mod,← Nat.pow_mod,← Nat.mul_mod]
    ·unfold cN
     simp only[]
     rw[a9 (by simp;omega),b6 (by rw[emod,h2];simp),nN _ _ hp hx hx,ediv]
     rfl
   ·have ho2:o*x%p<p:=i9 _ hp
    have:=ih2 (o*x%p) hxx ho2 (by omega)
    rw[lK (s':=(((x*x%p:Nat):Int),((n/2:Nat):Int),((o*x%p:Nat):Int))),this]
    ·rw[hpw,h2,Nat.pow_one,Nat.mul_mod,Nat.mod_mod,← Nat.pow_mod,← Nat.mul_mod,Nat.mul_right_comm,Nat.mul_assoc]
    ·unfold cN
     simp only[]
     rw[a9 (by simp;omega),a9 (by rw[emod,h2];simp),nN _ _ hp (by omega) hx,nN _ _ hp hx hx,ediv]
     rfl
theorem aA2{p n x:Nat}(v2 v3:Int)(hp:2≤p)(hp2:p≤2147483647)(hx:x<2147483648)(hn:n≤2147483648):eJ p v2 v3 x n=some ((x^n%p:Nat):Int):=by
 unfold eJ
 have:=Sd v2 v3 (by omega) hp2 n x 1 hx (by omega) hn
 rw[Nat.one_mul] at this
 rw[show ((1:Nat):Int)=(1:Int) from rfl] at this
 rw[this]
 rfl
theorem Cu{p r n:Nat}(hp:2≤p)(hp2:p≤2147483647)(hr:r<p)(hn:0<n)(hn2:n≤2147483647):∃ b,cP p r n=some b∧(b=true↔Ord p r n):=by
 obtain⟨m,hP,hl⟩:=wP (P:=fun k=>r^(k+1)%p=1∨n≤k+1) ⟨n,.inr (by omega)⟩
 have hmn:m+1≤n:=by
  rcases Nat.eq_zero_or_pos m with h0|h0
  ·omega
  ·have:=hl (m-1) (by omega)
   rw[not_or] at this
   omega
 have hlt:∀ k,r^(k+1)%p<p:=fun k=>i9 _ (by omega)
 have hrun:run (cJ p r n) ((r:Int),1)=some (((r^(m+1)%p:Nat):Int),((m+1:Nat):Int)):=by
  have h0:(((r^(0+1)%p:Nat):Int),((0+1:Nat):Int))=((r:Int),(1:Int)):=by
   rw[show 0+1=1 from rfl,Nat.pow_one,g6 hr];rfl
  rw[← h0]
  refine bY (fun k=>(((r^(k+1)%p:Nat):Int),((k+1:Nat):Int))) (n:=m) (fun k hk=>?_) ?_
  ·have h1:=hl k hk
   rw[not_or] at h1
   unfold cJ
   simp only[]
   have:=hlt k
   rw[a9 (by rw[b9];omega),a9 (by rw[b9];omega),nN _ _ (by omega) (by omega) (by omega),w64 (by omega)]
   rw[a7,← Nat.mod_mul_mod,Nat.mod_mod,Nat.mod_mul_mod,← k5]
   simp
  ·unfold cJ
   simp only[]
   rcases hP with h1|h1
   ·rw[b6 (by rw[h1];simp)]
   ·by_cases h2:r^(m+1)%p=1
    ·rw[b6 (by rw[h2];simp)]
    ·rw[a9 (by rw[b9];omega),b6 (by rw[b9];omega)]
 unfold cP
 rw[hrun]
 simp only[Option.bind_some]
 by_cases h2:r^(m+1)%p=1
 ·rw[a9 (by rw[b9];omega)]
  refine⟨_,rfl,?_⟩
  rw[b9]
  constructor
  ·intro h
   obtain rfl:m+1=n:=by omega
   exact⟨hn,h2,fun k h3 h4 h5=>hl (k-1) (by omega) (.inl (by rw[show k-1+1=k by omega];exact h5))⟩
  ·intro h
   refine g8 fun hc=>h.least (m+1) (by omega) (by omega) h2
 ·rw[b6 (by rw[b9];omega)]
  refine⟨false,rfl,?_⟩
  constructor
  ·intro h;cases h
  ·intro h
   rcases hP with h1|h1
   ·exact absurd h1 h2
   ·obtain rfl:m+1=n:=by omega
    exact absurd h.one h2
theorem Cq{q:Nat}(hq:2≤q):∀(k m':Nat),¬ q ∣ m'→q^k*m'≤2147483647→run (jA q) ((q^k*m':Nat):Int)=some ((m':Nat):Int)
 | 0,m',hn,_=>by
  rw[l8,Nat.one_mul]
  refine jW ?_
  unfold jA
  rw[b6]
  rw[b9,g9 (by omega)]
  intro h
  exact hn (l6 (by omega))
 | k+1,m',hn,hle=>by
  have e:q^(k+1)*m'=q*(q^k*m'):=by rw[k5,i8 (q^k) q,Nat.mul_assoc]
  have hle2:q^k*m'≤2147483647:=by
   have:=Nat.le_mul_of_pos_left (q^k*m') (show 0<q by omega)
   omega
  rw[e,lK (s':=((q^k*m':Nat):Int)),Cq hq k m' hn hle2]
  unfold jA
  rw[a9,Int.tdiv_eq_ediv_of_nonneg (by omega)]
  ·have : (((q * (q ^ k * m') : Nat) : Int) / (q : Int)) = ((q ^ k * m' : Nat) : Int) := by
     rw[← Int.natCast_ediv,Nat.mul_div_cancel_left _ (by omega)]
   rw[this,w64 (by omega)]
  ·rw[b9,g9 (by omega),← Int.natCast_emod,Nat.mul_mod_right]
   rfl
structure PrimesInv(n:Nat)(n' q:Nat)(out:List Int):Prop where
 pos:0<n'
 le:n'≤n
 q2:2≤q
 up:∀ r,Pr r→q≤r→(r ∣ n↔r ∣ n')
 low:∀ r,Pr r→r<q→¬ r ∣ n'
 mem:∀ x:Int,x∈out↔∃ r:Nat,x=r∧Pr r∧r<q∧r ∣ n
 len:out.length≤q
theorem Sl{n:Nat}(hn:n≤1024):∀(j n' q:Nat) (out:List Int),1026-q=j→q≤1026→PrimesInv n n' q out→∃ l,run eX ((n':Int),out,(q:Int))=some l∧(∀ x:Int,x∈l↔∃ r:Nat,x=r∧Pr r∧r ∣ n)∧l.length≤1026:=by
 intro j
 induction j with
 | zero =>
  intro n' q out hj hq I
  have h1:n'=1:=by
   refine g8 fun hc=>?_
   obtain⟨r,hr,hd⟩:=pK (show 2≤n' by have:=I.pos;omega)
   have:=Nat.le_of_dvd I.pos hd
   have:=I.le
   exact I.low r hr (by omega) hd
  subst h1
  refine⟨out,jW ?_,fun x=>?_,e7 I.len hq⟩
  ·unfold eX
   simp only[]
   rw[b6 (by simp)]
  ·rw[I.mem]
   constructor
   ·rintro⟨r,e,hr,_,hd⟩;exact⟨r,e,hr,hd⟩
   ·rintro⟨r,e,hr,hd⟩
    refine⟨r,e,hr,g8 fun hc=>?_,hd⟩
    have:=Nat.dvd_one.1 ((I.up r hr (by omega)).1 hd)
    have:=hr.1
    omega
 | succ j ih =>
  intro n' q out hj hq I
  by_cases h1:n'=1
  ·subst h1
   refine⟨out,jW ?_,fun x=>?_,e7 I.len hq⟩
   ·unfold eX
    simp only[]
    rw[b6 (by simp)]
   ·rw[I.mem]
    constructor
    ·rintro⟨r,e,hr,_,hd⟩;exact⟨r,e,hr,hd⟩
    ·rintro⟨r,e,hr,hd⟩
     refine⟨r,e,hr,g8 fun hc=>?_,hd⟩
     have:=Nat.dvd_one.1 ((I.up r hr (by omega)).1 hd)
     have:=hr.1
     omega
  ·have hpos:=I.pos
   have hq2:=I.q2
   have hle:=I.le
   have hqw:IntKind.i64.wrap ((q:Int)+1)=((q+1:Nat):Int):=by rw[w64 (by omega)];simp
   by_cases hd:q ∣ n'
   ·have hpq : Pr q := by
      obtain⟨r,hr,hrq⟩:=pK hq2
      have h3:=Nat.le_of_dvd (by omega) hrq
      have h4:¬ r<q:=fun hh=>I.low r hr hh (Nat.dvd_trans hrq hd)
      obtain rfl:r=q:=by omega
      exact hr
    obtain⟨k,m',e,hm'⟩:=Hw hq2 n' hpos
    have hm'0:0<m':=Nat.pos_of_ne_zero fun h0=>hm' (h0 ▸ Nat.dvd_zero _)
    have hm'le:m'≤n':=by rw[e];exact Nat.le_mul_of_pos_left _ (Nat.pow_pos (by omega))
    have I2:PrimesInv n m' (q+1) (out++[(q:Int)]):={
     pos:=hm'0
     le:=by omega
     q2:=by omega
     up:=fun r hr hh=>by
      rw[I.up r hr (by omega),e]
      constructor
      ·intro h
       rcases hr.dvd_mul h with h5|h5
       ·have h6:=hr.dvd_pow h5
        have:=Nat.le_of_dvd (by omega) h6
        omega
       ·exact h5
      ·intro h;exact Nat.dvd_trans h (Nat.dvd_mul_left _ _)
     low:=fun r hr hh h=>by
      rcases d5 r q with h5|h5
      ·exact I.low r hr h5 (by rw[e];exact Nat.dvd_trans h (Nat.dvd_mul_left _ _))
      ·obtain rfl:r=q:=by omega
       exact hm' h
     mem:=fun x=>by
      rw[List.mem_append,I.mem,List.mem_singleton]
      constructor
      ·rintro (⟨r,e1,hr,h5,h6⟩|rfl)
       ·exact⟨r,e1,hr,by omega,h6⟩
       ·exact⟨q,rfl,hpq,by omega,(I.up q hpq (b7 _)).2 hd⟩
      ·rintro⟨r,e1,hr,h5,h6⟩
       rcases d5 r q with h7|h7
       ·exact .inl ⟨r,e1,hr,h7,h6⟩
       ·obtain rfl:r=q:=by omega
        exact .inr e1
     len:=by have:=I.len;simp;omega }
    obtain⟨l,hl,hmem⟩:=ih m' (q+1) (out++[(q:Int)]) (by omega) (by omega) I2
    refine⟨l,?_,hmem⟩
    rw[lK (s':=((m':Int),out++[(q:Int)],((q+1:Nat):Int)))]
    ·exact hl
    ·unfold eX
     simp only[]
     have hw:=Cq hq2 k m' hm' (by omega)
     rw[← e] at hw
     have:=I.len
     rw[a9 (by simp;omega),b6 (by omega),a9,wK (by omega) (by omega),a7,hw,a7,hqw]
     rw[b9,g9 (by omega)]
     have:=Nat.mod_eq_zero_of_dvd hd
     omega
   ·have I2 : PrimesInv n n' (q + 1) out := {
      pos:=hpos
      le:=hle
      q2:=by omega
      up:=fun r hr hh=>I.up r hr (by omega)
      low:=fun r hr hh h=>by
       rcases d5 r q with h5|h5
       ·exact I.low r hr h5 h
       ·obtain rfl:r=q:=by omega
        exact hd h
      mem:=fun x=>by
       rw[I.mem]
       constructor
       ·rintro⟨r,e1,hr,h5,h6⟩;exact⟨r,e1,hr,by omega,h6⟩
       ·rintro⟨r,e1,hr,h5,h6⟩
        rcases d5 r q with h7|h7
        ·exact⟨r,e1,hr,h7,h6⟩
        ·obtain rfl:r=q:=by omega
         exact absurd ((I.up r hr (b7 _)).1 h6) hd
      len:=by have:=I.len;omega }
    obtain⟨l,hl,hmem⟩:=ih n' (q+1) out (by omega) (by omega) I2
    refine⟨l,?_,hmem⟩
    rw[lK (s':=((n':Int),out,((q+1:Nat):Int)))]
    ·exact hl
    ·unfold eX
     simp only[]
     rw[a9 (by simp;omega),b6 (by omega),b6,show run nA ()=some () from jW rfl,a7,hqw]
     rw[b9,g9 (by omega)]
     intro h
     exact hd (l6 (by omega))
theorem Wm{n:Nat}(h0:0<n)(hn:n≤1024):∃ l,oS n=some l∧(∀ x:Int,x∈l↔∃ r:Nat,x=r∧Pr r∧r ∣ n)∧l.length≤1026:=by
 obtain⟨l,hl,hm⟩:=Sl hn 1024 n 2 [] rfl (by omega) ⟨h0,b7 _,b7 _,fun r _ _=>Iff.rfl,fun r hr h=>by have:=hr.1;omega,fun x=>by
  constructor
  ·intro h;cases h
  ·rintro⟨r,_,hr,h,_⟩;have:=hr.1;omega,by simp⟩
 refine⟨l,?_,hm⟩
 unfold oS
 rw[show ((2:Nat):Int)=(2:Int) from rfl] at hl
 rw[hl]
 rfl
theorem Eh{p r n:Nat}(hp:2≤p)(hn:0<n):Ord p r n↔r^n%p=1∧∀ q,Pr q→q ∣ n→r^(n/q)%p≠1:=by
 constructor
 ·intro h
  refine⟨h.one,fun q hq hd=>?_⟩
  obtain⟨c,rfl⟩:=hd
  have hq2:=hq.1
  have hc:0<c:=Nat.pos_of_mul_pos_left hn
  rw[Nat.mul_div_cancel_left _ (by omega)]
  exact h.least c hc (by have:=g7 c hq2;omega)
 ·rintro⟨h1,h2⟩
  obtain⟨m,hm⟩:=Gh hn h1
  obtain⟨c,hc⟩:=hm.dvd hp h1
  rcases d5 c 2 with h3|h3
  ·have : c = 1 := by
     have:c≠0:=fun h0=>by rw[h0] at hc;omega
     omega
   rw[this,k9] at hc
   exact hc ▸ hm
  ·obtain⟨q,hq,d,hd⟩:=pK h3
   have hq2:=hq.1
   exfalso
   refine h2 q hq ⟨m*d,by rw[hc,hd,Nat.mul_left_comm]⟩ ?_
   rw[hc,hd,Nat.mul_left_comm,Nat.mul_div_cancel_left _ (by omega)]
   exact nW hp hm.one d
theorem Wv{p r n:Nat}(hp:2≤p)(hp2:p≤2147483647)(hr:r<p)(hn:0<n)(hn2:n≤1024):∃ b,oG r n p=some b∧(b=true↔Ord p r n):=by
 obtain⟨l,hl,hmem,hlen⟩:=Wm hn hn2
 unfold oG
 rw[Zv hp hp2 (by omega) (by omega),a7,b6 (by omega),Ge hp]
 by_cases h1:r^n%p=1
 ·rw[b6 (by rw[h1];simp),hl,a7]
  have pows:∀ k (hk:k<l.length),∃ q:Nat,l[k]=(q:Int)∧Pr q∧q ∣ n:=fun k hk=>(hmem _).1 (List.getElem_mem hk)
  have step:∀ k (hk:k<l.length) (q:Nat),l[k]=(q:Int)→Pr q→dM r n p l (k:Int)=if r^(n/q)%p=1 then some (.inr (.inl ())) else some (.inl (IntKind.i64.wrap ((k:Int)+1))):=by
   intro k hk q hq hpq
   have hq2:=hpq.1
   have hdle:=Nat.div_le_self n q
   have hw:IntKind.i64.wrap ((n/q:Nat):Int)=((n/q:Nat):Int):=by
    generalize n/q=z at *
    exact w64 (by omega)
   unfold dM
   rw[a9 (by simpa using hk),aT,b8 hk,a7,hq,b6 (by omega),Int.tdiv_eq_ediv_of_nonneg (by omega),← Int.natCast_ediv,hw,Zv hp hp2 (by omega) (by omega),a7,Ge hp]
   by_cases h2:r^(n/q)%p=1
   ·rw[a9 (by rw[h2];simp),a9 h2]
   ·rw[b6 (by rw[b9];omega),b6 h2]
  by_cases hall:∀ q,Pr q→q ∣ n→r^(n/q)%p≠1
  ·have : run (dM r n p l) 0 = some (.inr ()) := by
     refine bY (fun k=>(k:Int)) (n:=l.length) (fun k hk=>?_) ?_
     ·obtain⟨q,e,hq,hd⟩:=pows k hk
      rw[step k hk q e hq,b6 (hall q hq hd),w64 (by omega)]
      simp
     ·unfold dM
      rw[b6 (by simp)]
   rw[this]
   refine⟨true,rfl,?_⟩
   rw[Eh hp hn]
   exact⟨fun _=>⟨h1,hall⟩,fun _=>rfl⟩
  ·have hex : ∃ k : Nat, ∃ q : Nat, l[k]? = some ((q : Nat) : Int) ∧ Pr q ∧ r ^ (n / q) % p = 1 := by
     refine g8 fun hc=>hall fun q hq hd h3=>hc ?_
     obtain⟨k,hk,e⟩:=List.getElem_of_mem ((hmem (q:Int)).2 ⟨q,rfl,hq,hd⟩)
     exact⟨k,q,by rw[b8 hk,e],hq,h3⟩
   obtain⟨m,⟨q,hq,hpq,h3⟩,hleast⟩:=wP hex
   obtain⟨hm,hqe⟩:=a8.1 hq
   have:run (dM r n p l) 0=some (.inl ()):=by
    refine bY (fun k=>(k:Int)) (n:=m) (fun k hk=>?_) ?_
    ·obtain⟨q',e,hq',hd⟩:=pows k (by omega)
     rw[step k (by omega) q' e hq',b6 (fun hh=>hleast k hk ⟨q',by rw[b8 (by omega),e],hq',hh⟩),w64 (by omega)]
     simp
    ·show dM r n p l (m:Int)=_
     rw[step m hm q hqe hpq,a9 h3]
   rw[this]
   refine⟨false,rfl,?_⟩
   constructor
   ·intro h;cases h
   ·intro h
    exact absurd ((Eh hp hn).1 h).2 hall
 ·rw[a9 (by rw[b9];omega)]
  refine⟨false,rfl,?_⟩
  constructor
  ·intro h;cases h
  ·intro h;exact absurd h.one h1
theorem Ll(v a b:Int):bV v a b=some (decide (v<a∨v>b),2):=by
 unfold bV aD
 by_cases h:v<a<;>simp[h]
theorem Gc(b:Bool)(e:Int):aA b e=some (if b=true then e else 0):=by
 unfold aA
 cases b<;>rfl
structure Fld(p r n:Nat):Prop where
 prime:Pr p
 le:p≤2147483647
 pos:0<n
 small:n≤1024
 r0:0<r
 lt:r<p
 dvd:n ∣ p-1
 ord:Ord p r n
theorem Ee{x:Int}{p:Nat}(hp:0<p)(hp2:p≤2147483647):eK x p=some (x%(p:Int)):=by
 unfold eK
 rw[b6 (by omega)]
 have h1:=Int.tmod_lt_of_pos x (show (0:Int)<p by omega)
 have h2:-(p:Int)<x.tmod p:=by
  have h:=Int.natAbs_tmod x p
  have h3:(x.tmod p).natAbs<p:=by
   rw[h]
   simp only[Int.natAbs_natCast]
   exact i9 _ hp
  omega
 have he:x.tmod p=x-p*x.tdiv p:=by have:=Int.tmod_add_mul_tdiv x p;omega
 rw[w64 (by omega),g9 (by omega),he]
 have:(x-p*x.tdiv p+p)%(p:Int)=x%p:=by
  rw[show x-(p:Int)*x.tdiv p+p=x+p*(1-x.tdiv p) by rw[Int.mul_sub,Int.mul_one];omega,Int.add_mul_emod_self_left]
 rw[this]
def res(p:Nat)(x:Int):Nat:=(x%(p:Int)).toNat
theorem vW{p:Nat}(hp:0<p)(x:Int):(res p x:Int)=x%(p:Int):=by
 have:=Int.emod_nonneg x (show (p:Int)≠0 by omega)
 unfold res
 omega
theorem Ym{p:Nat}(hp:0<p)(x:Int):res p x<p:=by
 have:=Int.emod_lt_of_pos x (show (0:Int)<p by omega)
 have:=vW hp x
 omega
def term(p:Nat)(l:List Int)(r k t:Nat):Nat:=res p (l[t]?.getD 0)*(r^(t*k)%p)%p
def nY(p:Nat)(l:List Int)(r k:Nat):Nat:=dB (term p l r k) l.length%p
def Ao(p r n:Nat):List Int:=(List.range n).map fun i=>((r^i%p:Nat):Int)
theorem Fm(p r n:Nat):(Ao p r n).length=n:=by simp[Ao]
theorem Xf(p r n:Nat):Ao p r (n+1)=Ao p r n++[((r^n%p:Nat):Int)]:=by simp[Ao,List.range_succ]
theorem Ua{p r n i:Nat}(h:i<n):(Ao p r n)[i]?=some ((r^i%p:Nat):Int):=by simp[Ao,h]
theorem We{p r n:Nat}(hp:2≤p)(hp2:p≤2147483647)(hr:r<p)(hn:0<n)(hn2:n≤1024):iB p r n=some (Ao p r n):=by
 unfold iB
 have h1:Ao p r (0+1)=[1]:=by
  show [((r^0%p:Nat):Int)]=[1]
  rw[l8,g6 (by omega)]
  rfl
 have:run (dE p r n) [1]=some (Ao p r n):=by
  rw[← h1]
  refine bY (fun k=>Ao p r (k+1)) (n:=n-1) (fun k hk=>?_) ?_
  ·unfold dE
   have hlt:r^k%p<p:=i9 _ (by omega)
   rw[Fm,a9 (by rw[b9];omega),w64 (by omega),uU (k:=k) (by omega),Ua (by omega),a7,nN _ _ (by omega) (by omega) (by omega),a7,wK (by rw[Fm];omega) (by omega),a7,Xf p r (k+1)]
   rw[k5,Nat.mod_mul_mod]
  ·unfold dE
   rw[Fm,b6 (by rw[b9];omega),show n-1+1=n by omega]
 rw[this]
 rfl
theorem Ty{f:Nat→Nat}{b:Nat}:∀ n,(∀ k,k<n→f k≤b)→dB f n≤n*b
 | 0,_=>by simp[dB]
 | n+1,h=>by
  have h1:=Ty n (fun k hk=>h k (by omega))
  have h2:=h n (by omega)
  simp only[dB,Nat.add_mul,Nat.one_mul]
  omega
theorem Qm{p r n m:Nat}(hp:2≤p)(h:r^n%p=1):r^(m%n)%p=r^m%p:=by
 have e:r^m=r^(n*(m/n))*r^(m%n):=by rw[← l4,Nat.div_add_mod]
 rw[e,Nat.mul_mod,nW hp h,Nat.one_mul,Nat.mod_mod]
theorem Uk{p:Nat}(hp:0<p)(l:List Int)(r k t:Nat):term p l r k t<p:=i9 _ hp
def trL(p:Nat)(l:List Int)(r n:Nat):List Int:=(List.range n).map fun k=>((nY p l r k:Nat):Int)
def tA(p:Nat)(l:List Int)(r n k:Nat):List Int:=(List.range n).map fun j=>if j<k then ((nY p l r j:Nat):Int) else 0
theorem tV(p:Nat)(l:List Int)(r n k:Nat):(tA p l r n k).length=n:=by simp[tA]
theorem Aj{p:Nat}{l:List Int}{r n k j:Nat}(h:j<n):(tA p l r n k)[j]?=some (if j<k then ((nY p l r j:Nat):Int) else 0):=by simp[tA,h]
theorem Wg(p:Nat)(l:List Int)(r n:Nat):tA p l r n 0=List.replicate n 0:=by
 apply j8
 intro j
 rcases d5 j n with h|h
 ·rw[Aj h];simp[h]
 ·simp[tA,h]
theorem Yc(p:Nat)(l:List Int)(r n:Nat):tA p l r n n=trL p l r n:=by
 unfold tA trL
 refine k6 fun j hj=>?_
 rw[List.mem_range] at hj
 simp[hj]
theorem aAf{p:Nat}{l:List Int}{r n k:Nat}(h:k<n):(tA p l r n k).set k ((nY p l r k:Nat):Int)=tA p l r n (k+1):=by
 apply j8
 intro j
 rw[k8]
 rcases d5 j n with hj|hj
 ·by_cases e:k=j
  ·subst e
   rw[a9 rfl,a9 (by rw[tV];exact h),Aj hj]
   simp
  ·rw[b6 e,Aj hj,Aj hj]
   have:(j<k)↔(j<k+1):=by omega
   simp[this]
 ·by_cases e:k=j
  ·omega
  ·rw[b6 e]
   simp[tA,hj]
theorem Wq{p n r k:Nat}{l:List Int}{w:Int}(F:Ord p r n)(hp:2≤p)(hp2:p≤2147483647)(hr:r<p)(hn2:n≤1024)(hl:l.length=n)(hk:k<n) :
 run (bG p w n l (Ao p r n) k) (tA p l r n k,0)=some ((tA p l r n k).set k ((dB (term p l r k) n:Nat):Int)):=by
 have hn:=F.pos
 have bound:∀ t,t≤n→dB (term p l r k) t≤t*2147483647:=fun t _=>Ty t fun j _=>by have:=Uk (show 0<p by omega) l r k j;omega
 have h0:(tA p l r n k).set k ((dB (term p l r k) 0:Nat):Int)=tA p l r n k:=by
  apply j8
  intro j
  rw[k8]
  by_cases e:k=j
  ·subst e
   rw[a9 rfl,a9 (by rw[tV];exact hk),Aj hk]
   simp[dB]
  ·rw[b6 e]
 have key:=bY (step:=bG p w n l (Ao p r n) k) (fun t=>((tA p l r n k).set k ((dB (term p l r k) t:Nat):Int),(t:Int))) (n:=n) (e:=(tA p l r n k).set k ((dB (term p l r k) n:Nat):Int)) (fun t ht=>?_) ?_
 ·simp only[h0] at key
  exact key
 ·unfold bG
  simp only[]
  have htk:t*k≤1048576:=e7 (Nat.mul_le_mul (show t≤1024 by omega) (show k≤1024 by omega)) (by decide)
  have b1:=bound t (by omega)
  have b2:=Uk (show 0<p by omega) l r k t
  have hres:=Ym (show 0<p by omega) (l[t]'(by omega))
  have hpl:r^(t*k%n)%p<p:=i9 _ (by omega)
  rw[a9 (by rw[b9];omega),aT,b8 (by omega),a7,aT,e9 (by rw[tV];exact hk),a7,Ee (by omega) hp2,a7,b6 (by omega)]
  rw[uU (k:=t*k%n) (by rw[← l7,w64 (by omega),g9 (by omega)];simp),Ua (i9 _ hn),a7,← vW (show 0<p by omega),nN _ _ (by omega) (by omega) (by omega),a7,Qm hp F.one]
  have e:res p (l[t]'(by omega))*(r^(t*k)%p)%p=term p l r k t:=by
   unfold term
   rw[b8 (by omega)]
   rfl
  rw[e,Int.toNat_natCast,List.set_set,w64 (by omega),w64 (by omega)]
  simp[dB]
 ·unfold bG
  simp only[]
  rw[b6 (by rw[b9];omega)]
theorem zY{p n r:Nat}{l:List Int}(F:Ord p r n)(hp:2≤p)(hp2:p≤2147483647)(hr:r<p)(hn2:n≤1024)(hl:l.length=n):bD p r n l=some (trL p l r n):=by
 have hn:=F.pos
 unfold bD
 rw[We hp hp2 hr hn hn2,a7]
 have hmk:mkI 8 (n:Int) (0:Int)=some (List.replicate n 0):=by
  unfold mkI
  simp
  omega
 rw[hmk,a7,← Wg p l r n]
 have:run (bX p r n l (Ao p r n) (tA p l r n 0)) (tA p l r n 0,0)=some (trL p l r n):=by
  rw[← Yc]
  refine bY (fun k=>(tA p l r n k,(k:Int))) (n:=n) (fun k hk=>?_) ?_
  ·unfold bX
   simp only[]
   rw[tV,a9 (by rw[b9];omega),Wq F hp hp2 hr hn2 hl hk,a7,aT,e9 (by rw[tV];exact hk),a7,b6 (by omega),Int.toNat_natCast,List.set_set,g9 (by omega),← Int.natCast_emod]
   have e:dB (term p l r k) n%p=nY p l r k:=by unfold nY;rw[hl]
   rw[e,aAf hk,w64 (by omega)]
   simp
  ·unfold bX
   simp only[]
   rw[tV,b6 (by simp)]
 rw[this]
 rfl
theorem Lh(p:Nat)(l:List Int)(r n:Nat):(trL p l r n).length=n:=by simp[trL]
def inv(p a:Nat):Nat:=a^(p-2)%p
theorem zG{p a:Nat}(h:Pr p)(ha:0<a)(hl:a<p):inv p a*a%p=1:=by
 have hp:=h.1
 unfold inv
 rw[Nat.mod_mul_mod,← k5,show (p-2).succ=p-1 by omega]
 exact h.fermat1 fun hd=>by have:=Nat.le_of_dvd ha hd;omega
theorem Ri{p a:Nat}(v2 v3:Int)(hp:2≤p)(hp2:p≤2147483647)(ha:a<p):cX p v2 v3 a=some ((inv p a:Nat):Int):=by
 unfold cX
 rw[w64 (by omega),show (p:Int)-2=((p-2:Nat):Int) by omega,aA2 _ _ hp hp2 (by omega) (by omega)]
 rfl
theorem Vf{p u r n:Nat}(hp:2≤p)(h:u*r%p=1)(F:Ord p r n):Ord p u n:=by
 refine Ord.of_iff F.pos fun m=>?_
 rw[← F.iff hp]
 have e:u^m*r^m%p=1:=by rw[← Nat.mul_pow,Nat.pow_mod,h,Nat.one_pow,g6 (by omega)]
 constructor
 ·intro h1
  rw[Nat.mul_mod,h1,Nat.one_mul,Nat.mod_mod] at e
  exact e
 ·intro h1
  rw[Nat.mul_mod,h1,k9,Nat.mod_mod] at e
  exact e
def bkL(p:Nat)(l:List Int)(r n k:Nat):List Int:=(List.range n).map fun j=>if j<k then ((nY p l (inv p r) j*inv p n%p:Nat):Int) else ((nY p l (inv p r) j:Nat):Int)
theorem zD(p:Nat)(l:List Int)(r n k:Nat):(bkL p l r n k).length=n:=by simp[bkL]
theorem Jx{p:Nat}{l:List Int}{r n k j:Nat}(h:j<n):(bkL p l r n k)[j]?=some (if j<k then ((nY p l (inv p r) j*inv p n%p:Nat):Int) else ((nY p l (inv p r) j:Nat):Int)):=by simp[bkL,h]
theorem Zm(p:Nat)(l:List Int)(r n:Nat):bkL p l r n 0=trL p l (inv p r) n:=by simp[bkL,trL]
theorem aBs{p:Nat}{l:List Int}{r n k:Nat}(h:k<n):(bkL p l r n k).set k ((nY p l (inv p r) k*inv p n%p:Nat):Int)=bkL p l r n (k+1):=by
 apply j8
 intro j
 rw[k8]
 rcases d5 j n with hj|hj
 ·by_cases e:k=j
  ·subst e
   rw[a9 rfl,a9 (by rw[zD];exact h),Jx hj]
   simp
  ·rw[b6 e,Jx hj,Jx hj]
   have:(j<k)↔(j<k+1):=by omega
   simp[this]
 ·by_cases e:k=j
  ·omega
  ·rw[b6 e]
   simp[bkL,hj]
theorem Fld.nlt{p r n:Nat}(F:Fld p r n):n<p:=by
 have h1:=F.prime.1
 have:=Nat.le_of_dvd (by omega) F.dvd
 omega
theorem Fld.iord{p r n:Nat}(F:Fld p r n):Ord p (inv p r) n:=Vf F.prime.1 (zG F.prime F.r0 F.lt) F.ord
theorem aAS{p a:Nat}(hp:0<p):inv p a<p:=i9 _ hp
theorem Dj{p:Nat}(hp:0<p)(l:List Int)(r k:Nat):nY p l r k<p:=i9 _ hp
theorem aBd{p r n:Nat}{l:List Int}(F:Fld p r n)(hl:l.length=n):jS p r n l=some (bkL p l r n n):=by
 have hp:=F.prime.1
 have hp2:=F.le
 have hn2:=F.small
 have hi:=aAS (p:=p) (a:=r) (by omega)
 have hj:=aAS (p:=p) (a:=n) (by omega)
 unfold jS
 rw[Ri _ _ hp hp2 F.lt,a7,Ri _ _ hp hp2 F.nlt,a7,zY F.iord hp hp2 hi hn2 hl,a7]
 have:run (eV p r n ((inv p n:Nat):Int) (trL p l (inv p r) n)) (trL p l (inv p r) n,0)=some (bkL p l r n n):=by
  rw[← Zm]
  refine bY (fun k=>(bkL p l r n k,(k:Int))) (n:=n) (fun k hk=>?_) ?_
  ·unfold eV
   simp only[]
   have ht:=Dj (show 0<p by omega) l (inv p r) k
   rw[zD,a9 (by rw[b9];omega),aT,Jx hk,b6 (by omega),a7,nN _ _ (by omega) (by omega) (by omega),a7,Int.toNat_natCast,aBs hk,w64 (by omega)]
   simp
  ·unfold eV
   simp only[]
   rw[zD,b6 (by simp)]
 rw[this]
 rfl
theorem Jo(f:Nat→Nat→Nat)(m:Nat):∀ n,dB (fun t=>dB (fun s=>f t s) m) n=dB (fun s=>dB (fun t=>f t s) n) m
 | 0=>by
  show 0=dB (fun _=>0) m
  induction m with
  | zero=>rfl
  | succ m ih=>simp only[dB];omega
 | n+1=>by
  simp only[dB]
  rw[Jo f m n,← Gi]
theorem jX{f g:Nat→Nat}{p:Nat}:∀ n,(∀ k,k<n→f k%p=g k%p)→dB f n%p=dB g n%p
 | 0,_=>rfl
 | n+1,h=>by
  simp only[dB]
  rw[Nat.add_mod,jX n (fun k hk=>h k (by omega)),h n (by omega),← Nat.add_mod]
theorem geo(z:Nat):∀ n,(z-1)*dB (fun t=>z^t) n=z^n-1
 | 0=>by simp[dB]
 | n+1=>by
  rcases Nat.eq_zero_or_pos z with h|h
  ·subst h;simp
  ·simp only[dB]
   have:=geo z n
   have h1:1≤z^n:=Nat.pow_pos h
   rw[Nat.mul_add,this,Nat.sub_mul,Nat.one_mul,k5,i8 z (z^n)]
   have:z^n≤z^n*z:=Nat.le_mul_of_pos_right _ h
   omega
theorem Mw{p z n:Nat}(h:Pr p)(h1:z%p≠1)(hz:0<z)(h2:z^n%p=1):dB (fun t=>z^t) n%p=0:=by
 have hp:=h.1
 have g:=geo z n
 have hd:p ∣ z^n-1:=l6 (Nat.sub_mod_eq_zero_of_mod_eq (by rw[h2,g6 (by omega)]))
 rw[← g] at hd
 rcases h.dvd_mul hd with h3|h3
 ·exfalso
  obtain⟨c,hc⟩:=h3
  refine h1 ?_
  rw[show z=1+p*c by omega,Nat.add_mul_mod_self_left,g6 (by omega)]
 ·exact Nat.mod_eq_zero_of_dvd h3
theorem aAy(n:Nat):dB (fun _=>1) n=n:=by
 induction n with
 | zero=>rfl
 | succ n ih=>simp only[dB,ih]
theorem Je{f:Nat→Nat}:∀ n,(∀ k,k<n→f k=0)→dB f n=0
 | 0,_=>rfl
 | n+1,h=>by simp only[dB];rw[Je n (fun k hk=>h k (by omega)),h n (by omega)]
theorem Cm{f:Nat→Nat}{k:Nat}:∀ n,k<n→(∀ j,j<n→j≠k→f j=0)→dB f n=f k
 | n+1,hk,h=>by
  simp only[dB]
  by_cases e:k=n
  ·subst e
   rw[Je k (fun j hj=>h j (by omega) (by omega))]
   omega
  ·rw[Cm n (by omega) (fun j hj hh=>h j (by omega) hh),h n (by omega) (fun e2=>e e2.symm)]
   rfl
theorem cross{p u r n s k:Nat}(h:Pr p)(hu:u*r%p=1)(hu0:0<u)(hr0:0<r)(F:Ord p r n)(hs:s<n)(hk:k<n):dB (fun t=>(r^s*u^k)^t) n%p=if s=k then n%p else 0:=by
 have hp:=h.1
 have G:=Vf hp hu F
 by_cases e:s=k
 ·rw[a9 e]
  subst e
  have h1:(r^s*u^s)%p=1:=by rw[← Nat.mul_pow,i8,Nat.pow_mod,hu,Nat.one_pow,g6 (by omega)]
  rw[jX (g:=fun _=>1) n (fun t _=>by rw[Nat.pow_mod,h1,Nat.one_pow])]
  rw[aAy]
 ·rw[b6 e]
  refine Mw h (fun h1=>e ?_) (Nat.mul_pos (Nat.pow_pos hr0) (Nat.pow_pos hu0)) ?_
  ·
   rcases d5 s k with hlt|hge
   ·exfalso
    have:u^(k-s)%p=1:=by
     rw[show k=s+(k-s) by omega,l4,← Nat.mul_assoc,← Nat.mul_pow,i8 r u,Nat.mul_mod,Nat.pow_mod,hu,Nat.one_pow,g6 (show 1<p by omega),Nat.one_mul,Nat.mod_mod] at h1
     exact h1
    exact G.least (k-s) (by omega) (by omega) this
   ·refine g8 fun hne=>?_
    have:r^(s-k)%p=1:=by
     rw[show s=k+(s-k) by omega,l4,Nat.mul_right_comm,← Nat.mul_pow,i8 r u,Nat.mul_mod,Nat.pow_mod,hu,Nat.one_pow,g6 (show 1<p by omega),Nat.one_mul,Nat.mod_mod] at h1
     exact h1
    exact F.least (s-k) (by omega) (by omega) this
  ·rw[Nat.mul_pow,← Nat.pow_mul,← Nat.pow_mul,Nat.mul_mod,(F.iff hp).2 (Nat.dvd_mul_left n s),(G.iff hp).2 (Nat.dvd_mul_left n k),g6 (by omega)]
theorem Ys{p a:Nat}(h:a<p):res p (a:Int)=a:=by
 have:=vW (show 0<p by omega) (a:Int)
 rw[Int.emod_eq_of_lt (by omega) (by omega)] at this
 omega
theorem aCu{p:Nat}{l:List Int}{r n t:Nat}(h:t<n):(trL p l r n)[t]?=some ((nY p l r t:Nat):Int):=by simp[trL,h]
theorem yW(p:Nat)(l:List Int)(r k:Nat):nY p l r k=dB (fun t=>res p (l[t]?.getD 0)*r^(t*k)) l.length%p:=by
 unfold nY
 refine jX _ fun t _=>?_
 unfold term
 rw[Nat.mod_mod,Nat.mul_mod_mod]
theorem Qw{p r n k:Nat}{l:List Int}(F:Fld p r n)(hl:l.length=n)(hk:k<n):nY p (trL p l r n) (inv p r) k*inv p n%p=res p (l[k]?.getD 0):=by
 have hp:=F.prime.1
 have hu:=zG F.prime F.r0 F.lt
 have hu0:0<inv p r:=Nat.pos_of_ne_zero fun e=>by rw[e,Nat.zero_mul,Nat.zero_mod] at hu;omega
 have hnn:=zG F.prime F.pos F.nlt
 have e1:nY p (trL p l r n) (inv p r) k=res p (l[k]?.getD 0)*n%p:=by
  rw[yW,Lh]
  have a1:dB (fun t=>res p ((trL p l r n)[t]?.getD 0)*inv p r^(t*k)) n%p=dB (fun t=>dB (fun s=>res p (l[s]?.getD 0)*(r^s*inv p r^k)^t) n) n%p:=by
   refine jX _ fun t ht=>?_
   rw[aCu ht,Option.getD_some,Ys (Dj (by omega) _ _ _),yW,hl,Nat.mod_mul_mod,i8,← yZ]
   refine jX _ fun s _=>?_
   rw[Nat.mul_pow,← Nat.pow_mul,← Nat.pow_mul,i8 k t,Nat.mul_left_comm,i8 (inv p r^(t*k))]
  rw[a1,Jo]
  have a2:dB (fun s=>dB (fun t=>res p (l[s]?.getD 0)*(r^s*inv p r^k)^t) n) n%p=dB (fun s=>if s=k then res p (l[s]?.getD 0)*n else 0) n%p:=by
   refine jX _ fun s hs=>?_
   rw[yZ,← Nat.mul_mod_mod,cross F.prime hu hu0 F.r0 F.ord hs hk]
   by_cases e:s=k
   ·simp[e]
   ·simp[e]
  rw[a2,Cm n hk (fun j _ hj=>by simp[hj])]
  simp
 rw[e1,Nat.mod_mul_mod,Nat.mul_assoc,i8 n,← Nat.mul_mod_mod,hnn,k9,g6 (Ym (by omega) _)]
end Go.Rex
namespace Go.Rex
open Go Go.Rex
set_option maxRecDepth 100000
def cg(p:Nat)(a b:Int):Prop:=(p:Int) ∣ a-b
theorem Mh(p:Nat)(a:Int):cg p a a:=⟨0,by omega⟩
theorem zC{p:Nat}{a b:Int}(h:cg p a b):cg p b a:=by
 obtain⟨c,hc⟩:=h
 exact⟨-c,by rw[Int.mul_neg];omega⟩
theorem qB{p:Nat}{a b c:Int}(h:cg p a b)(g:cg p b c):cg p a c:=by
 obtain⟨x,hx⟩:=h
 obtain⟨y,hy⟩:=g
 exact⟨x+y,by rw[Int.mul_add];omega⟩
theorem Sq{p:Nat}{a b c d:Int}(h:cg p a b)(g:cg p c d):cg p (a+c) (b+d):=by
 obtain⟨x,hx⟩:=h
 obtain⟨y,hy⟩:=g
 exact⟨x+y,by rw[Int.mul_add];omega⟩
theorem pG{p:Nat}{a b:Int}(c:Int)(h:cg p a b):cg p (c*a) (c*b):=by
 obtain⟨x,hx⟩:=h
 exact⟨c*x,by rw[← Int.mul_sub,hx,Int.mul_left_comm]⟩
theorem Td{p:Nat}{a b c d:Int}(h:cg p a b)(g:cg p c d):cg p (a*c) (b*d):=by
 have h1:=pG c h
 have h2:=pG b g
 rw[Int.mul_comm c a,Int.mul_comm c b] at h1
 exact qB h1 h2
theorem Xy{p:Nat}(a:Int):cg p (a%(p:Int)) a:=by
 have:=Int.mul_ediv_add_emod a p
 exact⟨-(a/p),by rw[Int.mul_neg];omega⟩
theorem aDt{p:Nat}{a b:Int}(h:cg p a b):a%(p:Int)=b%(p:Int):=(Int.emod_emod_of_dvd a (Int.dvd_refl _)).symm.trans (by
 obtain⟨c,hc⟩:=h
 rw[show a=b+p*c by omega,Int.add_mul_emod_self_left,Int.emod_emod_of_dvd _ (Int.dvd_refl _)])
theorem xH{p:Nat}{f g:Nat→Int}:∀ n:Nat,(∀ t,t<n→cg p (f t) (g t))→cg p (isum f n) (isum g n)
 | 0,_=>Mh _ _
 | n+1,h=>by
  simp only[isum]
  exact Sq (xH n fun t ht=>h t (by omega)) (h n (by omega))
theorem Ho(g:Nat→Int):∀ n:Nat,isum g (n+1)=g 0+isum (fun t=>g (t+1)) n
 | 0=>by simp[isum]
 | n+1=>by
  have:=Ho g n
  rw[isum,this]
  simp only[isum]
  omega
theorem Gm{p:Nat}{G:Nat→Int}{n:Nat}(hper:∀ u,cg p (G (u+n)) (G u)):∀ m:Nat,cg p (isum (fun t=>G (t+m)) n) (isum G n)
 | 0=>Mh _ _
 | m+1=>by
  have ih:=Gm hper m
  have h1:=Ho (fun t=>G (t+m)) n
  simp only[isum] at h1
  have h2:=hper m
  have e:isum (fun t=>G (t+(m+1))) n=isum (fun t=>G (t+m)) n+(G (n+m)-G (0+m)):=by
   have e0:isum (fun t=>G (t+(m+1))) n=isum (fun t=>G (t+1+m)) n:=aP fun t _=>by rw[show t+(m+1)=t+1+m by omega]
   omega
  rw[e]
  have h3:cg p (G (n+m)-G (0+m)) 0:=by
   obtain⟨c,hc⟩:=h2
   rw[Nat.add_comm] at hc
   exact⟨c,by rw[k7];omega⟩
  have:=Sq ih h3
  rwa [Int.add_zero] at this
def pwr(r k t:Nat):Int:=((r^(t*k):Nat):Int)
def hat(n r:Nat)(a:Nat→Int)(k:Nat):Int:=isum (fun t=>a t*pwr r k t) n
theorem Dn(r k s t:Nat):pwr r k (s+t)=pwr r k s*pwr r k t:=by
 unfold pwr
 rw[Nat.add_mul,l4,l7]
theorem Uh{p r n:Nat}(hp:2≤p)(h:r^n%p=1)(k:Nat):cg p (pwr r k n) 1:=by
 unfold pwr
 have:=nW hp h k
 have e:=Nat.div_add_mod (r^(n*k)) p
 exact⟨((r^(n*k)/p:Nat):Int),by rw[← l7];omega⟩
section
variable {p r n:Nat} (hp:2≤p) (h1:r^n%p=1) {s:Nat→Int} (hs:∀ u,s (u+n)=s u)
include hp h1 hs
theorem aA1(k u:Nat):cg p (s (u+n)*pwr r k (u+n)) (s u*pwr r k u):=by
 rw[hs,Dn]
 refine pG _ ?_
 have:=pG (pwr r k u) (Uh hp h1 k)
 rwa [Int.mul_one] at this
theorem conv(a:Nat→Int)(k:Nat):cg p (hat n r (fun t=>isum (fun j=>a j*s (t+(n-j))) n) k) (hat n r a k*hat n r s k):=by
 unfold hat
 have e1:isum (fun t=>isum (fun j=>a j*s (t+(n-j))) n*pwr r k t) n=isum (fun j=>a j*isum (fun t=>s (t+(n-j))*pwr r k t) n) n:=by
  rw[aP (fun t _=>(rE _ _ _).symm),tN]
  refine aP (fun j _=>?_)
  rw[← rD]
  exact aP (fun t _=>Int.mul_assoc _ _ _)
 rw[e1,← rE]
 refine xH n (fun j hj=>?_)
 rw[Int.mul_assoc]
 refine pG _ ?_
 have sh:=Gm (G:=fun u=>s u*pwr r k u) (aA1 hp h1 hs k) (n-j)
 refine qB ?_ (pG _ sh)
 rw[← rD]
 refine xH n (fun t _=>?_)
 have e:pwr r k j*(s (t+(n-j))*pwr r k (t+(n-j)))=s (t+(n-j))*(pwr r k t*pwr r k n):=by
  rw[Int.mul_left_comm,← Dn,← Dn,show j+(t+(n-j))=t+n by omega]
 rw[e]
 refine pG _ (zC ?_)
 have:=pG (pwr r k t) (Uh hp h1 k)
 rwa [Int.mul_one] at this
theorem spectrum{w:Nat}(hw:w*r%p=1)(k:Nat):cg p (hat n r s k*hat n w s k) (isum (fun t=>isum (fun u=>s u*s (t+u)) n*pwr r k t) n):=by
 have inv_:∀ u,cg p (pwr r k u*pwr w k u) 1:=by
  intro u
  unfold pwr
  rw[← l7,← Nat.mul_pow,i8 r w]
  have e:(w*r)^(u*k)%p=1:=by
   rw[Nat.pow_mod,hw,Nat.one_pow,g6 (by omega)]
  have e2:=Nat.div_add_mod ((w*r)^(u*k)) p
  exact⟨(((w*r)^(u*k)/p:Nat):Int),by rw[← l7];omega⟩
 have e1:hat n r s k*hat n w s k=isum (fun u=>s u*pwr w k u*hat n r s k) n:=by
  rw[rE,Int.mul_comm];rfl
 have e2:isum (fun t=>isum (fun u=>s u*s (t+u)) n*pwr r k t) n=isum (fun u=>isum (fun t=>s u*s (t+u)*pwr r k t) n) n:=by
  rw[aP (fun t _=>(rE _ _ _).symm),tN]
 rw[e1,e2]
 refine xH n (fun u _=>?_)
 have sh:=zC (Gm (G:=fun u=>s u*pwr r k u) (aA1 hp h1 hs k) u)
 refine qB (pG _ sh) ?_
 rw[← rD]
 refine xH n (fun t _=>?_)
 have e:s u*pwr w k u*(s (t+u)*pwr r k (t+u))=s u*s (t+u)*pwr r k t*(pwr r k u*pwr w k u):=by
  rw[Dn]
  generalize s u=x;generalize pwr w k u=y;generalize s (t+u)=z;generalize pwr r k t=v;generalize pwr r k u=q
  rw[Int.mul_assoc x y,Int.mul_assoc (x*z) v,Int.mul_assoc x z]
  congr 1
  rw[Int.mul_left_comm y z,Int.mul_comm y (v*q),Int.mul_assoc v q y]
 rw[e]
 have:=pG (s u*s (t+u)*pwr r k t) (inv_ u)
 rwa [Int.mul_one] at this
end
end Go.Rex
namespace Go.Rex
open Go Go.Rex
set_option maxRecDepth 100000
def chkf{α ε:Type}(P:α→Prop)[DecidablePred P](e:ε)(_:Unit)(z:α):Unit ⊕ ε:=if P z then .inl () else .inr e
theorem Na{α ε:Type}(P:α→Prop)[DecidablePred P](e:ε)(fin:Unit→ε):∀ l:List α,walk (chkf P e) fin () l=if ∀ z∈l,P z then fin () else e
 | []=>by simp[walk]
 | z::l=>by
  simp only[walk]
  by_cases h:P z
  ·rw[show chkf P e () z = .inl () from a9 h]
   simp only
   rw[Na P e fin l]
   by_cases h2:∀ z∈l,P z
   ·rw[a9 h2,a9 (by intro y hy;rcases j9.1 hy with rfl|hy;exact h;exact h2 y hy)]
   ·rw[b6 h2,b6 (fun h3=>h2 fun y hy=>h3 y (j1 _ hy))]
  ·rw[show chkf P e () z = .inr e from b6 h,b6 (fun h3=>h (h3 z List.mem_cons_self))]
theorem Jq{α β γ ε:Type}(g:α→β)(h:α→γ)(fin:List β×List γ→ε):∀(l:List α) (b:List β×List γ),walk (fun b z=>(.inl (b.1++[g z],b.2++[h z]):List β×List γ ⊕ ε)) fin b l=fin (b.1++l.map g,b.2++l.map h)
 | [],b=>by simp[walk]
 | z::l,b=>by
  simp only[walk]
  rw[Jq g h fin l]
  simp
noncomputable def nr(x:Int):Nat:=FloatKind.f32.nearest x
def mx{α:Type}(old new:Nat→α)(m k:Nat):List α:=(List.range m).map fun i=>if i<k then new i else old i
section
variable {α:Type} {old new:Nat→α} {m:Nat}
theorem aAs(k:Nat):(mx old new m k).length=m:=by unfold mx;simp
theorem Ya(k:Nat){i:Nat}(hi:i<m):(mx old new m k)[i]?=some (if i<k then new i else old i):=by
 unfold mx
 rw[e8,l9 hi]
 rfl
theorem aCn{k:Nat}(hk:k<m):(mx old new m k)[k]?=some (old k):=by rw[Ya k hk,b6 (by omega)]
theorem aCf{k:Nat}(hk:k<m):(mx old new m k).set k (new k)=mx old new m (k+1):=by
 apply j8
 intro i
 rw[k8,aAs]
 by_cases hi:i<m
 ·rw[Ya (k+1) hi]
  by_cases q:k=i
  ·subst q
   rw[a9 rfl,a9 hi,a9 (by omega)]
  ·rw[b6 q,Ya k hi]
   by_cases c:i<k
   ·rw[a9 c,a9 (by omega)]
   ·rw[b6 c,b6 (by omega)]
 ·have hn2:∀ j,(mx old new m j)[i]?=none:=fun j=>j7 (by rw[aAs];omega)
  rw[hn2,hn2,b6 (by omega)]
theorem aBh:mx old new m 0=(List.range m).map old:=by
 unfold mx
 apply k6
 intro i _
 rw[b6 (by omega)]
theorem aBe:mx old new m m=(List.range m).map new:=by
 unfold mx
 apply k6
 intro i hi
 rw[List.mem_range] at hi
 rw[a9 hi]
end
section
variable {v:List (List (Nat×Nat))} {m:Nat} (hv:∀ l∈v,GoodL l∧l.length=m) (lv:1≤v.length∧v.length≤32) (lm:m≤1024)
include hv lv
include lm
end
theorem aDv(x:Option (List (Nat×Nat)×Int)):(x.bind fun (a,b)=>some (a,b))=x:=by cases x<;>rfl
end Go.Rex
namespace Go.Rex
open Go Go.Rex
set_option maxRecDepth 100000
def qA(p:Nat)(l S:List Int)(r k:Nat):Nat:=nY p l r k*inv p (nY p S r k)%p
def Lx(p:Nat)(l S:List Int)(r n:Nat):List Int:=(List.range n).map fun k=>((qA p l S r k:Nat):Int)
def bA(p:Nat)(l S:List Int)(r n k:Nat):Nat:=nY p (Lx p l S r n) (inv p r) k*inv p n%p
def aCU(p:Nat)(x:Int):Int:=if 2*x>p then x-p else x
def unX(p:Nat)(l S:List Int)(r n k:Nat):Int:=aCU p (bA p l S r n k)
def unW(p:Nat)(l S:List Int)(r n:Nat):List Int:=(List.range n).map (unX p l S r n)
section
variable {p r n:Nat} {l S:List Int} (F:Fld p r n)
include F
theorem aDj(k:Nat):bA p l S r n k<p:=i9 _ (by have:=F.r0;have:=F.lt;omega)
theorem aBv{a b:Nat}(ha:a<p)(hb:b<p):IntKind.i64.wrap ((a:Int)*(b:Int))=((a*b:Nat):Int)∧(((a*b:Nat):Int)).tmod (p:Int)=((a*b%p:Nat):Int):=by
 have hp:=F.le
 have h:a*b≤2147483647*2147483647:=Nat.mul_le_mul (by omega) (by omega)
 constructor
 ·rw[← l7,w64 (by omega)]
 ·rw[g9 (by omega)];exact (Int.natCast_emod _ _).symm
theorem aBX(hl:l.length=n):bD p r n l=some (trL p l r n):=by
 have h2:=F.prime.1
 exact zY F.ord h2 F.le F.lt F.small hl
theorem Ve{k:Nat}(hk:k<n):(trL p l r n)[k]?=some ((nY p l r k:Nat):Int):=by simp[trL,hk]
theorem Vs(hl:l.length=n):fY p r n (trL p l r n) (trL p S r n)=some (Lx p l S r n):=by
 have h2:=F.prime.1
 have hs:=F.small
 have key:=lU (step:=bP p r n (trL p l r n) (trL p S r n)) (st:=fun k (_:Unit)=>((List.range k).map (fun k=>((qA p l S r k:Nat):Int)),(k:Int))) (g:=fun _ x=>x) (fin:=fun _=>Lx p l S r n) n (fun _ _=>True) (b0:=()) trivial
  (fun k _ hk _=>⟨by
   have a1:nY p l r k<p:=i9 _ (by omega)
   have a2:nY p S r k<p:=i9 _ (by omega)
   have a3:inv p (nY p S r k)<p:=i9 _ (by omega)
   obtain⟨p1,p2⟩:=aBv F a1 a3
   unfold bP aS
   try simp only
   rw[a9 (by rw[b9];rw[Lh];omega),aT,Ve F hk,a7,aT,Ve F hk,a7,Ri _ _ h2 F.le a2,a7,b6 (by omega),p1,p2,a7]
   unfold lL
   rw[a9 (by simp;omega),a7,wsucc (n:=1024) (by omega) (by decide),List.range_succ,List.map_append]
   rfl,trivial⟩) (fun _ _=>by
   unfold bP
   try simp only
   rw[b6 (by rw[b9];rw[Lh];omega)]
   rfl)
 have k1:=key.1
 unfold fY
 have k2:run (bP p r n (trL p l r n) (trL p S r n)) (([]:List Int),0)=some (Lx p l S r n):=k1
 rw[k2,a7]
theorem aDa:bkL p (Lx p l S r n) r n n=(List.range n).map fun k=>((bA p l S r n k:Nat):Int):=by
 unfold bkL
 apply k6
 intro k hk
 rw[List.mem_range] at hk
 rw[a9 hk]
 rfl
theorem aAw(k:Nat):iC p r n ((bA p l S r n k:Nat):Int)=some (unX p l S r n k):=by
 have hp:=F.le
 have h:=aDj (l:=l) (S:=S) F k
 unfold iC unX aCU
 have e:(p:Int).tdiv 2=((p/2:Nat):Int):=by rw[Int.tdiv_eq_ediv_of_nonneg (by omega)];omega
 rw[e,w64 (x:=((p/2:Nat):Int)) (by omega),w64 (x:=((bA p l S r n k:Nat):Int)-p) (by omega)]
 by_cases c:2*((bA p l S r n k:Nat):Int)>p
 ·rw[a9 c,a9 (by rw[b9];omega)]
 ·rw[b6 c,b6 (by rw[b9];omega)]
theorem Tw(hl:l.length=n):bU p r n l (trL p S r n)=some (unW p l S r n):=by
 have hs:=F.small
 have key:=lU (step:=cH p r n (bkL p (Lx p l S r n) r n n)) (st:=fun k (_:Unit)=>(mx (fun k=>((bA p l S r n k:Nat):Int)) (unX p l S r n) n k,(k:Int))) (g:=fun _ x=>x) (fin:=fun _=>unW p l S r n) n (fun _ _=>True) (b0:=()) trivial
  (fun k _ hk _=>⟨by
   unfold cH
   try simp only
   rw[a9 (by rw[b9,zD];omega),aT,aCn hk,a7,aAw F,a7,show ((k:Int)).toNat=k by omega,← aCf (old:=fun k=>((bA p l S r n k:Nat):Int)) (new:=unX p l S r n) hk,wsucc (n:=1024) (by omega) (by decide)],trivial⟩) (fun _ _=>by
   unfold cH
   try simp only
   rw[b6 (by rw[b9,zD];omega),aBe]
   rfl)
 have k1:=key.1
 simp only[Int.natCast_zero] at k1
 rw[aBh,← aDa F] at k1
 unfold bU
 rw[aBX F hl,a7,Vs F hl,a7,aBd F (by unfold Lx;simp),a7,k1,a7]
end
theorem Wa(X Y:Nat→Int){n:Nat}(hn:n≤1024):run (bZ ((List.range n).map X) ((List.range n).map Y)) (([]:List (Int×Int)),0)=some ((List.range n).map fun k=>(X k,Y k)):=by
 have at_:∀(f:Nat→Int) (k:Nat),k<n→((List.range n).map f)[k]?=some (f k):=fun f k hk=>by rw[e8,l9 hk];rfl
 have key:=lU (step:=bZ ((List.range n).map X) ((List.range n).map Y)) (st:=fun k (_:Unit)=>((List.range k).map (fun k=>(X k,Y k)),(k:Int))) (g:=fun _ x=>x) (fin:=fun _=>(List.range n).map fun k=>(X k,Y k)) n (fun _ _=>True) (b0:=()) trivial
  (fun k _ hk _=>⟨by
   unfold bZ
   try simp only
   rw[a9 (by rw[b9];simp only[List.length_map,List.length_range];omega),aT,at_ X k hk,a7,aT,at_ Y k hk,a7]
   unfold lL
   rw[a9 (by simp;omega),a7,wsucc (n:=1024) (by omega) (by decide),List.range_succ,List.map_append]
   rfl,trivial⟩) (fun _ _=>by
   unfold bZ
   try simp only
   rw[b6 (by rw[b9];simp only[List.length_map,List.length_range];omega)])
 exact key.1
theorem Qq(W:List (Int×Int))(lW:W.length≤1024):nX W=some (W.map (·.1),W.map (·.2)):=by
 have key:=Ea (step:=gZ W) (fun k (b:List Int×List Int)=>(b.1,b.2,(k:Int))) (fun b z=>(.inl (b.1++[z.1],b.2++[z.2]):(List Int×List Int) ⊕ (List Int×List Int))) (fun b=>b) (fun k b=>b.1.length=k∧b.2.length=k) W
  (fun k z b hz hb=>by
   have hk:=(a8.1 hz).1
   refine⟨?_,fun b' hb'=>by obtain rfl:=Sum.inl.inj hb';simp[hb.1,hb.2]⟩
   unfold gZ
   try simp only
   rw[a9 (by rw[b9];omega),aT,hz,a7]
   try simp only
   unfold lL
   rw[a9 (by simp;omega),a7,a9 (by simp;omega),a7,wsucc (n:=1024) (by omega) (by decide)])
  (fun b hb=>by
   unfold gZ
   try simp only
   rw[b6 (by rw[b9];omega)]) (b0:=([],[])) ⟨rfl,rfl⟩
 rw[Jq] at key
 have k2:run (gZ W) (([]:List Int),([]:List Int),0)=some (W.map (·.1),W.map (·.2)):=key
 unfold nX
 rw[k2,a7]
end Go.Rex
namespace Go.Rex
open Go Go.Rex
set_option maxRecDepth 100000
noncomputable def otV(W:List (Int×Int))(S:List Int)(p r n:Nat):List (Nat×Nat)×Int:=rec ((List.range n).map fun k=>(unX p (W.map (·.1)) S r n k,unX p (W.map (·.2)) S r n k))
section
variable {L:Nat} {ts:List Nat} {s p r n:Nat}
theorem Yq(hr:Reg L ts)(h0:0<s)(hs:s<2^L)(F:Fld p r n){l:List (Nat×Nat)}(G:GoodL l)(hl:l.length=n)(hn:n=2^L-1):((cA L (ints ts) s).bind fun v15 =>
 (bD p r n v15).bind fun v16 =>
 (bN l).bind fun v17 =>
 (nX v17).bind fun (v18,v19) =>
 (bU p r n v18 v16).bind fun v20 =>
 (bU p r n v19 v16).bind fun v21 =>
 (run (bZ v20 v21) (([]:List (Int×Int)),0)).bind fun v31 =>
 (bE v31).bind fun (v32,v33) =>
 some (v32,v33))=some (otV (nums l) (sgl L ts s (2^L-1)) p r n):=by
 have hs2:=F.small
 have ln:=mF L ts s (2^L-1)
 have nl:=pY l
 rw[Br hr h0 hs,a7]
 generalize sgl L ts s (2^L-1)=S at *
 rw[aBX F (l:=S) (by omega),a7,xF G,a7]
 generalize nums l=W at *
 rw[Qq W (by omega),a7]
 dsimp only
 rw[Tw F (l:=W.map (·.1)) (by rw[m5];omega),a7,Tw F (l:=W.map (·.2)) (by rw[m5];omega),a7]
 unfold unW
 rw[Wa _ _ hs2,a7,aDv]
 exact vF _ (by simp only[List.length_map,List.length_range];omega)
end
theorem Wb(l:List (Nat×Nat)){L:Nat}(t:List Int)(p r n:Int)(hL:L≤8):dG l L t p r n=some (if l.length=2^L-1∧n=((2^L-1:Nat):Int) then 0 else 13):=by
 unfold dG aD aA
 rw[uH hL,a7]
 by_cases h:l.length=2^L-1
 ·rw[b6 (by simp;omega),a7]
  by_cases h2:n=((2^L-1:Nat):Int)
  ·rw[a9 ⟨h,h2⟩,decide_eq_false (show ¬ n≠((2^L-1:Nat):Int) from fun x=>x h2)]
   rfl
  ·rw[b6 (fun x=>h2 x.2),i7 h2]
   rfl
 ·have h':¬((l.length:Int)=((2^L-1:Nat):Int)):=by omega
  rw[a9 (show decide ((l.length:Int)≠((2^L-1:Nat):Int))=true from i7 h'),b6 (show ¬(l.length=2^L-1∧n=((2^L-1:Nat):Int)) from fun x=>h x.1)]
  rfl
theorem aDg{l:List (Nat×Nat)}{L:Nat}{ts:List Nat}{s p r n:Nat}(ht:(ints ts).length≤12)(hl:lE l=0)(hc:chk L (ints ts)=0)(hr:Reg L ts)(h0:0<s)(hs:s<2^L)(hp:wX L ts 1 (2^L-1))(F:Fld p r n)(c1:gX p r n=some 0)(h2:l.length=2^L-1)(h3:n=2^L-1):gV l L (ints ts) s p r n=some (otV (nums l) (sgl L ts s (2^L-1)) p r n):=by
 have hL:=hr.most
 have hin:1≤(s:Int)∧(s:Int)≤((2^L-1:Nat):Int):=by omega
 unfold gV fP aY iL lH
 rw[a7,a7,xL]
 simp only
 rw[a7,b6 (by simpa using hl),Bi _ _ ht,a7,hc,b6 (by decide),vD _ _ hL,a7,a9 hin,b6 (by decide),c1,a7,a7,aBY hr hp (b7 _),a7,Wb l _ _ _ _ hL,b6 (by decide),a9 rfl,b6 (by decide),a7,a9 (show l.length=2^L-1∧(n:Int)=((2^L-1:Nat):Int) from ⟨h2,by omega⟩),b6 (by decide),a7,b6 (by decide)]
 exact Yq hr h0 hs F (As hl) (by omega) (by omega)
end Go.Rex
namespace Go.Rex
open Go Go.Rex
set_option maxRecDepth 100000
theorem Ux{L:Nat}{ts:List Nat}{q:Nat}(hr:Reg L ts)(hm:Maxi L ts)(h0:0<q)(hs:q<2^L)(u:Nat):sgq L ts q (u+(2^L-1))=sgq L ts q u:=by
 have hp:=(zJ hr hm h0 hs).1.2
 have:=Qz hr hp 1 u
 rw[k9] at this
 unfold sgq bt
 rw[this]
theorem Bk(f:Nat→Nat):∀ n,((dB f n:Nat):Int)=isum (fun t=>((f t:Nat):Int)) n
 | 0=>rfl
 | n+1=>by
  simp only[dB,isum]
  rw[Int.natCast_add,Bk f n]
theorem aCi{L:Nat}{ts:List Nat}{q p r:Nat}(hr:Reg L ts)(hm:Maxi L ts)(h0:0<q)(hs:q<2^L)(F:Fld p r (2^L-1))(hlt:2^L<p){k:Nat}(hk:k<2^L-1):¬ cg p (hat (2^L-1) r (sgq L ts q) k) 0:=by
 have hp:=F.prime.1
 have h1:=rX hr
 intro h
 rcases Nat.eq_zero_or_pos k with rfl|hk0
 ·have e : hat (2 ^ L - 1) r (sgq L ts q) 0 = -1 := by
    have:=Tx hr hm h0 hs 0
    rw[← this]
    unfold hat
    refine aP (fun t _=>?_)
    unfold pwr
    rw[Nat.mul_zero,l8,Nat.add_zero]
    exact Int.mul_one _
  rw[e] at h
  obtain⟨c,hc⟩:=h
  have:(p:Int) ∣ 1:=⟨-c,by rw[Int.mul_neg];omega⟩
  have:=Int.le_of_dvd (by decide) this
  omega
 ·have sp:=spectrum hp F.ord.one (fun u=>Ux hr hm h0 hs u) (zG F.prime F.r0 F.lt) k
  have e:isum (fun t=>isum (fun u=>sgq L ts q u*sgq L ts q (t+u)) (2^L-1)*pwr r k t) (2^L-1)=((2^L:Nat):Int)-isum (pwr r k) (2^L-1):=by
   have e1:∀ t,t<2^L-1→isum (fun u=>sgq L ts q u*sgq L ts q (t+u)) (2^L-1)*pwr r k t=(if t=0 then ((2^L:Nat):Int) else 0)-pwr r k t:=by
    intro t ht
    have c:=Pw hr hm h0 hs ht
    have c':isum (fun u=>sgq L ts q u*sgq L ts q (t+u)) (2^L-1)=if t=0 then ((2^L-1:Nat):Int) else -1:=c
    rw[c']
    by_cases z:t=0
    ·subst z
     have p0:pwr r k 0=1:=by unfold pwr;rw[Nat.zero_mul,l8];rfl
     rw[a9 rfl,a9 rfl,p0]
     omega
    ·rw[b6 z,b6 z]
     omega
   rw[aP e1,En,Gp,a9 (by omega)]
  rw[e] at sp
  have g:cg p (isum (pwr r k) (2^L-1)) 0:=by
   have z:=Mw F.prime (z:=r^k) (n:=2^L-1) (F.ord.least k hk0 hk) (Nat.pow_pos F.r0) (by rw[← Nat.pow_mul,i8,Nat.pow_mul,Nat.pow_mod,F.ord.one,Nat.one_pow,g6 (by omega)])
   have e2:isum (pwr r k) (2^L-1)=((dB (fun t=>(r^k)^t) (2^L-1):Nat):Int):=by
    rw[Bk]
    refine aP (fun t _=>?_)
    unfold pwr
    rw[← Nat.pow_mul,i8]
   rw[e2]
   obtain⟨c,hc⟩:=l6 z
   exact⟨(c:Int),by rw[hc,l7];omega⟩
  have a:=pG (hat (2^L-1) (inv p r) (sgq L ts q) k) h
  rw[Int.mul_zero,Int.mul_comm] at a
  have b:=Sq (qB (zC sp) a) g
  have b':cg p ((2^L:Nat):Int) 0:=by
   rw[Int.add_zero] at b
   rwa [show ((2^L:Nat):Int)-isum (pwr r k) (2^L-1)+isum (pwr r k) (2^L-1)=((2^L:Nat):Int) by omega] at b
  have b2:(p:Int) ∣ ((2^L:Nat):Int):=by
   unfold cg at b'
   rwa [Int.sub_zero] at b'
  have:=Int.le_of_dvd (by omega) b2
  omega
theorem Se{p r n:Nat}{l:List Int}(hp:2≤p)(hl:l.length=n)(k:Nat):cg p ((nY p l r k:Nat):Int) (hat n r (fun t=>l[t]?.getD 0) k):=by
 rw[yW,hl,Int.natCast_emod]
 refine qB (Xy _) ?_
 rw[Bk]
 refine xH n (fun t _=>?_)
 rw[l7,vW (by omega)]
 have:=pG (((r^(t*k):Nat):Int)) (Xy (p:=p) (l[t]?.getD 0))
 rw[Int.mul_comm,Int.mul_comm ((r^(t*k):Nat):Int)] at this
 unfold pwr
 exact this
theorem Vk{p a b:Nat}(h:cg p ((a:Nat):Int) ((b:Nat):Int)):a%p=b%p:=by
 have:=aDt h
 rw[← Int.natCast_emod,← Int.natCast_emod] at this
 exact Int.ofNat.inj this
theorem Hq{L:Nat}{ts:List Nat}{q p r:Nat}(hr:Reg L ts)(hm:Maxi L ts)(h0:0<q)(hs:q<2^L)(F:Fld p r (2^L-1))(hlt:2^L<p)(a:Nat→Int)(y:List Int)(hy:y.length=2^L-1)
 (hya:∀ t,t<2^L-1→y[t]?.getD 0=isum (fun j=>a j*sgq L ts q (t+(2^L-1-j))) (2^L-1)) {k:Nat} (hk:k<2^L-1) (hb:2*(a k).natAbs<p):unX p y (sgl L ts q (2^L-1)) r (2^L-1) k=a k:=by
 have hp:=F.prime.1
 have h1:=rX hr
 have la:((List.range (2^L-1)).map a).length=2^L-1:=by simp
 have aat:∀ t,t<2^L-1→((List.range (2^L-1)).map a)[t]?.getD 0=a t:=fun t ht=>by rw[e8,l9 ht];rfl
 have sat:∀ t,t<2^L-1→(sgl L ts q (2^L-1))[t]?.getD 0=sgq L ts q t:=fun t ht=>by
  have:=Sh hr hm h0 hs t
  rw[g6 ht] at this
  rw[← this]
  unfold atS
  rw[i4]
 have key:Lx p y (sgl L ts q (2^L-1)) r (2^L-1)=Rex.trL p ((List.range (2^L-1)).map a) r (2^L-1):=by
  unfold Lx Rex.trL
  apply k6
  intro k hk
  rw[List.mem_range] at hk
  congr 1
  have t1:=Se (r:=r) hp hy k
  have t2:=Se (r:=r) hp la k
  have t3:=Se (r:=r) hp (mF L ts q (2^L-1)) k
  have e1:hat (2^L-1) r (fun t=>y[t]?.getD 0) k=hat (2^L-1) r (fun t=>isum (fun j=>a j*sgq L ts q (t+(2^L-1-j))) (2^L-1)) k:=aP fun t ht=>by show y[t]?.getD 0*_=_;rw[hya t ht]
  have e2:hat (2^L-1) r (fun t=>((List.range (2^L-1)).map a)[t]?.getD 0) k=hat (2^L-1) r a k:=aP fun t ht=>by show ((List.range (2^L-1)).map a)[t]?.getD 0*_=_;rw[aat t ht]
  have e3:hat (2^L-1) r (fun t=>(sgl L ts q (2^L-1))[t]?.getD 0) k=hat (2^L-1) r (sgq L ts q) k:=aP fun t ht=>by show (sgl L ts q (2^L-1))[t]?.getD 0*_=_;rw[sat t ht]
  rw[e1] at t1
  rw[e2] at t2
  rw[e3] at t3
  have cv:=conv hp F.ord.one (fun u=>Ux hr hm h0 hs u) a k
  have ne:=aCi hr hm h0 hs F hlt hk
  have lA:nY p ((List.range (2^L-1)).map a) r k<p:=Dj (by omega) _ _ _
  have lS:nY p (sgl L ts q (2^L-1)) r k<p:=Dj (by omega) _ _ _
  have m:=qB (qB t1 cv) (zC (Td t2 t3))
  unfold qA
  generalize nY p y r k=Y at *
  generalize nY p ((List.range (2^L-1)).map a) r k=A at *
  generalize nY p (sgl L ts q (2^L-1)) r k=Z at *
  have hZ:0<Z:=Nat.pos_of_ne_zero fun e=>by
   subst e
   exact ne (zC t3)
  have iv:=zG F.prime hZ lS
  have m2:cg p ((Y*inv p Z:Nat):Int) ((A:Nat):Int):=by
   rw[l7]
   refine qB (Td m (Mh p ((inv p Z:Nat):Int))) ?_
   rw[Int.mul_assoc]
   have one:cg p (((Z:Nat):Int)*((inv p Z:Nat):Int)) 1:=by
    rw[← l7,i8]
    have e2:=Nat.div_add_mod (inv p Z*Z) p
    exact⟨((inv p Z*Z/p:Nat):Int),by rw[← l7];omega⟩
   have:=pG ((A:Nat):Int) one
   rwa [Int.mul_one] at this
  have:=Vk m2
  rwa [g6 lA] at this
 have hB:bA p y (sgl L ts q (2^L-1)) r (2^L-1) k=res p (a k):=by
  unfold bA
  rw[key,Qw F la hk,aat k hk]
 unfold unX
 rw[hB]
 unfold aCU
 rw[vW (by omega)]
 generalize a k=x at *
 by_cases c:0≤x
 ·rw[Int.emod_eq_of_lt c (by omega),b6 (by omega)]
 ·have e : x % (p : Int) = x + p := by
    rw[← Int.add_emod_right,Int.emod_eq_of_lt (by omega) (by omega)]
  rw[e,a9 (by omega)]
  omega
theorem Aw{n:Nat}(hn:2≤n)(hm:n≤2147483647):∃ b,gU n=some b∧(b=true↔Pr n):=by
 obtain⟨e,he,hp⟩:=Jm hn hm
 unfold gU
 rw[he]
 cases e with
 | inl u=>exact⟨false,rfl,(by constructor;(intro h;cases h);(intro h;obtain⟨u,hu⟩:=hp.2 h;cases hu))⟩
 | inr u=>exact⟨true,rfl,⟨fun _=>hp.1 ⟨u,rfl⟩,fun _=>rfl⟩⟩
theorem Xr{p r n:Nat}(F:Fld p r n):gX p r n=some 0:=by
 have h2:=F.prime.1
 have hp:=F.le
 have hn:=F.small
 have hn0:=F.pos
 have hr0:=F.r0
 have hr:=F.lt
 obtain⟨b1,p1,p3⟩:=Aw (n:=p) (by omega) (by omega)
 obtain⟨b2,q1,q2⟩:=Cu (p:=p) (r:=r) (n:=n) (by omega) (by omega) (by omega) (by omega) (by omega)
 obtain rfl:b1=true:=p3.2 F.prime
 obtain rfl:b2=true:=q2.2 F.ord
 obtain⟨c,hc⟩:=F.dvd
 have hm:((p:Int)-1).tmod n=0:=by
  rw[show (p:Int)-1=(n:Int)*c by rw[← l7,← hc];omega]
  exact Int.mul_tmod_right _ _
 have n1:¬((p:Int)<2∨(p:Int)>2147483647):=by omega
 have n3:¬((n:Int)<1∨(n:Int)>1024):=by omega
 have n2:¬((r:Int)<1∨(r:Int)>(p:Int)-1):=by omega
 have hn0':¬(n=0):=by omega
 unfold gX
 simp only[Ll,Option.bind_some,iN,Gc]
 simp only[fL,fN,fR,p1,q1,Option.bind_some,aD,Gc,w64 (x:=(p:Int)-1) (by omega),n1,n2,n3]
 simp[hm,hn0']
theorem Rr{p n:Nat}(hp:Pr p)(hp2:p≤2147483647)(hn:0<n)(hn2:n≤1024)(hd:n ∣ p-1):∃ r:Nat,run (jB n p) 1=some (r:Int)∧Ord p r n∧r<p:=by
 have h2:=hp.1
 obtain⟨m,hP,hl⟩:=wP (P:=fun k=>k+1<p∧Ord p ((k+1)^((p-1)/n)) n) (by
  obtain⟨g,g1,g2,g3⟩:=hp.rooted hn hd
  exact⟨g-1,by omega,by rwa [show g-1+1=g by omega]⟩)
 have ew:IntKind.i64.wrap ((IntKind.i64.wrap ((p:Int)-1)).tdiv n)=(((p-1)/n:Nat):Int):=by
  rw[w64 (x:=(p:Int)-1) (by omega),show (p:Int)-1=((p-1:Nat):Int) by omega,Int.tdiv_eq_ediv_of_nonneg (by omega),← Int.natCast_ediv]
  have:=Nat.div_le_self (p-1) n
  generalize (p-1)/n=z at *
  exact w64 (by omega)
 have hdle:=Nat.div_le_self (p-1) n
 have pw1:∀ k,k≤m→eJ p 0 n ((k+1:Nat):Int) (((p-1)/n:Nat):Int)=some (((k+1)^((p-1)/n)%p:Nat):Int):=fun k hk=>aA2 _ _ h2 hp2 (by omega) (by generalize (p-1)/n=z at *;omega)
 have t1:∀ k,k≤m→∃ b,cP p (((k+1)^((p-1)/n)%p:Nat):Int) n=some b∧(b=true↔k=m):=by
  intro k hk
  have hlt:(k+1)^((p-1)/n)%p<p:=i9 _ (by omega)
  obtain⟨b1,q1,q2⟩:=Cu (p:=p) (n:=n) h2 hp2 hlt hn (by omega)
  refine⟨b1,q1,?_⟩
  rw[q2]
  constructor
  ·intro h
   refine g8 fun hc=>hl k (by omega) ⟨by omega,h.unmod⟩
  ·intro h
   subst h
   exact hP.2.mod
 refine⟨(m+1)^((p-1)/n)%p,?_,hP.2.mod,i9 _ (by omega)⟩
 refine bY (fun k=>((k+1:Nat):Int)) (n:=m) (fun k hk=>?_) ?_
 ·obtain⟨b,b1,b3⟩:=t1 k (by omega)
  have hb:b=false:=by cases b with|false=>rfl|true=>exact absurd (b3.1 rfl) (by omega)
  unfold jB
  rw[b6 (by omega),ew,pw1 k (by omega),a7,b1,a7,hb,b6 (by simp),w64 (by omega)]
  simp
 ·obtain⟨b,b1,b3⟩:=t1 m (by omega)
  have hb:b=true:=b3.2 rfl
  unfold jB
  rw[b6 (by omega),ew,pw1 m (by omega),a7,b1,a7,hb,a9 rfl]
theorem Ny{n P:Nat}{s:Int}(hn:1≤n∧n≤1024)(hs:2≤s∧s≤P)(hP:Pr P)(hPle:P≤2147483647)(hPn:n ∣ P-1):∃ p r:Nat,mV n s=some ((p:Int),(r:Int),(n:Int),0)∧Fld p r n∧s≤p∧p≤P:=by
 have hmod:=Int.emod_nonneg (1-s) (show (n:Int)≠0 by omega)
 have hmlt:=Int.emod_lt_of_pos (1-s) (show (0:Int)<n by omega)
 have hdm:=Int.emod_add_mul_ediv (1-s) n
 obtain⟨a,ha⟩:∃ a:Nat,s+(1-s)%(n:Int)=a:=⟨(s+(1-s)%(n:Int)).toNat,by omega⟩
 have hn1:n ∣ a-1:=by
  have:((a-1:Nat):Int)=n*(-((1-s)/(n:Int))):=by rw[Int.mul_neg];omega
  exact Int.natCast_dvd_natCast.1 ⟨_,this⟩
 have hPge:a≤P:=by
  refine g8 fun hc=>?_
  obtain⟨x,hx⟩:=hPn
  obtain⟨y,hy⟩:=hn1
  have h1:n*y-n*x<n:=by omega
  have h2:n*x<n*y:=by omega
  have h3:x<y:=Nat.lt_of_mul_lt_mul_left h2
  have h4:n*(x+1)≤n*y:=Nat.mul_le_mul_left n h3
  rw[Nat.mul_add] at h4
  omega
 obtain⟨j,hj⟩:∃ j,P=a+j*n:=by
  obtain⟨x,hx⟩:=hPn
  obtain⟨y,hy⟩:=hn1
  refine⟨x-y,?_⟩
  have:y≤x:=by
   refine g8 fun hc=>?_
   have h4:n*(x+1)≤n*y:=Nat.mul_le_mul_left n (by omega)
   rw[Nat.mul_add] at h4
   omega
  rw[i8,Nat.mul_sub]
  have:=Nat.mul_le_mul_left n this
  omega
 have startP:IntKind.i64.wrap (s+(1-s)%(n:Int))=(a:Int):=by rw[w64 (by omega)];exact ha
 have hmodulo:eK (IntKind.i64.wrap (1-s)) n=some ((1-s)%(n:Int)):=by
  rw[w64 (x:=1-s) (by omega)]
  exact Ee (by omega) (by omega)
 obtain⟨m,hm,hl⟩:=wP (P:=fun k=>Pr (a+k*n)) ⟨j,by rw[← hj];exact hP⟩
 have hmj:m≤j:=by
  refine g8 fun hc=>hl j (by omega) (by rw[← hj];exact hP)
 have le:∀ k,k≤m→a+k*n≤P:=fun k hk=>by
  have:=g7 n (show k≤j by omega)
  omega
 have next:∀ k,a+k*n≤2147483647→IntKind.i64.wrap (((a+k*n:Nat):Int)+n)=((a+(k+1)*n:Nat):Int):=fun k hk=>by
  rw[Nat.add_mul,Nat.one_mul,← i5]
  generalize a+k*n=z at *
  rw[w64 (by omega)]
  simp
 have h0:((a+0*n:Nat):Int)=(a:Int):=by simp
 have ge2:∀ k,2≤a+k*n:=fun k=>by omega
 have stepP:∀ k,k<m→fJ n ((a+k*n:Nat):Int)=some (.inl ((a+(k+1)*n:Nat):Int)):=by
  intro k hk
  have l1:=le k (by omega)
  obtain⟨b,b1,b3⟩:=Aw (ge2 k) (by omega)
  have hb:b=false:=by cases b with|false=>rfl|true=>exact absurd (b3.1 rfl) (hl k hk)
  unfold fJ
  rw[a9 (by rw[b9];omega),b1,a7,hb,b6 (by simp),next k (by omega)]
 have hle:a+m*n≤2147483647:=by have:=le m (b7 _);omega
 have hd:n ∣ a+m*n-1:=by
  rw[show a+m*n-1=a-1+m*n by omega]
  exact Nat.dvd_add hn1 (Nat.dvd_mul_left _ _)
 obtain⟨r,r1,r2,r3⟩:=Rr hm hle (by omega) (by omega) hd
 obtain⟨b,b1,b3⟩:=Aw (ge2 m) hle
 have hb:b=true:=b3.2 hm
 have rP:run (fJ n) (a:Int)=some (.inl (((a+m*n:Nat):Int),(r:Int),(n:Int))):=by
  rw[← h0]
  refine bY (fun k=>((a+k*n:Nat):Int)) (n:=m) stepP ?_
  unfold fJ
  rw[a9 (by rw[b9];omega),b1,a7,hb,a9 rfl,qW,r1]
  rfl
 have r0:0<r:=Nat.pos_of_ne_zero fun e=>by
  subst e
  have:=r2.one
  rw[Nat.zero_pow (by omega),Nat.zero_mod] at this
  cases this
 refine⟨a+m*n,r,?_,⟨hm,hle,by omega,by omega,r0,r3,hd,r2⟩,by omega,le m (b7 _)⟩
 unfold mV
 rw[oZ,oZ]
 simp only[Option.bind_some]
 rw[i7 (show 1≤(n:Int)∧(n:Int)≤1024 by omega),i7 (show 2≤s∧s≤2147483647 by omega),fe9 _ _ _ _ (by decide)]
 simp only[Bool.not_true,Bool.false_eq_true,if_false,Option.bind_some,ne_eq,not_true_eq_false,decide_false]
 rw[hmodulo]
 simp only[Option.bind_some]
 rw[startP,rP]
 rfl
section
variable {L:Nat} {ts:List Nat} {q:Nat} (hr:Reg L ts) (hm:Maxi L ts) (h0:0<q) (hs:q<2^L)
include hr hm h0 hs
end
end Go.Rex
namespace Go.Rex
open Go Go.Rex
set_option maxRecDepth 100000
theorem aBb(l:List (Nat×Nat))(h:l.length≤1024):lL 8 ([]:List (Nat×Nat)) l=some l:=by
 unfold lL
 rw[a9 (by simp;omega)]
 rfl
theorem Nu{w:List (Int×Int)}(h:∀ k,zle 16777216 (at0 w k)):∀ z∈w,small z:=by
 intro z hz
 obtain⟨k,hk⟩:=j2.1 hz
 have hkl:=(a8.1 hk).1
 have:=nZ hkl
 rw[hk] at this
 rw[a6 this]
 have:=h k
 unfold zle at this
 exact this
theorem Gd{A B:Int}{z:Int×Int}(h:A≤B)(hz:zle A z):zle B z:=by unfold zle at *;omega
structure Whole(L:Int)(t:List Int)(s:Int)(n:Nat)(ts:List Nat)(q:Nat):Prop where
 eL:L=n
 et:t=ints ts
 es:s=q
 lt:(ints ts).length≤8
 reg:Reg n ts
 chk:chk n (ints ts)=0
 pos:0<q
 les:q<2^n
 le5:n≤5
 max:Maxi n ts
theorem Qi{a b:List (Int×Int)}(hl:a.length=b.length)(h:∀ k,k<a.length→at0 a k=at0 b k):a=b:=by
 apply j8
 intro k
 by_cases hk:k<a.length
 ·rw[nZ hk,nZ (by omega),h k hk]
 ·rw[j7 (by omega),j7 (by omega)]
theorem Qd(w:List (Int×Int))(N:Nat):(Si w N).length=N:=by unfold Si;simp
theorem tK{w:List (Int×Int)}(h:∀ z∈w,small z):rec w=(w.map oL,0):=by
 unfold rec
 rw[a9 h]
section
variable {w:List (Int×Int)} {A:Int} (hA:0≤A∧A≤10000) (hw:∀ k,zle A (at0 w k)) (lw:0<w.length∧w.length≤31)
include hA hw lw
end
end Go.Rex
namespace Go.Rex
open Go Go.Rex
set_option maxRecDepth 100000
theorem Ur(w:List (Int×Int))(t:Nat):(w.map (·.1))[t]?.getD 0=(at0 w t).1∧(w.map (·.2))[t]?.getD 0=(at0 w t).2:=by
 unfold at0
 rw[e8,e8,i4]
 cases w[t]?<;>exact⟨rfl,rfl⟩
theorem Wc{L:Nat}{ts:List Nat}{s:Nat}(hr:Reg L ts)(hm:Maxi L ts)(h0:0<s)(hs:s<2^L)(W:List (Int×Int)){t:Nat}(ht:t<2^L-1) :
 at0 (wgh W (sgl L ts s (2^L-1))) t=(isum (fun j=>(at0 W j).1*sgq L ts s (t+(2^L-1-j))) (2^L-1),isum (fun j=>(at0 W j).2*sgq L ts s (t+(2^L-1-j))) (2^L-1)):=by
 have hl:=mF L ts s (2^L-1)
 have hS:=fun m=>Sh hr hm h0 hs m
 generalize hSS:sgl L ts s (2^L-1)=S at *
 rw[aAp (by omega),hl]
 unfold wgS
 obtain⟨h1,h2⟩:=wR (wgT W S t) (2^L-1)
 refine Prod.ext (h1.trans ?_) (h2.trans ?_)
 ·refine aP (fun j hj=>?_)
  unfold wgT zstr
  rw[hl,hS,show t+(2^L-1)-j=t+(2^L-1-j) by omega]
 ·refine aP (fun j hj=>?_)
  unfold wgT zstr
  rw[hl,hS,show t+(2^L-1)-j=t+(2^L-1-j) by omega]
theorem Xb{w:List (Int×Int)}{N:Nat}(h:w.length=N):Si w N=w:=by
 refine Qi (by rw[Qd];omega) (fun k hk=>?_)
 rw[Qd] at hk
 rw[aBC,a9 hk]
def otX(w:List (Int×Int))(S:List Int)(p r n:Nat):List (Int×Int):=(List.range n).map fun k=>(unX p (w.map (·.1)) S r n k,unX p (w.map (·.2)) S r n k)
def sT(p a k:Nat):Bool:=Nat.rec (motive:=fun _=>Bool) true (fun q ih=>(p%(a+q) != 0)&&ih) k
theorem mC{p a:Nat}:∀ {k:Nat},sT p a k=true→∀ q,a≤q→q<a+k→p%q≠0
 | 0,_,q,h1,h2=>by omega
 | k+1,h,q,h1,h2=>by
  have h':((p%(a+k) != 0)&&sT p a k)=true:=h
  rw[n6] at h'
  by_cases e:q=a+k
  ·subst e
   simpa using h'.1
  ·exact mC h'.2 q h1 (by omega)
theorem aCs{p m:Nat}(h2:2≤p)(h:∀ q,2≤q→q<m→p%q≠0)(hk:p<m*m):Pr p:=by
 refine⟨h2,fun q hq=>?_⟩
 obtain⟨c,hc⟩:=hq
 refine g8 fun hn=>?_
 rw[not_or] at hn
 have hq0:q≠0:=fun e=>by subst e;omega
 have hc0:c≠0:=fun e=>by subst e;omega
 have hc1:c≠1:=fun e=>by subst e;omega
 have key:∀ d,2≤d→d<m→d ∣ p→False:=fun d d1 d2 d3=>h d d1 d2 (Nat.mod_eq_zero_of_dvd d3)
 rcases d5 q m with g|g
 ·exact key q (by omega) g ⟨c,hc⟩
 ·rcases d5 c m with g2|g2
  ·exact key c (by omega) g2 ⟨q,by rw[hc,i8]⟩
  ·have:=Nat.mul_le_mul g g2
   omega
theorem vL{p:Nat}(h2:2≤p)(hp:p<1024000000)(h0:sT p 2 3998=true)(h1:sT p 4000 4000=true)(h3:sT p 8000 4000=true)(h4:sT p 12000 4000=true)(h5:sT p 16000 4000=true)(h6:sT p 20000 4000=true)(h7:sT p 24000 4000=true)(h8:sT p 28000 4000=true):Pr p:=by
 refine aCs (m:=32000) h2 (fun q q1 q2=>?_) (by omega)
 rcases (show q<4000∨(4000≤q∧q<8000)∨(8000≤q∧q<12000)∨(12000≤q∧q<16000)∨(16000≤q∧q<20000)∨(20000≤q∧q<24000)∨(24000≤q∧q<28000)∨(28000≤q∧q<32000) by omega) with g|g|g|g|g|g|g|g
 ·exact mC h0 q q1 (by omega)
 ·exact mC h1 q g.1 (by omega)
 ·exact mC h3 q g.1 (by omega)
 ·exact mC h4 q g.1 (by omega)
 ·exact mC h5 q g.1 (by omega)
 ·exact mC h6 q g.1 (by omega)
 ·exact mC h7 q g.1 (by omega)
 ·exact mC h8 q g.1 (by omega)
theorem big1:Pr 1000000009:=vL (by omega) (by omega) (by decide +kernel) (by decide +kernel) (by decide +kernel) (by decide +kernel) (by decide +kernel) (by decide +kernel) (by decide +kernel) (by decide +kernel)
theorem big2:Pr 1000000021:=vL (by omega) (by omega) (by decide +kernel) (by decide +kernel) (by decide +kernel) (by decide +kernel) (by decide +kernel) (by decide +kernel) (by decide +kernel) (by decide +kernel)
theorem big3:Pr 1000001969:=vL (by omega) (by omega) (by decide +kernel) (by decide +kernel) (by decide +kernel) (by decide +kernel) (by decide +kernel) (by decide +kernel) (by decide +kernel) (by decide +kernel)
theorem big4:Pr 1000000033:=vL (by omega) (by omega) (by decide +kernel) (by decide +kernel) (by decide +kernel) (by decide +kernel) (by decide +kernel) (by decide +kernel) (by decide +kernel) (by decide +kernel)
theorem big5:Pr 1000000861:=vL (by omega) (by omega) (by decide +kernel) (by decide +kernel) (by decide +kernel) (by decide +kernel) (by decide +kernel) (by decide +kernel) (by decide +kernel) (by decide +kernel)
theorem Wh{m:Nat}(h:2≤m∧m≤8):∃ P:Nat,Pr P∧1000000000≤P∧P≤2147483647∧2^m-1 ∣ P-1:=by
 rcases (show m=2∨m=3∨m=4∨m=5∨m=6∨m=7∨m=8 by omega) with rfl|rfl|rfl|rfl|rfl|rfl|rfl
 ·exact⟨_,big1,by decide,by decide,by decide⟩
 ·exact⟨_,big1,by decide,by decide,by decide⟩
 ·exact⟨_,big2,by decide,by decide,by decide⟩
 ·exact⟨_,big3,by decide,by decide,by decide⟩
 ·exact⟨_,big1,by decide,by decide,by decide⟩
 ·exact⟨_,big4,by decide,by decide,by decide⟩
 ·exact⟨_,big5,by decide,by decide,by decide⟩
theorem Wj{p r n:Nat}(F:Fld p r n):jT p r n=some 0:=by
 have h2:=F.prime.1
 have hp:=F.le
 have hn:=F.small
 have hn0:=F.pos
 have hr0:=F.r0
 have hr:=F.lt
 obtain⟨b1,p1,p2,p3⟩:=Sc (n:=p) (by omega) (by omega)
 obtain⟨b3,r1,r2⟩:=Wv (p:=p) (r:=r) (n:=n) (by omega) (by omega) (by omega) (by omega) (by omega)
 obtain rfl:b1=true:=p3.2 F.prime
 obtain rfl:b3=true:=r2.2 F.ord
 obtain⟨c,hc⟩:=F.dvd
 have hm:((p:Int)-1).tmod n=0:=by
  rw[show (p:Int)-1=(n:Int)*c by rw[← l7,← hc];omega]
  exact Int.mul_tmod_right _ _
 unfold jT
 simp only[tD,Option.bind_some]
 rw[a9 (by rw[b9];omega),a9 (by rw[b9];omega),w64 (x:=(p:Int)-1) (by omega),a9 (by rw[b9];omega),p2,a7,a9 rfl,b6 (by omega),b6 (by simp[hm]),r1,a7,a9 rfl]
theorem read_30:Ieee.single.read 1189765120 = .number false 15360000 (-9)∧Ieee.single.read 3337248768 = .number true 15360000 (-9):=by decide +kernel
theorem nv_30:NV false 15360000 (-9) 30000∧NV true 15360000 (-9) (-30000):=⟨.inr ⟨by decide,by decide⟩,.inr ⟨by decide,by decide⟩⟩
theorem Uj{b:Nat}{x:Int}(h:SV b x):fcmp .gtr .f32 b 1189765120=decide (30000<x)∧fcmp .lss .f32 b 3337248768=decide (x < -30000):=by
 obtain⟨s,m,e,h1,h2,h3⟩:=h
 constructor
 ·unfold fcmp
  simp only
  rw[ord32 h1 read_30.1,oM h3 nv_30.1]
  exact cmpI.2.2.2.1
 ·unfold fcmp
  simp only
  rw[ord32 h1 read_30.2,oM h3 nv_30.2]
  exact cmpI.2.2.1
instance (B:Int) (z:Int×Int):Decidable (zle B z):=by unfold zle;exact inferInstance
theorem Xa{l:List (Nat×Nat)}(G:GoodL l):run (cQ l) 0=some (.inl ())∨(run (cQ l) 0=some (.inr ())∧∀ k,zle 30000 (at0 (nums l) k)):=by
 have g:=G.len
 have key:=Ea (step:=cQ l) (fun k (_:Unit)=>(k:Int)) (chkf (fun p=>zle 30000 (num p)) (.inl ():Unit ⊕ Unit)) (fun _=>.inr ()) (fun _ _=>True) l
  (fun k p b hz _=>by
   have hk:=(a8.1 hz).1
   obtain⟨v1,v2⟩:=G.val p (j2.2 ⟨k,hz⟩)
   refine⟨?_,fun _ _=>trivial⟩
   unfold cQ chkf
   obtain⟨a1,a2⟩:=Uj v1.1
   obtain⟨b1,b2⟩:=Uj v1.2
   rw[a9 (by rw[b9];omega),aT,hz,a7]
   try simp only
   rw[a1,a2,b1,b2,wsucc (n:=1024) (by omega) (by decide)]
   by_cases h:zle 30000 (num p)
   ·rw[a9 h]
    unfold zle at h
    rw[b6 (by rw[b9];omega),b6 (by rw[b9];omega),b6 (by rw[b9];omega),b6 (by rw[b9];omega)]
   ·rw[b6 h]
    unfold zle at h
    by_cases c1:30000<(num p).1
    ·rw[a9 (i7 c1)]
    ·rw[b6 (by rw[b9];exact c1)]
     by_cases c2:(num p).1 < -30000
     ·rw[a9 (i7 c2)]
     ·rw[b6 (by rw[b9];exact c2)]
      by_cases c3:30000<(num p).2
      ·rw[a9 (i7 c3)]
      ·rw[b6 (by rw[b9];exact c3),a9 (by rw[b9];omega)])
  (fun b _=>by
   unfold cQ
   rw[b6 (by rw[b9];omega)]) (b0:=()) trivial
 rw[Na] at key
 simp only[Int.natCast_zero] at key
 by_cases h:∀ p∈l,zle 30000 (num p)
 ·rw[a9 h] at key
  refine .inr ⟨key,fun k=>?_⟩
  by_cases hk:k<l.length
  ·have:=nZ (w:=nums l) (k:=k) (by rw[pY];omega)
   rw[Uu hk] at this
   rw[← a6 this]
   exact h _ (List.getElem_mem hk)
  ·rw[Uf (by rw[pY];omega)];unfold zle;simp
 ·rw[b6 h] at key
  exact .inl key
theorem aBW{w:List (Int×Int)}{B:Int}(hw:∀ k,zle B (at0 w k))(hB:0≤B)(N:Nat):∀ t k:Nat,zle (t*B) (at0 (fo w N t) k)
 | 0,k=>by
  unfold fo at0
  rw[i4,List.getElem?_replicate]
  split<;>simp[zle]
 | t+1,k=>by
  have ih:=aBW hw hB N t
  simp only[fo]
  rw[Va]
  have e:((t+1:Nat):Int)*B=t*B+B:=by rw[Int.natCast_add,Int.add_mul];omega
  rw[e]
  split
  ·have h1:=ih (t%N)
   have h2:=hw t
   unfold zle zadd at *
   simp only
   omega
  ·have h1:=ih k
   unfold zle at *
   omega
section
variable {n:Nat} {ts:List Nat} {q:Nat} (lt:(ints ts).length≤12) (hc:chk n (ints ts)=0) (hr:Reg n ts) (h0:0<q) (hs:q<2^n) (hm:Maxi n ts)
include lt hc hr h0 hs hm
theorem Np{F:List (Int×Int)}(hF:∀ z∈F,small z)(lF:F.length=2^n-1)(hW:∀ z∈wgh F (sgl n ts q (2^n-1)),small z) :
 jY ((wgh F (sgl n ts q (2^n-1))).map oL) n (ints ts) q=some (F.map oL,0):=by
 have h1:=rX hr
 have h8:=pow8 hr.most
 have ln:=mF n ts q (2^n-1)
 have lW:(wgh F (sgl n ts q (2^n-1))).length=2^n-1:=by rw[zT,ln]
 rw[aDd (s:=q) lt (Vd (by omega) hW) hc hr h0 hs hm (b7 _)]
 unfold unG
 rw[a9 rfl,a9 (by rw[m5];exact lW),Nr hW,Zk hr hm h0 hs,Xb lF,tK hF]
theorem Rm{F:List (Int×Int)}{B:Int}(hB:0≤B∧B≤16777216)(hF:∀ k,zle B (at0 F k))(lF:F.length=2^n-1)(hW:∀ z∈wgh F (sgl n ts q (2^n-1)),small z){p r:Nat}(Fl:Fld p r (2^n-1))(hp:2*B<p)(hlt:2^n<p) :
 gV ((wgh F (sgl n ts q (2^n-1))).map oL) n (ints ts) q p r ((2^n-1:Nat):Int)=some (F.map oL,0):=by
 have h1:=rX hr
 have h8:=pow8 hr.most
 have ln:=mF n ts q (2^n-1)
 have lW:(wgh F (sgl n ts q (2^n-1))).length=2^n-1:=by rw[zT,ln]
 rw[aDg (s:=q) lt (Vd (by omega) hW) hc hr h0 hs hm Fl (Xr Fl) (by rw[m5];exact lW) rfl,Nr hW]
 have sF:=Nu (w:=F) (fun k=>Gd hB.2 (hF k))
 have hwt:=fun t ht=>Wc hr hm h0 hs F (t:=t) ht
 generalize wgh F (sgl n ts q (2^n-1))=W at *
 have e:otX W (sgl n ts q (2^n-1)) p r (2^n-1)=F:=by
  have lX:(otX W (sgl n ts q (2^n-1)) p r (2^n-1)).length=2^n-1:=by unfold otX;simp
  refine Qi (by omega) (fun k hk=>?_)
  rw[lX] at hk
  have g:=nZ (w:=otX W (sgl n ts q (2^n-1)) p r (2^n-1)) (k:=k) (by omega)
  unfold otX at g
  rw[e8,l9 hk] at g
  have e:=(a6 g).symm
  have bA:=hF k
  unfold zle at bA
  have x1:=Hq hr hm h0 hs Fl hlt (fun j=>(at0 F j).1) (W.map (·.1)) (by rw[m5];exact lW) (fun t ht=>by rw[(Ur W t).1,hwt t ht]) hk (by omega)
  have x2:=Hq hr hm h0 hs Fl hlt (fun j=>(at0 F j).2) (W.map (·.2)) (by rw[m5];exact lW) (fun t ht=>by rw[(Ur W t).2,hwt t ht]) hk (by omega)
  unfold otX
  rw[e]
  exact Prod.ext x1 x2
 unfold otV
 have:=tK sF
 rw[← e] at this
 unfold otX at this e
 rw[this,e]
end
theorem Xc(l:List (Nat×Nat))(L:Int)(t:List Int)(s b:Int):nE l L t s b=some true:=by
 unfold nE
 obtain⟨f,hf⟩:=Xt l
 rw[hf,a7]
 cases f with
 | false=>rw[b6 (by decide)]
 | true =>
 have hl0:=Xk hf
 rw[a9 (show true=true from rfl)]
 by_cases h1:(t.length:Int)>12
 ·rw[a9 (i7 h1)]
 have ht:t.length≤12:=by omega
 have n0:¬ decide ((0:Int)≠0)=true:=by decide
 rw[b6 (by simpa using h1),Xn l (by omega),a7,aAX,a7]
 by_cases hl:lE l=0
 rotate_left
 ·rw[a9 (by simpa using hl)]
 have G:=As hl
 have hl40:l.length≤40:=by have:=G.len;omega
 rw[b6 (by simpa using hl)]
 by_cases hc:chk L t=0
 rotate_left
 ·have e : iG L t s = some (chk L t) := by
    unfold iG
    rw[Th _ _ ht,a7,a9 (by simpa using hc)]
  rw[e,a7,a9 (by simpa using hc)]
 obtain⟨n,ts,rfl,rfl,hr⟩:=aCz ht hc
 have hL:=hr.most
 have h8:=pow8 hL
 have h2:=hr.two
 have h3:=rX hr
 rw[Pu s ht hc hL,a7]
 by_cases hs:1≤s∧s≤((2^n-1:Nat):Int)
 rotate_left
 ·rw[b6 hs,a9 (by decide)]
 rw[a9 hs,b6 n0]
 obtain⟨q,rfl⟩:∃ q:Nat,s=q:=⟨s.toNat,by omega⟩
 have q0:0<q:=by omega
 have q1:q<2^n:=by omega
 obtain⟨m,hp2,hm⟩:=Qn hr (s:=1) (by omega) h3
 rw[aDn hr hp2 hm,a7]
 by_cases h:m=2^n-1
 rotate_left
 ·rw[b6 (by simpa using h)]
 subst h
 have hM:Maxi n ts:=hp2
 rw[a9 (by simp)]
 rcases Xa G with e|⟨e,hz⟩
 ·rw[e,a7]
 rw[e,a7]
 have e4:(4:Nat)≤2^n:=j6 (n:=2) (by decide) h2
 have hN:1≤2^n-1∧2^n-1≤1024:=by omega
 have hFz:∀ k,zle 1200000 (at0 (fold (nums l) (2^n-1)) k):=fun k=>by
  have b:=aBW hz (by decide) (2^n-1) (nums l).length k
  have:((nums l).length:Int)*30000≤40*30000:=Int.mul_le_mul_of_nonneg_right (by rw[pY];omega) (by decide)
  exact Gd (by omega) b
 have sF:=Nu (fun k=>Gd (by decide) (hFz k))
 have lF:(fold (nums l) (2^n-1)).length=2^n-1:=by unfold fold;rw[Bu]
 have ln:=mF n ts q (2^n-1)
 have eF:mE l ((2^n-1:Nat):Int)=some ((fold (nums l) (2^n-1)).map oL,0):=by
  rw[Mu,Zr l _ hl (by omega),tK sF]
 have eE:kW l n (ints ts) q=some (rec (wgh (fold (nums l) (2^n-1)) (sgl n ts q (2^n-1)))):=by
  rw[Rs (s:=q) ht hl hc hr q0 q1]
  unfold exG
  rw[ln,tK sF,b6 (by simp)]
 try dsimp only
 rw[Ju hL,a7,a7,Pc _ _ (by omega),a7]
 try dsimp only
 rw[eE,a7]
 try dsimp only
 rw[a7,eF,a7]
 try dsimp only
 have lW:(wgh (fold (nums l) (2^n-1)) (sgl n ts q (2^n-1))).length=2^n-1:=by rw[zT,ln]
 rcases Ug (wgh (fold (nums l) (2^n-1)) (sgl n ts q (2^n-1))) with⟨e1,sW,e3⟩|⟨e1,e2⟩
 rotate_left
 ·rcases hR:rec (wgh (fold (nums l) (2^n-1)) (sgl n ts q (2^n-1))) with⟨z1,z2⟩
  rw[hR] at e1
  obtain rfl:z2=8:=e1
  try dsimp only
  rw[a9 (show decide ((8:Int)≠0)=true by decide),a9 (show decide ((8:Int)=8)=true by decide)]
  rfl
 have eU:=Np ht hc hr q0 q1 hM sF lF sW
 have same:fD ((fold (nums l) (2^n-1)).map oL) ((fold (nums l) (2^n-1)).map oL)=some true:=Wr _ (by rw[m5];omega) (fun p hp=>by
  obtain⟨x,hx,rfl⟩:=l5.1 hp
  exact⟨x,Kl (sF x hx)⟩)
 have eO:=fun (p r:Nat) (Fl:Fld p r (2^n-1)) (h1:2*(1200000:Int)<p) (h2:2^n<p)=>Rm ht hc hr q0 q1 hM (B:=1200000) (by decide) hFz lF sW Fl h1 h2
 rw[tK sW]
 generalize (fold (nums l) (2^n-1)).map oL=H at *
 generalize hY:(wgh (fold (nums l) (2^n-1)) (sgl n ts q (2^n-1))).map oL=Y at *
 have lY:Y.length=2^n-1:=by rw[← hY,m5];exact lW
 try dsimp only
 rw[b6 n0,b6 n0,aBb Y (by omega),a7,a7]
 try dsimp only
 rw[eU,a7]
 try dsimp only
 rw[b6 n0,same,a7,a9 (show true=true from rfl),tD,a7]
 by_cases hb:3000000≤b∧b≤1000000000
 rotate_left
 ·rw[b6 (by simpa using hb)]
 rw[a9 (i7 hb)]
 obtain⟨P,P1,P2,P3,P4⟩:=Wh ⟨h2,hL⟩
 obtain⟨p,r,eG,Fl,p1,p2⟩:=Ny (n:=2^n-1) (s:=b) (by omega) (by omega) P1 (by omega) P4
 rw[eG,a7]
 try dsimp only
 rw[b6 n0,Wj Fl,a7,b6 n0,a7]
 unfold sH
 rw[Pc _ _ (by omega),a7]
 try dsimp only
 rw[a7]
 try dsimp only
 rw[eO p r Fl (by omega) (by omega),a7]
 try dsimp only
 rw[a9 (show decide ((0:Int)=0)=true by decide),same,a7]
end Go.Rex
namespace Go.Rex
open Go Go.ChangeShapes Go.WideShapes Go.ChangeAt Go.RowKit Go.Joins Go.Proofs
structure Arg(W:World)(v':Value)(p:TV)(bs:List Blk)(is:List Info)(av:Nat→Value):Prop where
 vr:∀(D:Nat→Prop) (m:NMap) n,(∀ j,j<bs.length→D (n+j))→(∀(j:Nat) i,is[j]?=some i→m (n+j)=i)→VR D m (av n) v'
 vl:∀(Fz:Nat→Prop) (h:List Blk) n,(∀ j,j<bs.length→Fz (n+j))→(∀(j:Nat) b,bs[j]?=some b→h[n+j]?=some b)→VL Fz h noL p (av n)
 ok:∀(D:Nat→Prop) (m:NMap) n,(∀ j,j<bs.length→D (n+j))→(∀(j:Nat) i,is[j]?=some i→m (n+j)=i)→∀(j:Nat) b,bs[j]?=some b→BlkOk D m W (n+j) b
 lt:∀(j:Nat) b i,bs[j]?=some b→is[j]?=some i→b ≠ .dead→i.block<W.heap.size
 len:is.length=bs.length
structure Args(W:World)(vs':List Value)(ps:List TV)(bs:List Blk)(is:List Info)(av:Nat→List Value):Prop where
 vr:∀(D:Nat→Prop) (m:NMap) n,(∀ j,j<bs.length→D (n+j))→(∀(j:Nat) i,is[j]?=some i→m (n+j)=i)→VRs D m (av n) vs'
 vl:∀(Fz:Nat→Prop) (h:List Blk) n,(∀ j,j<bs.length→Fz (n+j))→(∀(j:Nat) b,bs[j]?=some b→h[n+j]?=some b)→VLs Fz h noL ps (av n)
 ok:∀(D:Nat→Prop) (m:NMap) n,(∀ j,j<bs.length→D (n+j))→(∀(j:Nat) i,is[j]?=some i→m (n+j)=i)→∀(j:Nat) b,bs[j]?=some b→BlkOk D m W (n+j) b
 lt:∀(j:Nat) b i,bs[j]?=some b→is[j]?=some i→b ≠ .dead→i.block<W.heap.size
 len:is.length=bs.length
def nm(is:List Info):NMap:=fun n=>is.getD n ⟨0,0,0,0⟩
section
variable {W:World} {vs':List Value} {ps:List TV} {bs:List Blk} {is:List Info} {av:Nat→List Value}
end
theorem len1{α:Type}{l:List α}(h:l.length=1):∃ x0,l=[x0]:=by
 match l,h with
 | [x0],_=>exact⟨_,rfl⟩
theorem len2{α:Type}{l:List α}(h:l.length=2):∃ x0 x1,l=[x0,x1]:=by
 match l,h with
 | [x0,x1],_=>exact⟨_,_,rfl⟩
theorem len3{α:Type}{l:List α}(h:l.length=3):∃ x0 x1 x2,l=[x0,x1,x2]:=by
 match l,h with
 | [x0,x1,x2],_=>exact⟨_,_,_,rfl⟩
def Qb(c:Value):Prop:=sL c=true∧∀ D m,VR D m c c
theorem xA(k:IntKind)(n:Int):Qb (.int k n):=⟨rfl,fun _ _=>.int _ _⟩
theorem Arg.atom{W:World}{v:Value}(h:Qb v):Arg W v (.v v) [] [] (fun _=>v):=
 ⟨fun _ _ _ _ _=>h.2 _ _,fun _ _ _ _ _=>.v _ _ h.1,fun _ _ _ _ _ j b h=>by simp at h,fun j b i h=>by simp at h,rfl⟩
theorem Eq{α β:Type}{g:α→List β}{es:Nat}(hg:∀ x,(g x).length=es)(he:0<es):∀(xs:List α) i,(xs.flatMap g)[i]?=(xs[i/es]?).bind fun x=>(g x)[i%es]?
 | [],i=>by simp
 | x::t,i=>by
  rw[List.flatMap_cons]
  rcases d5 i es with h|h
  ·rw[d4 (by rw[hg];exact h),Nat.div_eq_of_lt h,g6 h]
   rfl
  ·rw[d6 (by rw[hg];exact h),hg,Eq hg he t (i-es)]
   have e1:i/es=(i-es)/es+1:=by rw[Nat.div_eq_sub_div he h]
   have e2:i%es=(i-es)%es:=Nat.mod_eq_sub_mod h
   rw[e1,e2]
   rfl
theorem Cl{α β:Type}{g:α→List β}{es:Nat}(hg:∀ x,(g x).length=es):∀(xs:List α),(xs.flatMap g).length=xs.length*es
 | []=>by simp
 | x::t=>by rw[List.flatMap_cons,m7,hg,Cl hg t,List.length_cons,Nat.add_mul];omega
theorem Cf{α:Type}{f:α→List TV}{g:α→List Value}(hf:∀ x,f x=(g x).map .v):∀(xs:List α),(xs.map f).flatten=(xs.flatMap g).map .v
 | []=>rfl
 | x::t=>by rw[List.map_cons,List.flatten_cons,Cf hf t,List.flatMap_cons,List.map_append,hf]
theorem Cj{α:Type}{Q:Nat→α→Prop}:∀ n,(∀ i,i<n→∃ x,Q i x)→∃ xs:List α,xs.length=n∧∀(i:Nat) x,xs[i]?=some x→Q i x
 | 0,_=>⟨[],rfl,fun i x h=>by simp at h⟩
 | n+1,h=>by
  obtain⟨xs,hl,hq⟩:=Cj n (fun i hi=>h i (by omega))
  obtain⟨x,hx⟩:=h n (by omega)
  refine⟨xs++[x],by simp[hl],fun i y hy=>?_⟩
  rcases d5 i n with hi|hi
  ·rw[d4 (by omega)] at hy
   exact hq i y hy
  ·rw[d6 (by omega),hl] at hy
   have:i=n:=by
    rcases d5 0 (i-n) with g|g
    ·rw[j7 (by simp;omega)] at hy;cases hy
    ·omega
   subst this
   simp at hy
   subst hy
   exact hx
section
variable {H:Type} {enc:TypeId×Value→H} {W:World} {base:Nat} {spare:Nat→Bool} {held:Bool}
theorem Eg{α:Type}{f:α→List TV}{g:α→List Value}{es:Nat}(he:0<es)(hf:∀ x,f x=(g x).map .v)(hg:∀ x,(g x).length=es)(hat:∀ x,∀ c∈g x,Qb c)
 {P:Program} {t te:TypeId} (ht:P.underlying t=some (.slice te)) (hC:P.cellsOf te=es) {r:Reach} {b0:Nat} {v':Value} (hval:Cell.okWide P W r b0 t v')
 (elem:∀ n cs y,DataW.trod enc P W base spare held n te cs=some y→cs.length=es→∃ x:α,cs=g x)
 {fuel:Nat} {x:DataW H×List MemPlace} (h:DataW.trod enc P W base spare held fuel t [v']=some x):∃(xs:List α) (bs:List Blk) (is:List Info) (av:Nat→Value),Arg W v' (.list es (xs.map f)) bs is av:=by
 rcases DataW.trod_slice ht h with⟨hv,_⟩|⟨a,len,cap,elems,rest,n,_,hv,_,hb,hlc,hcm,hel,hel2,_,_⟩
 ·obtain rfl:v' = .slice none 0 0:=by simpa using hv
  exact⟨[],[],[],fun _=>.slice none 0 0,fun _ _ _ _ _=>.nilSlice 0 0,fun _ _ _ _ _=>.nillist _ _,fun _ _ _ _ _ j b h=>by simp at h,fun j b i h=>by simp at h,rfl⟩
 ·obtain rfl:v' = .slice (some a) len cap:=by simpa using hv
  have hok:len≤cap∧(cap:Int)≤IntKind.i64.max∧W.has P r b0 a te cap:=by
   unfold Cell.okWide at hval
   simp only[ht] at hval
   unfold Cell.ok at hval
   simpa only[ht] using hval
  obtain⟨gb,o,s⟩:=a
  obtain⟨_,_,_,hs,row,cells,hsh,_⟩:=hok
  simp only at hs hsh
  subst hs
  have hgb:gb<W.heap.size:=by
   unfold World.shape? at hsh
   rcases d5 gb W.heap.size with hg|hg
   ·exact hg
   ·rw[Array.getElem?_eq_none hg] at hsh
    simp at hsh
  have key:∀ i,i<len→∃ x:α,∀ j,j<es→W.cell? ⟨gb,o+i*es+j,none⟩=(g x)[j]?:=fun i hi=>by
   have h1:=hel2 i hi
   rw[b8 (by omega),Option.bind_eq_some_iff] at h1
   obtain⟨cs,hcs,htr⟩:=h1
   rw[hC] at hcs
   unfold World.cells? at hcs
   split at hcs
   ·have hlen:=mapM_some_length hcs
    simp at hlen
    obtain⟨x,rfl⟩:=elem n cs _ htr hlen
    refine⟨x,fun j hj=>?_⟩
    have:=mapM_some_get hcs j j (by simp[hj])
    have e:((⟨gb,o,none⟩:Addr).add (i*es)).add j=⟨gb,o+i*es+j,none⟩:=by
     unfold Addr.add
     split<;>split<;>simp_all
    rw[← e]
    exact this
   ·cases hcs
  obtain⟨xs,hl,hq⟩:=Cj len key
  subst hl
  have hlen:=Cl hg xs
  have hfl:=Cf hf xs
  refine⟨xs,[.cells es (xs.flatMap g)],[⟨gb,o,cap*es,es⟩],fun n=>.slice (some ⟨n,0,none⟩) xs.length xs.length,fun D m n hD hm=>?_,fun Fz h n hF hh=>?_,fun D m n hD hm j b hb=>?_,fun j b i hb hi hd=>?_,rfl⟩
  ·have e:=hm 0 _ rfl
   rw[Nat.add_zero] at e
   have:=VR.slice (D:=D) (m:=m) n 0 xs.length xs.length cap (hD 0 (by simp)) (b7 _) hlc (.inr (by rw[e];simp))
   rw[e] at this
   exact this
  ·have hw:∀ r∈xs.map f,r.length=es:=fun r hr=>by obtain⟨x,_,rfl⟩:=l5.1 hr;rw[hf,m5,hg]
   have:=VL.list (Fz:=Fz) (h:=h) noL es (xs.map f) n 0 xs.length (xs.flatMap g) es (hF 0 (by simp)) (hh 0 _ rfl) (.inl rfl) hw (by simp) (by rw[m5,hlen];omega) (fun j p x hp hx=>by
    rw[hfl,e8,d9] at hp
    rw[k7] at hx
    obtain⟨y,h1,rfl⟩:=hp
    obtain rfl:y=x:=a6 (h1.symm.trans hx)
    obtain⟨z,_,hz⟩:=List.mem_flatMap.1 (d7 hx)
    exact .v _ _ (hat z y hz).1)
   rw[m5] at this
   exact this
  ·match j,hb with
   | 0,hb =>
    obtain rfl:=a6 hb
    have e:=hm 0 _ rfl
    rw[Nat.add_zero] at e ⊢
    refine⟨by rw[e],fun i v hv=>⟨v,?_,?_⟩⟩
    ·rw[Eq hg he,Option.bind_eq_some_iff] at hv
     obtain⟨x,hx,hv⟩:=hv
     rw[e]
     have:=hq _ x hx (i%es) (i9 _ he)
     rw[i5,i8,Nat.div_add_mod] at this
     rw[this]
     exact hv
    ·obtain⟨z,_,hz⟩:=List.mem_flatMap.1 (d7 hv)
     exact (hat z v hz).2 _ _
   | j+1,hb=>simp at hb
  ·match j,hb,hi with
   | 0, hb, hi => obtain rfl := a6 hi
                  exact hgb
   | j+1,hb,hi=>simp at hb
theorem Wx{α:Type}{f:α→List TV}{g:α→List Value}{es:Nat}(he:0<es)(hf:∀ x,f x=(g x).map .v)(hg:∀ x,(g x).length=es)(hat:∀ x,∀ c∈g x,Qb c)
 {P:Program} {t te:TypeId} (ht:P.underlying t=some (.slice te)) (hC:P.cellsOf te=es) {r:Reach} {b0:Nat} {v':Value} (hval:Value.okWide P W r b0 t v')
 (elem:∀ n cs y,DataW.trod enc P W base spare held n te cs=some y→cs.length=es→∃ x:α,cs=g x)
 {fuel:Nat} {x:DataW H×List MemPlace} (h:DataW.trod enc P W base spare held fuel t [v']=some x):∃(xs:List α) (bs:List Blk) (is:List Info) (av:Nat→Value),Arg W v' (.list es (xs.map f)) bs is av:=by
 refine Eg he hf hg hat ht hC (r:=r) (b0:=b0) ?_ elem h
 unfold Value.okWide at hval
 simpa only[ht] using hval
def AI(cs:List Value):Prop:=∀ c∈cs,∃ n:Int,c = .int .i64 n
theorem AI.list{cs:List Value}(h:AI cs):∃ l:List Int,cs=l.map (.int .i64):=by
 induction cs with
 | nil=>exact⟨[],rfl⟩
 | cons c t ih =>
  obtain⟨n,rfl⟩:=h c (by simp)
  obtain⟨l,rfl⟩:=ih fun c hc=>h c (by simp[hc])
  exact⟨n::l,rfl⟩
variable {P:Program}
theorem aCC{te:TypeId}(ht:P.underlying te=some (.int .i64)){fuel:Nat}{cs:List Value}{x:DataW H×List MemPlace}(h:DataW.trod enc P W base spare held fuel te cs=some x):AI cs:=by
 obtain⟨n,rfl,_⟩:=DataW.trod_int ht h
 exact fun c hc=>⟨n,by simpa using hc⟩
theorem Lk{t:TypeId}(ht:P.underlying t=some (.int .i64)){r:Reach}{b:Nat}{v:Value}(w:Cell.okWide P W r b t v):∃ n:Int,v = .int .i64 n:=by
 unfold Cell.okWide at w
 simp only[ht] at w
 unfold Cell.ok at w
 simp only[ht] at w
 cases v<;>first|exact⟨_,by rw[w.1]⟩|exact absurd w (by simp)
theorem open_int{t:TypeId}(ht:P.underlying t=some (.int .i64)){r:Reach}{b:Nat}{v:Value}(w:Value.okWide P W r b t v):∃ n:Int,v = .int .i64 n:=by
 unfold Value.okWide at w
 simp only[ht] at w
 exact Lk ht w
theorem Sj{t:TypeId}{fs:Array Field}{ts:List TypeId}(ht:P.underlying t=some (.struct fs))(hct:P.cellTypes P.depth t=some ts)(hn:P.cellsOf t=ts.length){r:Reach}{b:Nat}{v:Value}(w:Value.okWide P W r b t v) :
 ∃ cs:List Value,v = .agg ⟨cs⟩∧cs.length=ts.length∧∀(j:Nat) c u,cs[j]?=some c→ts[j]?=some u→Cell.okWide P W r b u c:=by
 unfold Value.okWide at w
 simp only[ht] at w
 obtain⟨cs,rfl,hs,ts',hts,_,hc⟩:=w
 rw[hct] at hts
 obtain rfl:=a6 hts
 obtain⟨l⟩:=cs
 have hl:l.length=ts.length:=by simpa [hn] using hs
 refine⟨l,rfl,hl,fun j c u hj hu=>?_⟩
 obtain⟨u',hu',hok⟩:=hc j c (by simpa using hj)
 rw[g6 (by have:=(a8.1 hj).1;omega)] at hu'
 obtain rfl:=a6 (hu.symm.trans hu')
 exact hok
theorem Nw{t:TypeId}{fs:Array Field}{i:Nat}{f:Field}(ht:P.underlying t=some (.struct fs))(hf:fs[i]?=some f){fuel:Nat}{cs:List Value}{x:DataW H×List MemPlace}(h:DataW.trod enc P W base spare held fuel t cs=some x) :
 ∃ n y,DataW.trod enc P W base spare held n f.type ((cs.drop f.offset).take (P.cellsOf f.type))=some y:=by
 obtain⟨xs,n,_,_,hl,hx,hi⟩:=DataW.trod_struct ht h
 have:=hi i f hf
 have hil:i<fs.size:=(Array.getElem?_eq_some_iff.1 hf).1
 rw[b8 (by omega)] at this
 exact⟨n,_,this⟩
end
end Go.Rex
namespace Go.Rex
open Go Go.ChangeShapes Go.WideShapes Go.ChangeAt Go.RowKit Go.Joins Go.Proofs
structure NArg(W:World)(v':Value)(p:TV)(bs:Nat→List Blk)(is:List Info)(av:Nat→Value):Prop where
 vr:∀(D:Nat→Prop) (m:NMap) n,(∀ j,j<is.length→D (n+j))→(∀(j:Nat) i,is[j]?=some i→m (n+j)=i)→VR D m (av n) v'
 vl:∀(Fz:Nat→Prop) (h:List Blk) n,(∀ j,j<is.length→Fz (n+j))→(∀(j:Nat) b,(bs n)[j]?=some b→h[n+j]?=some b)→VL Fz h noL p (av n)
 ok:∀(D:Nat→Prop) (m:NMap) n,(∀ j,j<is.length→D (n+j))→(∀(j:Nat) i,is[j]?=some i→m (n+j)=i)→∀(j:Nat) b,(bs n)[j]?=some b→BlkOk D m W (n+j) b
 lt:∀ n (j:Nat) b i,(bs n)[j]?=some b→is[j]?=some i→b ≠ .dead→i.block<W.heap.size
 len:∀ n,(bs n).length=is.length
structure NArgs(W:World)(vs':List Value)(ps:List TV)(bs:Nat→List Blk)(is:List Info)(av:Nat→List Value):Prop where
 vr:∀(D:Nat→Prop) (m:NMap) n,(∀ j,j<is.length→D (n+j))→(∀(j:Nat) i,is[j]?=some i→m (n+j)=i)→VRs D m (av n) vs'
 vl:∀(Fz:Nat→Prop) (h:List Blk) n,(∀ j,j<is.length→Fz (n+j))→(∀(j:Nat) b,(bs n)[j]?=some b→h[n+j]?=some b)→VLs Fz h noL ps (av n)
 ok:∀(D:Nat→Prop) (m:NMap) n,(∀ j,j<is.length→D (n+j))→(∀(j:Nat) i,is[j]?=some i→m (n+j)=i)→∀(j:Nat) b,(bs n)[j]?=some b→BlkOk D m W (n+j) b
 lt:∀ n (j:Nat) b i,(bs n)[j]?=some b→is[j]?=some i→b ≠ .dead→i.block<W.heap.size
 len:∀ n,(bs n).length=is.length
theorem Arg.n{W:World}{v':Value}{p:TV}{bs:List Blk}{is:List Info}{av:Nat→Value}(a:Arg W v' p bs is av):NArg W v' p (fun _=>bs) is av:=
 ⟨fun D m n hD hm=>a.vr D m n (by rw[← a.len];exact hD) hm,fun Fz h n hF hh=>a.vl Fz h n (by rw[← a.len];exact hF) hh,fun D m n hD hm=>a.ok D m n (by rw[← a.len];exact hD) hm,fun _=>a.lt,fun _=>a.len.symm⟩
theorem NArgs.nil(W:World):NArgs W [] [] (fun _=>[]) [] (fun _=>[]):=
 ⟨fun _ _ _ _ _=>⟨rfl,fun i a a' h=>by simp at h⟩,fun _ _ _ _ _=>.nil,fun _ _ _ _ _ j b h=>by simp at h,fun _ j b i h=>by simp at h,fun _=>rfl⟩
theorem NArgs.cons{W:World}{v':Value}{p:TV}{bs bs2:Nat→List Blk}{is is2:List Info}{av:Nat→Value}{vs':List Value}{ps:List TV}{avs:Nat→List Value}
 (a:NArg W v' p bs is av) (az:NArgs W vs' ps bs2 is2 avs):NArgs W (v'::vs') (p::ps) (fun n=>bs n++bs2 (n+is.length)) (is++is2) (fun n=>av n::avs (n+is.length)):=by
 have cD:∀(D:Nat→Prop) n,(∀ j,j<(is++is2).length→D (n+j))→(∀ j,j<is.length→D (n+j))∧(∀ j,j<is2.length→D (n+is.length+j)):=by
  intro D n h
  refine⟨fun j hj=>h j (by simp;omega),fun j hj=>?_⟩
  have:=h (is.length+j) (by simp;omega)
  rwa [← i5] at this
 have cI:∀(m:NMap) n,(∀(j:Nat) i,(is++is2)[j]?=some i→m (n+j)=i)→(∀(j:Nat) i,is[j]?=some i→m (n+j)=i)∧(∀(j:Nat) i,is2[j]?=some i→m (n+is.length+j)=i):=by
  intro m n h
  refine⟨fun j i hj=>h j i (by rw[d4 (a8.1 hj).1];exact hj),fun j i hj=>?_⟩
  have:=h (is.length+j) i (by rw[d6 (by omega),Nat.add_sub_cancel_left];exact hj)
  rwa [← i5] at this
 refine⟨fun D m n hD hm=>?_,fun Fz h n hF hh=>?_,fun D m n hD hm j b hb=>?_,fun n j b i hb hi hd=>?_,fun n=>by simp[a.len,az.len]⟩
 ·have h1:=a.vr D m n (cD D n hD).1 (cI m n hm).1
  have h2:=az.vr D m (n+is.length) (cD D n hD).2 (cI m n hm).2
  refine⟨by simp[h2.len],fun i x x' hx hx'=>?_⟩
  cases i with
  | zero=>simp at hx hx';subst hx hx';exact h1
  | succ i=>simp at hx hx';exact h2.at' i x x' hx hx'
 ·refine .cons (a.vl Fz h n (cD Fz n hF).1 fun j b hb=>hh j b (by rw[d4 (a8.1 hb).1];exact hb)) (az.vl Fz h (n+is.length) (cD Fz n hF).2 fun j b hb=>?_)
  have:=hh (is.length+j) b (by rw[d6 (by rw[a.len];omega),a.len,Nat.add_sub_cancel_left];exact hb)
  rwa [← i5] at this
 ·rcases d5 j is.length with hj|hj
  ·rw[d4 (by rw[a.len];exact hj)] at hb
   exact a.ok D m n (cD D n hD).1 (cI m n hm).1 j b hb
  ·rw[d6 (by rw[a.len];exact hj),a.len] at hb
   have:=az.ok D m (n+is.length) (cD D n hD).2 (cI m n hm).2 _ b hb
   rwa [show n+is.length+(j-is.length)=n+j by omega] at this
 ·rcases d5 j is.length with hj|hj
  ·rw[d4 (by rw[a.len];exact hj)] at hb
   rw[d4 hj] at hi
   exact a.lt n j b i hb hi hd
  ·rw[d6 (by rw[a.len];exact hj),a.len] at hb
   rw[d6 hj] at hi
   exact az.lt _ _ b i hb hi hd
section
variable {W:World} {vs':List Value} {ps:List TV} {bs:Nat→List Blk} {is:List Info} {av:Nat→List Value}
def gnm(is:List Info):NMap:=fun k=>if k<NG then gm k else is.getD (k-NG) ⟨0,0,0,0⟩
theorem Rx{is:List Info}{j:Nat}{i:Info}(h:is[j]?=some i):gnm is (NG+j)=i:=by
 unfold gnm
 rw[b6 (by omega),Nat.add_sub_cancel_left,i4,h]
 rfl
theorem Ax:GH.length=NG:=rfl
theorem NArgs.rel(a:NArgs W vs' ps bs is av)(hw:GW W)(hs:NG≤W.heap.size):Rel W.heap.size (GH++bs NG).length (fun k=>k<(GH++bs NG).length) (gnm is) (GH++bs NG) W:=by
 have hl:=a.len NG
 have hn:(GH++bs NG).length=NG+is.length:=by rw[m7,Ax,hl]
 have old:∀ k,k<NG→gnm is k=gm k:=fun k hk=>a9 hk
 have parts:∀ n b,n<(GH++bs NG).length→(GH++bs NG)[n]?=some b→(n<NG∧GH[n]?=some b)∨∃ j,n=NG+j∧(bs NG)[j]?=some b:=by
  intro n b hn' hb
  rcases d5 n NG with h|h
  ·rw[d4 h] at hb;exact .inl ⟨h,hb⟩
  ·rw[d6 h,Ax] at hb;exact .inr ⟨n-NG,by omega,hb⟩
 have st:=Rel.start W hw hs
 have lt:∀ n b,n<(GH++bs NG).length→(GH++bs NG)[n]?=some b→b ≠ .dead→(gnm is n).block<W.heap.size:=by
  intro n b hn' hb hd
  rcases parts n b hn' hb with⟨h1,h2⟩|⟨j,rfl,h2⟩
  ·rw[old n h1];exact st.lt n b h1 h2 hd
  ·have hj:j<is.length:=by omega
   rw[Rx (b8 hj)]
   exact a.lt NG j b _ h2 (b8 hj) hd
 refine⟨b7 _,fun _ h=>h,fun n b hn' hb=>?_,lt,fun n b hD hl=>absurd hD (by omega),fun n b hn' _ hb hd=>lt n b hn' hb hd,fun n b hD hl=>absurd hD (by omega),fun n n' b b' hD _ hl=>absurd hD (by omega),⟨fun g hg=>⟨?_,?_⟩,hs,hw⟩⟩
 ·rcases parts n b hn' hb with⟨h1,h2⟩|⟨j,rfl,h2⟩
  ·exact (st.ok n b h1 h2).mono (fun k hk=>by have hk':k<NG:=hk;show k<(GH++bs NG).length;omega) (fun k hk=>old k hk) (old n h1)
  ·exact a.ok (fun k=>k<(GH++bs NG).length) (gnm is) NG (fun j hj=>by omega) (fun j i hi=>Rx hi) j b h2
 ·show g<(GH++bs NG).length;omega
 ·rw[old g hg];exact Jj g
theorem NArgs.vls(a:NArgs W vs' ps bs is av):VLs (fun k=>k<(GH++bs NG).length) (GH++bs NG) noL ps (av NG):=by
 have hn:(GH++bs NG).length=NG+is.length:=by rw[m7,Ax,a.len NG]
 exact a.vl _ _ NG (fun j hj=>by omega) (fun j b hb=>by rw[d6 (by rw[Ax];omega),Ax,Nat.add_sub_cancel_left];exact hb)
theorem NArgs.fz(_a:NArgs W vs' ps bs is av):FZ (fun k=>k<(GH++bs NG).length) (GH++bs NG):=
 ⟨fun _ h=>h,fun g hg=>by
  have h1:g<GH.length:=hg
  exact⟨by rw[m7];omega,d4 h1⟩⟩
theorem NArgs.vrs(a:NArgs W vs' ps bs is av):VRs (fun k=>k<(GH++bs NG).length) (gnm is) (av NG) vs':=by
 have hn:(GH++bs NG).length=NG+is.length:=by rw[m7,Ax,a.len NG]
 exact a.vr _ _ NG (fun j hj=>by omega) (fun j i hi=>Rx hi)
theorem NArg.ofArgs(a:NArgs W vs' ps bs is av):NArg W (.agg ⟨vs'⟩) (.agg ps) bs is (fun n=>.agg ⟨av n⟩):=
 ⟨fun D m n hD hm=>.agg' (a.vr D m n hD hm),fun Fz h n hF hh=>.agg' (a.vl Fz h n hF hh),a.ok,a.lt,a.len⟩
end
section
variable {H:Type} {enc:TypeId×Value→H} {W:World} {base:Nat} {spare:Nat→Bool} {held:Bool}
end
section
variable {H:Type} {enc:TypeId×Value→H} {W:World} {base:Nat} {spare:Nat→Bool} {held:Bool}
end
theorem Mq(k:FloatKind)(b:Nat):Qb (.float k b):=⟨rfl,fun _ _=>.float _ _ _ .refl⟩
theorem Rt{H:Type}{enc:TypeId×Value→H}{P:Program}{w:World}{base:Nat}{spare:Nat→Bool}{held:Bool}{fuel:Nat}{t:TypeId}{cs:List Value}{x:DataW H×List MemPlace}{k:FloatKind}(ht:P.underlying t=some (.float k))(h:DataW.trod enc P w base spare held fuel t cs=some x):∃ b,cs=[.float k b]:=by
 cases fuel with
 | zero=>simp[DataW.trod] at h
 | succ n =>
  unfold DataW.trod at h
  rw[ht] at h
  split at h<;>simp_all
section
variable {H:Type} {enc:TypeId×Value→H} {W:World} {base:Nat} {spare:Nat→Bool} {held:Bool} {P:Program} {k0:FloatKind}
def AF(k0:FloatKind)(cs:List Value):Prop:=∀ c∈cs,∃ b:Nat,c = .float k0 b
theorem AF.list{cs:List Value}(h:AF k0 cs):∃ l:List Nat,cs=l.map (.float k0):=by
 induction cs with
 | nil=>exact⟨[],rfl⟩
 | cons c t ih =>
  obtain⟨n,rfl⟩:=h c (by simp)
  obtain⟨l,rfl⟩:=ih fun c hc=>h c (by simp[hc])
  exact⟨n::l,rfl⟩
theorem aAC{te:TypeId}(ht:P.underlying te=some (.float k0)){fuel:Nat}{cs:List Value}{x:DataW H×List MemPlace}(h:DataW.trod enc P W base spare held fuel te cs=some x):AF k0 cs:=by
 obtain⟨n,rfl⟩:=Rt ht h
 exact fun c hc=>⟨n,by simpa using hc⟩
theorem aCS{t e:TypeId}{m k:Nat}(ht:P.underlying t=some (.array m e))(hk:P.cellsOf e=k)(hk0:0<k)(hc:P.cellsOf t=m*k)(he:∀ n cs y,DataW.trod enc P W base spare held n e cs=some y→AF k0 cs)
 {fuel:Nat} {cs:List Value} {x:DataW H×List MemPlace} (h:DataW.trod enc P W base spare held fuel t cs=some x):AF k0 cs:=by
 obtain⟨xs,n,_,_,hl,hx,hi⟩:=DataW.trod_array ht h
 intro c hcm
 obtain⟨j,hj,rfl⟩:=List.mem_iff_getElem.1 hcm
 rw[hl,hc] at hj
 have hd:j/k<m:=(Nat.div_lt_iff_lt_mul hk0).2 hj
 have h1:=hi _ hd
 rw[b8 (by omega),hk] at h1
 refine he _ _ _ h1 _ ?_
 refine d7 (i:=j%k) ?_
 rw[m6,a9 (i9 _ hk0),m4,i8,Nat.div_add_mod,b8]
end
end Go.Rex
