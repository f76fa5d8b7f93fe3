/- What these functions return: facts on lists and numbers. -/
import Derived.Test.YtdlghpacmamnfaaRexG9
import Derived.Test.YtdlghpacmamnfaaRexG10
import Derived.Test.YtdlghpacmamnfaaS
import Derived.ProofKit
import Derived.OpenShut
import Derived.ShutString
import Derived.ChangeOld
import Derived.Below
import Derived.Lib.SmallJoins
import Derived.ChangeShapes
import Derived.ChangeArms
import Derived.WideShapes
set_option linter.unusedSimpArgs false
set_option linter.unusedVariables false
set_option linter.defProp false
set_option linter.unusedSectionVars false
namespace Go.Rex
theorem w64{x:Int}(h:-9223372036854775808≤x∧x≤9223372036854775807):IntKind.i64.wrap x=x:=IntWalk.i64_in x (by omega)
theorem jD{σ ε:Type}{step:σ→Option (σ ⊕ ε)}(f:Nat→σ){n:Nat}{e:ε}(h:∀ k,k<n→step (f k)=some (.inl (f (k+1))))(hn:step (f n)=some (.inr e)):run step (f 0)=some e:=by
 suffices H:∀ j k,n-k=j→k≤n→run step (f k)=some e from H n 0 (by omega) (f0 _)
 intro j
 induction j with
 | zero => intro k hj hk; obtain rfl : k = n := by omega
           exact gT hn
 | succ j ih=>intro k hj hk;rw[kL (h k (by omega))];exact ih (k+1) (by omega) (by omega)
theorem pP{σ ε:Type}{step:σ→Option (σ ⊕ ε)}(f:Nat→σ){m:Nat}{e:ε}(h:∀ k,k<m→step (f k)=some (.inl (f (k+1))))(hm:step (f m)=some (.inr e)):run step (f 0)=some e:=jD f h hm
theorem yM{α:Type}{xs:List α}{k:Nat}:kB xs (k:Int)=xs[k]?:=by
 unfold kB
 rw[b8 (by omega),Int.toNat_natCast]
theorem zB{α:Type}{b:Nat}{xs:List α}{y:α}(h:xs.length<2^40)(hb:b≤128):wM b xs [y]=some (xs++[y]):=by
 unfold wM
 rw[b8]
 refine⟨by simp;omega,?_⟩
 have h1:(xs.length+[y].length)*b≤2^40*128:=Nat.mul_le_mul (by simp;omega) hb
 omega
end Go.Rex
open Go Go.Rex
namespace Go.Rex
set_option maxRecDepth 100000
theorem wsucc{k:Nat}{n:Nat}(h:k≤n)(hn:n≤2^62):IntKind.i64.wrap ((k:Int)+1)=((k+1:Nat):Int):=by rw[w64 (by omega)];omega
def aJ{ε:Type}(p:Nat→Option ε)(n:Nat):Option ε:=(List.range n).findSome? p
theorem firstOf_none{ε:Type}{p:Nat→Option ε}{n:Nat}:aJ p n=none↔∀ k,k<n→p k=none:=by
 unfold aJ
 rw[List.findSome?_eq_none_iff]
 constructor
 ·intro h k hk;exact h k (List.mem_range.2 hk)
 ·intro h k hk;exact h k (List.mem_range.1 hk)
theorem eD{ε:Type}{p:Nat→Option ε}{n:Nat}:aJ p (n+1)=match aJ p n with|some e=>some e|none=>p n:=by
 unfold aJ
 rw[List.range_succ,List.findSome?_append]
 cases h:List.findSome? p (List.range n) with
 | some e=>rfl
 | none=>simp
theorem oM{ε δ:Type}{step:Int→Option (Int ⊕ (ε ⊕ δ))}{n:Nat}{p:Nat→Option ε}{r:δ}
 (h:∀ k:Nat,k<n→(∀ j,j<k→p j=none)→step (k:Int)=some (match p k with|none=>.inl ((k+1:Nat):Int)|some e=>.inr (.inl e))) (he:(∀ j,j<n→p j=none)→step (n:Int)=some (.inr (.inr r))):run step 0=some (match aJ p n with|some e=>.inl e|none=>.inr r):=by
 suffices H:∀ m,m≤n→aJ p m=none→run step 0=run step (m:Int) by
  cases hf:aJ p n with
  | none =>
   simp only
   rw[H n (a9 _) hf]
   exact gT (he (firstOf_none.1 hf))
  | some e =>
   simp only
   have:∃ m,m<n∧aJ p m=none∧p m=some e:=by
    clear h he H
    induction n with
    | zero=>simp[aJ] at hf
    | succ n ih =>
     rw[eD] at hf
     cases hn:aJ p n with
     | none=>rw[hn] at hf;exact⟨n,by omega,hn,hf⟩
     | some e'=>rw[hn] at hf;cases hf;obtain⟨m,h1,h2⟩:=ih hn;exact⟨m,by omega,h2⟩
   obtain⟨m,hm,h1,h2⟩:=this
   rw[H m (by omega) h1]
   have:=h m hm (firstOf_none.1 h1)
   rw[h2] at this
   exact gT this
 intro m
 induction m with
 | zero=>intro _ _;rfl
 | succ m ih =>
  intro hm hf
  have hf':=firstOf_none.1 hf
  rw[ih (by omega) (firstOf_none.2 fun k hk=>hf' k (by omega))]
  have:=h m (by omega) (fun j hj=>hf' j (by omega))
  rw[hf' m (by omega)] at this
  exact kL this
def iter{β:Type}(g:Nat→β→β):Nat→β→β
 | 0,b=>b
 | k+1,b=>g k (iter g k b)
theorem getI_lt'{α:Type}{l:List α}{k:Nat}(h:k<l.length):kB l (k:Int)=some l[k]:=by
 rw[yM];exact b5 h
end Go.Rex
open Go Go.Rex
set_option maxRecDepth 100000
namespace Go.Rex
theorem qB{x y:Int}(hy:0<y):x.tmod y=if x.tmod y<0 then x%y-y else x%y:=by
 have h1:=Int.tmod_lt_of_pos x hy
 have h2:-y<x.tmod y:=by
  have h3:=Int.natAbs_tmod x y
  have h4:(x.tmod y).natAbs<y.natAbs:=by rw[h3];exact Nat.mod_lt _ (by omega)
  omega
 have hdm:=Int.tmod_add_mul_tdiv x y
 split
 ·have : x % y = x.tmod y + y := by
    have e:x=(x.tmod y+y)+y*(x.tdiv y-1):=by rw[Int.mul_sub,Int.mul_one];omega
    rw[e,Int.add_mul_emod_self_left,Int.emod_eq_of_lt (by omega) (by omega)]
    rw[← e]
  omega
 ·have : x % y = x.tmod y := by
    conv=>lhs;rw[← hdm]
    rw[Int.add_mul_emod_self_left,Int.emod_eq_of_lt (by omega) (by omega)]
  omega
theorem wX{x y:Int}(hy:0<y):x.tdiv y=if x.tmod y<0 then x/y+1 else x/y:=by
 have hdm:=Int.tmod_add_mul_tdiv x y
 have h1:=Int.emod_add_mul_ediv x y
 have h2:=qB (x:=x) hy
 refine Int.eq_of_mul_eq_mul_left (show y≠0 by omega) ?_
 split
 ·rename_i h
  rw[b8 h] at h2
  rw[Int.mul_add,Int.mul_one]
  omega
 ·rename_i h
  rw[d5 h] at h2
  omega
theorem vG{x y b:Int}(hy:0<y)(hb:0≤b)(h:-b≤x∧x≤b):-b≤x/y∧x/y≤b:=by
 have h1:=Int.emod_add_mul_ediv x y
 have h2:=Int.emod_nonneg x (show y≠0 by omega)
 have h3:=Int.emod_lt_of_pos x hy
 constructor
 ·refine Int.le_ediv_of_mul_le hy ?_
  have:-b*y≤-b*1:=Int.mul_le_mul_of_nonpos_left (by omega) (by omega)
  omega
 ·refine Int.ediv_le_of_le_mul hy ?_
  have:b*1≤b*y:=Int.mul_le_mul_of_nonneg_left (by omega) hb
  omega
theorem wP{x y:Int}(hy:0<y)(hx:-9223372036854775807≤x∧x≤9223372036854775807):fM x y=some (x/y):=by
 unfold fM
 rw[d5 (by omega)]
 have hb:=vG (x:=x) (b:=9223372036854775807) hy (by omega) (by omega)
 have ht:=wX (x:=x) hy
 by_cases h:x.tmod y<0
 ·rw[b8 h] at ht
  have hb2:x<0:=by
   rcases Int.lt_or_le x 0 with hx|hx
   ·exact hx
   ·have:=Int.tmod_nonneg y hx;omega
  have hb3:x/y<0:=Int.ediv_neg_of_neg_of_pos hb2 hy
  rw[b8 (by simpa using h),ht,w64 (x:=x/y+1) (by omega),w64 (by omega)]
  congr 1
  omega
 ·rw[d5 h] at ht
  rw[d5 (by simpa using h),ht,w64 (by omega)]
theorem wH{x y:Int}(hy:0<y)(hy2:y≤1000000)(hx:-1000000000000≤x∧x≤1000000000000):dW x y=some (x/y):=by
 unfold dW
 rw[d5 (by omega)]
 have t1:=qB (x:=x) hy
 have r1:=Int.emod_nonneg x (show y≠0 by omega)
 have r2:=Int.emod_lt_of_pos x hy
 have t2:(x.tmod y+y).tmod y=x%y:=by
  by_cases c:x.tmod y<0
  ·rw[b8 c] at t1
   rw[t1,show x%y-y+y=x%y by omega,Int.tmod_eq_emod_of_nonneg r1,Int.emod_eq_of_lt r1 r2]
  ·rw[d5 c] at t1
   rw[t1,Int.tmod_eq_emod_of_nonneg (by omega),Int.add_emod_right,Int.emod_emod]
 have t3:-1000000≤x.tmod y∧x.tmod y≤1000000:=by
  by_cases c:x.tmod y<0
  ·rw[b8 c] at t1;omega
  ·rw[d5 c] at t1;omega
 rw[w64 (x:=x.tmod y+y) (by omega),t2,w64 (x:=x-x%y) (by omega)]
 have e:x-x%y=y*(x/y):=by have:=Int.emod_add_mul_ediv x y;omega
 have hb:=vG (x:=x) (b:=1000000000000) hy (by omega) (by omega)
 rw[e,Int.mul_tdiv_cancel_left _ (by omega),w64 (by omega)]
theorem gD{l:List Int}{k:Nat}(h:k<l.length):l.getD k 0=l[k]:=by simp[List.getD,h]
def cl3(q:Int):Int:=if q < -32767 then -32767 else if 32767<q then 32767 else q
def nx(d e:Int)(p:Int×Int):Int×Int:=(cl3 ((2*(0-d*p.1-e*p.2)+16384)/32768),p.1)
theorem Be(q:Int):-32767≤cl3 q∧cl3 q≤32767:=by unfold cl3;split<;>(try split)<;>omega
theorem qR{a b:Int}(ha:-32768≤a∧a≤32768)(hb:-32767≤b∧b≤32767):-1073741824≤a*b∧a*b≤1073741824:=by
 have h1:a.natAbs≤32768:=by omega
 have h2:b.natAbs≤32768:=by omega
 have h3:(a*b).natAbs≤32768*32768:=by rw[Int.natAbs_mul];exact Nat.mul_le_mul h1 h2
 omega
theorem zX{a b c d e p q:Int}(hd:-32768≤d∧d≤32768)(he:-32768≤e∧e≤32768)(hp:-32767≤p∧p≤32767)(hq:-32767≤q∧q≤32767) :
 ∃ x y,aX a b c d e 0 0 p q 0=some (x,y,a,b,c,d,e,0,0,(nx d e (p,q)).1,(nx d e (p,q)).2):=by
 have h1:=qR hd hp
 have h2:=qR he hq
 unfold aX dX nx
 simp only[Int.mul_zero,show IntKind.i64.wrap 0=0 from rfl,Int.add_zero]
 generalize d*p=u at *
 generalize e*q=v at *
 rw[w64 (x:=u) (by omega),w64 (x:=v) (by omega),w64 (x:=0-u) (by omega),w64 (x:=0-u-v) (by omega),w64 (x:=2*(0-u-v)) (by omega),w64 (x:=2*(0-u-v)+16384) (by omega),w64 (x:=2*16384) (by omega),wH (by omega) (by omega) (by omega)]
 simp only[Option.bind_some]
 generalize hw:(2*(0-u-v)+16384)/(2*16384)=w
 have hw':(2*(0-u-v)+16384)/32768=w:=hw
 rw[hw']
 have:(if (if 32767<w then 32767 else w)>(-32767) then (if 32767<w then 32767 else w) else (-32767))=cl3 w:=by
  unfold cl3
  split<;>split<;>(try split)<;>omega
 rw[this]
 exact⟨_,_,rfl⟩
theorem iT(v:Int):bX v=some (decide (-32767≤v∧v≤32767)):=by
 unfold bX dU
 by_cases h:(-32767:Int)≤v
 ·simp[h]
 ·simp[h]
theorem yQ{a b c d e p q:Int}(hd:-32768≤d∧d≤32768)(he:-32768≤e∧e≤32768)(hp:-32767≤p∧p≤32767)(hq:-32767≤q∧q≤32767) :
 ∃ x y,bC a b c d e 0 0 p q 0=some (x,y,0,0,(nx d e (p,q)).1,(nx d e (p,q)).2):=by
 have h1:=qR hd hp
 have h2:=qR he hq
 unfold bC nx
 simp only[Int.mul_zero,show IntKind.i64.wrap 0=0 from rfl,Int.add_zero]
 generalize d*p=u at *
 generalize e*q=v at *
 rw[w64 (x:=u) (by omega),w64 (x:=v) (by omega),w64 (x:=0-u) (by omega),w64 (x:=0-u-v) (by omega),w64 (x:=2*(0-u-v)) (by omega),w64 (x:=2*(0-u-v)+16384) (by omega),wP (by omega) (by omega)]
 simp only[Option.bind_some,iT]
 generalize hw:(2*(0-u-v)+16384)/32768=w
 have:(if (if w<32767 then w else 32767)>(-32767) then (if w<32767 then w else 32767) else (-32767))=cl3 w:=by
  unfold cl3
  split<;>split<;>(try split)<;>omega
 rw[this]
 exact⟨_,_,rfl⟩
def Yn(d e:Int)(y:Int×Int):Nat→Int×Int
 | 0=>y
 | n+1=>nx d e (Yn d e y n)
theorem vU{d e:Int}{y:Int×Int}(h1:-32767≤y.1∧y.1≤32767)(h2:-32767≤y.2∧y.2≤32767):∀ n,(-32767≤(Yn d e y n).1∧(Yn d e y n).1≤32767)∧(-32767≤(Yn d e y n).2∧(Yn d e y n).2≤32767)
 | 0=>⟨h1,h2⟩
 | n+1=>⟨Be _,(vU h1 h2 n).1⟩
def seen(Y:Nat→Int×Int)(n:Nat):Option Nat:=aJ (fun i=>if Y i=Y n then some i else none) n
def fnd(Y:Nat→Int×Int)(n:Nat):Option (Int×Int):=(seen Y n).map fun (i:Nat)=>((i:Int),(n:Int)-(i:Int))
theorem firstOf_some'{ε:Type}{p:Nat→Option ε}{e:ε}:∀ {n:Nat},aJ p n=some e→∃ m,m<n∧(∀ j,j<m→p j=none)∧p m=some e
 | 0,h=>by simp[aJ] at h
 | n+1,h=>by
  rw[eD] at h
  cases hn:aJ p n with
  | none=>rw[hn] at h;exact⟨n,by omega,firstOf_none.1 hn,h⟩
  | some e'=>rw[hn] at h;cases h;obtain⟨m,h1,h2⟩:=firstOf_some' hn;exact⟨m,by omega,h2⟩
theorem tB{l:List Int}{b:Int}(hb:0≤b∧b≤1000000)(hl:l.length≤1000):bZ l b=some (if ∀ x∈l,-b≤x∧x≤b then 0 else 2):=by
 unfold bZ
 rw[oM (n:=l.length) (p:=fun k=>if -b≤l.getD k 0∧l.getD k 0≤b then none else some ()) (r:=()) ?_ ?_]
 ·cases hf:aJ (fun k=>if -b≤l.getD k 0∧l.getD k 0≤b then none else some ()) l.length with
  | none =>
   have h:=firstOf_none.1 hf
   rw[b8]
   ·rfl
   ·intro x hx
    obtain⟨k,hk,rfl⟩:=List.getElem_of_mem hx
    have:=h k hk
    rw[gD hk] at this
    by_cases q:-b≤l[k]∧l[k]≤b
    ·exact q
    ·rw[d5 q] at this;cases this
  | some e =>
   obtain⟨m,h1,h2,h3⟩:=firstOf_some' hf
   rw[d5]
   ·rfl
   ·intro h
    rw[gD h1] at h3
    rw[b8 (h _ (List.getElem_mem h1))] at h3
    cases h3
 ·intro k hk _
  unfold bW
  rw[b8 (by simpa using hk),getI_lt' hk,d9]
  simp only[gD hk]
  unfold eC
  rw[w64 (x:=0-b) (by omega),wsucc (n:=1000) (by omega) (by omega)]
  by_cases q1:-b≤l[k]
  ·by_cases q2:l[k]≤b
   ·simp[show (0-b≤l[k]) by omega,q1,q2]
   ·simp[show (0-b≤l[k]) by omega,q1,q2]
  ·simp[show ¬(0-b≤l[k]) by omega,q1]
 ·intro _
  unfold bW
  rw[d5 (by simp)]
theorem wV(a b:Int):cE [a,b]=some (if a≠0 then a else b):=by
 unfold cE
 by_cases ha:a=0
 ·subst ha
  rw[kL (s':=1) (by rfl)]
  by_cases hb:b=0
  ·subst hb
   rw[kL (s':=2) (by rfl),gT (e:=.inr ()) (by rfl)]
   rfl
  ·rw[gT (e:=.inl b) (by unfold bJ;rw[b8 (by simp)];simp[kB,hb])]
   rfl
 ·rw[gT (e:=.inl a) (by unfold bJ;rw[b8 (by simp)];simp[kB,ha])]
  simp[ha]
theorem wU(a b c d e:Int):bV a b c d e=some (if ∀ x∈[a,b,c,d,e],-32768≤x∧x≤32768 then 0 else 2):=by
 unfold bV
 generalize hl:([a,b,c,d,e]:List Int)=l
 have hlen:l.length=5:=by rw[← hl];rfl
 rw[oM (n:=5) (p:=fun k=>if -32768≤l.getD k 0∧l.getD k 0≤32768 then none else some ()) (r:=()) ?_ ?_]
 ·cases hf:aJ (fun k=>if -32768≤l.getD k 0∧l.getD k 0≤32768 then none else some ()) 5 with
  | none =>
   have h:=firstOf_none.1 hf
   rw[b8]
   ·rfl
   ·intro x hx
    obtain⟨k,hk,rfl⟩:=List.getElem_of_mem hx
    have:=h k (by omega)
    rw[gD hk] at this
    by_cases q:-32768≤l[k]∧l[k]≤32768
    ·exact q
    ·rw[d5 q] at this;cases this
  | some e =>
   obtain⟨m,h1,h2,h3⟩:=firstOf_some' hf
   rw[d5]
   ·rfl
   ·intro h
    rw[gD (show m<l.length by omega)] at h3
    rw[b8 (h _ (List.getElem_mem (by omega)))] at h3
    cases h3
 ·intro k hk _
  have hk':k<l.length:=by omega
  unfold bB
  rw[b8 (by simp;omega),hl,getI_lt' hk',d9]
  simp only[gD hk']
  unfold dU
  rw[wsucc (n:=1000) (by omega) (by omega)]
  by_cases q1:-32768≤l[k]
  ·by_cases q2:l[k]≤32768
   ·simp[q1,q2]
   ·simp[q1,q2]
  ·simp[q1]
 ·intro _
  unfold bB
  rw[d5 (by simp)]
end Go.Rex
open Go Go.Rex
set_option maxRecDepth 100000
namespace Go.Rex
theorem mE{ε δ:Type}(h:ε→δ)(p:Nat→Option ε):∀ n,aJ (fun k=>(p k).map h) n=(aJ p n).map h
 | 0=>rfl
 | n+1=>by
  rw[eD,eD,mE h p n]
  cases aJ p n<;>rfl
def ytab(Y:Nat→Int×Int)(n:Nat):List ((Int×Int)×Int):=(List.range n).map fun i=>(Y i,(i:Int))
theorem qA(Y:Nat→Int×Int)(n:Nat):ytab Y (n+1)=ytab Y n++[(Y n,(n:Int))]:=by
 unfold ytab
 rw[List.range_succ,List.map_append]
 rfl
theorem nM(Y:Nat→Int×Int)(k:Int×Int):∀ n,mget (ytab Y n) k=(aJ (fun i=>if Y i=k then some i else none) n).map fun i=>((i:Nat):Int)
 | 0=>rfl
 | n+1=>by
  have ih:=nM Y k n
  unfold mget at ih ⊢
  rw[qA,List.find?_append,eD]
  cases hf:aJ (fun i=>if Y i=k then some i else none) n with
  | some i =>
   rw[hf] at ih
   obtain⟨x,hx,hx2⟩:=b9.1 ih
   rw[hx]
   simp[hx2]
  | none =>
   rw[hf] at ih
   have hx:List.find? (fun e=>decide (k=e.1)) (ytab Y n)=none:=by simpa using ih
   rw[hx]
   by_cases q:Y n=k
   ·simp[q]
   ·simp[q]
    exact fun e=>q e.symm
theorem yB(Y:Nat→Int×Int)(n:Nat)(h:seen Y n=none):mset (ytab Y n) (Y n) (n:Int)=ytab Y (n+1):=by
 have hg:=nM Y (Y n) n
 unfold seen at h
 rw[h] at hg
 have hx:List.find? (fun e=>decide (Y n=e.1)) (ytab Y n)=none:=by unfold mget at hg;simpa using hg
 have hi:List.findIdx? (fun e=>decide (Y n=e.1)) (ytab Y n)=none:=by
  rw[List.findIdx?_eq_none_iff]
  intro x hx2
  have:=List.find?_eq_none.1 hx x hx2
  simpa using this
 unfold mset
 rw[hi,qA]
section
variable {a b c d e:Int} {y:Int×Int}
theorem yV(hd:-32768≤d∧d≤32768)(he:-32768≤e∧e≤32768)(h1:-32767≤y.1∧y.1≤32767)(h2:-32767≤y.2∧y.2≤32767) :
 run aM (a,b,c,d,e,0,0,y.1,y.2,[],0)=some (match aJ (fnd (Yn d e y)) 1001 with|some r=>.inl r|none=>.inr ()):=by
 have hY:=vU (d:=d) (e:=e) h1 h2
 have hs:∀ n,Yn d e y (n+1)=nx d e (Yn d e y n):=fun n=>rfl
 have h0:Yn d e y 0=y:=rfl
 generalize Yn d e y=Y at *
 let f:Nat→(Int×Int×Int×Int×Int×Int×Int×Int×Int×(List ((Int×Int)×Int))×Int):=fun n=>(a,b,c,d,e,0,0,(Y n).1,(Y n).2,ytab Y n,(n:Int))
 have hstep:∀ n,n<1001→aM (f n)=some (match fnd Y n with|none=>.inl (f (n+1))|some r=>.inr (.inl r)):=by
  intro n hn
  have hg:mget (ytab Y n) ((Y n).1,(Y n).2)=(seen Y n).map fun i=>((i:Nat):Int):=nM Y (Y n) n
  show aM (a,b,c,d,e,0,0,(Y n).1,(Y n).2,ytab Y n,(n:Int))=_
  unfold aM
  simp only
  rw[b8 (by simp;omega),hg,d9]
  unfold fnd
  cases hf:seen Y n with
  | none =>
   obtain⟨x,z,hgv⟩:=zX (a:=a) (b:=b) (c:=c) (p:=(Y n).1) (q:=(Y n).2) hd he (hY n).1 (hY n).2
   have hm:=yB Y n hf
   simp only[Option.map_none,Option.isSome_none,Bool.false_eq_true,if_false]
   rw[hgv,d9]
   show some (Sum.inl (a,b,c,d,e,0,0,(nx d e (Y n)).1,(nx d e (Y n)).2,mset (ytab Y n) (Y n) (n:Int),IntKind.i64.wrap ((n:Int)+1)))=some (Sum.inl (f (n+1)))
   rw[hm,wsucc (n:=2000) (by omega) (by omega),← hs n]
  | some i =>
   have hi:i<n:=by
    unfold seen at hf
    obtain⟨m,q1,q2,q3⟩:=firstOf_some' hf
    split at q3
    ·cases q3;exact q1
    ·cases q3
   simp only[Option.map_some,Option.isSome_some,if_true,Option.getD_some]
   rw[w64 (by omega)]
 have hend:aM (f 1001)=some (.inr (.inr ())):=by
  show aM (a,b,c,d,e,0,0,(Y 1001).1,(Y 1001).2,ytab Y 1001,((1001:Nat):Int))=_
  unfold aM
  rfl
 have hst:(a,b,c,d,e,(0:Int),(0:Int),y.1,y.2,([]:List ((Int×Int)×Int)),(0:Int))=f 0:=by
  show _=(a,b,c,d,e,(0:Int),(0:Int),(Y 0).1,(Y 0).2,ytab Y 0,((0:Nat):Int))
  rw[h0];rfl
 rw[hst]
 cases hf:aJ (fnd Y) 1001 with
 | none=>exact jD f (n:=1001) (fun k hk=>by rw[hstep k hk,firstOf_none.1 hf k hk]) hend
 | some r =>
  obtain⟨m,q1,q2,q3⟩:=firstOf_some' hf
  exact pP f (m:=m) (fun k hk=>by rw[hstep k (by omega),q2 k hk]) (by rw[hstep m q1,q3])
theorem Aw(Y:Nat→Int×Int)(n:Nat)(hn:n≤1000):run (bS ((List.range n).map Y) (n:Int) (Y n).1 (Y n).2) 0=some (match fnd Y n with|some r=>.inl r|none=>.inr ()):=by
 have e:fnd Y n=aJ (fun k=>if Y k=Y n then some ((k:Int),(n:Int)-k) else none) n:=by
  unfold fnd seen
  rw[← mE]
  congr 1
  funext k
  by_cases q:Y k=Y n<;>simp[q]
 rw[e,oM (n:=n) (p:=fun k=>if Y k=Y n then some ((k:Int),(n:Int)-k) else none) (r:=()) ?_ ?_]
 ·cases aJ (fun k=>if Y k=Y n then some ((k:Int),(n:Int)-k) else none) n<;>rfl
 ·intro k hk _
  unfold bS
  have hk':k<((List.range n).map Y).length:=by simpa using hk
  rw[b8 (by simpa using hk),getI_lt' hk',d9]
  simp only[List.getElem_map,List.getElem_range]
  rw[w64 (x:=(n:Int)-k) (by omega),wsucc (n:=2000) (by omega) (by omega)]
  by_cases q:Y k=Y n
  ·simp[q]
  ·rw[d5,d5 q]
   intro hh
   apply q
   simp only[List.all_cons,List.all_nil,id,Bool.and_true,Bool.and_eq_true,beq_iff_eq] at hh
   exact Prod.ext hh.1 hh.2
 ·intro _
  unfold bS
  rw[d5 (by simp)]
theorem Ab(hd:-32768≤d∧d≤32768)(he:-32768≤e∧e≤32768)(h1:-32767≤y.1∧y.1≤32767)(h2:-32767≤y.2∧y.2≤32767) :
 run (aQ a b c d e) (0,0,y.1,y.2,[(y.1,y.2)],1)=some (match aJ (fnd (Yn d e y)) 1001 with|some r=>.inl r|none=>.inr ()):=by
 have hY:=vU (d:=d) (e:=e) h1 h2
 have hs:∀ n,Yn d e y (n+1)=nx d e (Yn d e y n):=fun n=>rfl
 have h0:Yn d e y 0=y:=rfl
 generalize Yn d e y=Y at *
 let f:Nat→(Int×Int×Int×Int×(List (Int×Int))×Int):=fun n=>(0,0,(Y n).1,(Y n).2,(List.range (n+1)).map Y,((n+1:Nat):Int))
 have hstep:∀ n,n<1000→aQ a b c d e (f n)=some (match fnd Y (n+1) with|none=>.inl (f (n+1))|some r=>.inr (.inl r)):=by
  intro n hn
  show aQ a b c d e (0,0,(Y n).1,(Y n).2,(List.range (n+1)).map Y,((n+1:Nat):Int))=_
  unfold aQ
  simp only
  obtain⟨x,z,ho⟩:=yQ (a:=a) (b:=b) (c:=c) (p:=(Y n).1) (q:=(Y n).2) hd he (hY n).1 (hY n).2
  have ho':bC a b c d e 0 0 (Y n).1 (Y n).2 0=some (x,z,0,0,(Y (n+1)).1,(Y (n+1)).2):=by rw[ho,hs n]
  rw[b8 (by simp;omega),ho',d9]
  simp only
  rw[Aw Y (n+1) (by omega),d9]
  cases hf:fnd Y (n+1) with
  | some r=>rfl
  | none =>
   simp only
   rw[zB (by simp;omega) (by omega),d9,wsucc (n:=2000) (by omega) (by omega)]
   show some (Sum.inl (0,0,(Y (n+1)).1,(Y (n+1)).2,List.map Y (List.range (n+1))++[Y (n+1)],((n+1+1:Nat):Int)))=some (Sum.inl (0,0,(Y (n+1)).1,(Y (n+1)).2,(List.range (n+1+1)).map Y,((n+1+1:Nat):Int)))
   rw[List.range_succ (n:=n+1),List.map_append]
   rfl
 have hend:aQ a b c d e (f 1000)=some (.inr (.inr ())):=by
  show aQ a b c d e (0,0,(Y 1000).1,(Y 1000).2,(List.range (1000+1)).map Y,((1000+1:Nat):Int))=_
  unfold aQ
  rfl
 have hst:((0:Int),(0:Int),y.1,y.2,[(y.1,y.2)],(1:Int))=f 0:=by
  show _=((0:Int),(0:Int),(Y 0).1,(Y 0).2,(List.range (0+1)).map Y,((0+1:Nat):Int))
  rw[← h0];rfl
 have hf0:fnd Y 0=none:=rfl
 rw[hst]
 cases hf:aJ (fnd Y) 1001 with
 | none=>exact jD f (n:=1000) (fun k hk=>by rw[hstep k hk,firstOf_none.1 hf (k+1) (by omega)]) hend
 | some r =>
  obtain⟨m,q1,q2,q3⟩:=firstOf_some' hf
  cases m with
  | zero=>rw[hf0] at q3;cases q3
  | succ m=>exact pP f (m:=m) (fun k hk=>by rw[hstep k (by omega),q2 (k+1) (by omega)]) (by rw[hstep m (by omega),q3])
end
end Go.Rex
open Go Go.Rex
set_option maxRecDepth 100000
namespace Go.Rex
section
variable {a b c d e:Int} {y:Int×Int}
theorem lawrun(hd:-32768≤d∧d≤32768)(he:-32768≤e∧e≤32768)(h1:-32767≤y.1∧y.1≤32767)(h2:-32767≤y.2∧y.2≤32767){i m:Nat}(hi:i<m)(hm:m≤1001)(hY:Yn d e y i=Yn d e y m) :
 run (aH a b c d e (i:Int) ((m:Int)-i)) (0,0,y.1,y.2,0,0,0)=some (.inr ()):=by
 have hB:=vU (d:=d) (e:=e) h1 h2
 have hs:∀ n,Yn d e y (n+1)=nx d e (Yn d e y n):=fun n=>rfl
 have h0:Yn d e y 0=y:=rfl
 generalize Yn d e y=Y at *
 let f:Nat→(Int×Int×Int×Int×Int×Int×Int):=fun n=>(0,0,(Y n).1,(Y n).2,if n≤i then 0 else (Y i).1,if n≤i then 0 else (Y i).2,(n:Int))
 have hw:IntKind.i64.wrap ((i:Int)+((m:Int)-i))=(m:Int):=by rw[w64 (by omega)];omega
 have hst:((0:Int),(0:Int),y.1,y.2,(0:Int),(0:Int),(0:Int))=f 0:=by
  show _=((0:Int),(0:Int),(Y 0).1,(Y 0).2,if 0≤i then (0:Int) else (Y i).1,if 0≤i then (0:Int) else (Y i).2,((0:Nat):Int))
  rw[h0,b8 (by omega),b8 (by omega)];rfl
 rw[hst]
 refine jD f (n:=m+1) (fun n hn=>?_) ?_
 ·obtain⟨x,z,ho⟩:=yQ (a:=a) (b:=b) (c:=c) (p:=(Y n).1) (q:=(Y n).2) hd he (hB n).1 (hB n).2
  have ho':bC a b c d e 0 0 (Y n).1 (Y n).2 0=some (x,z,0,0,(Y (n+1)).1,(Y (n+1)).2):=by rw[ho,hs n]
  show aH a b c d e (i:Int) ((m:Int)-i) (0,0,(Y n).1,(Y n).2,if n≤i then (0:Int) else (Y i).1,if n≤i then (0:Int) else (Y i).2,(n:Int))=some (.inl (0,0,(Y (n+1)).1,(Y (n+1)).2,if n+1≤i then (0:Int) else (Y i).1,if n+1≤i then (0:Int) else (Y i).2,((n+1:Nat):Int)))
  unfold aH
  simp only
  rw[hw,b8 (by simp;omega),ho',wsucc (n:=2000) (by omega) (by omega)]
  by_cases q:n=i
  ·subst q
   rw[b8 (by simp),d5 (by simp;omega),d5 (show ¬ n+1≤n by omega),d5 (show ¬ n+1≤n by omega)]
   rfl
  ·rw[d5 (by simp;omega)]
   have e1:(if n≤i then (0:Int) else (Y i).1)=if n+1≤i then (0:Int) else (Y i).1:=by
    by_cases g:n≤i
    ·rw[b8 g,b8 (by omega)]
    ·rw[d5 g,d5 (by omega)]
   have e2:(if n≤i then (0:Int) else (Y i).2)=if n+1≤i then (0:Int) else (Y i).2:=by
    by_cases g:n≤i
    ·rw[b8 g,b8 (by omega)]
    ·rw[d5 g,d5 (by omega)]
   by_cases q2:n=m
   ·subst q2
    rw[b8 (by simp),b8 ?_]
    ·rw[e1,e2];rfl
    ·rw[d5 (show ¬ n≤i by omega),d5 (show ¬ n≤i by omega),hY]
     simp
   ·rw[d5 (by simp;omega),e1,e2];rfl
 ·show aH a b c d e (i:Int) ((m:Int)-i) (0,0,(Y (m+1)).1,(Y (m+1)).2,if m+1≤i then (0:Int) else (Y i).1,if m+1≤i then (0:Int) else (Y i).2,((m+1:Nat):Int))=_
  unfold aH
  simp only
  rw[hw,d5 (by simp;omega)]
theorem still1{i m:Nat}(hi:i<m)(hY:Yn 0 0 y i=Yn 0 0 y m)(hn:∀ j,j<m→∀ k,k<j→Yn 0 0 y k≠Yn 0 0 y j):m=i+1:=by
 have g:∀ p:Int×Int,nx 0 0 p=(0,p.1):=by
  intro p
  unfold nx
  simp only[Int.zero_mul]
  rfl
 have y1:Yn 0 0 y 1=(0,y.1):=g _
 have y2:Yn 0 0 y 2=(0,0):=by rw[show Yn 0 0 y 2=nx 0 0 (Yn 0 0 y 1) from rfl,y1,g]
 have y3:Yn 0 0 y 3=(0,0):=by rw[show Yn 0 0 y 3=nx 0 0 (Yn 0 0 y 2) from rfl,y2,g]
 have y0:Yn 0 0 y 0=y:=rfl
 have hm:m≤3:=by
  rcases d4 3 m with h|h
  ·exact absurd (y2.trans y3.symm) (hn 3 h 2 (by omega))
  ·exact h
 rcases d4 (i+1) m with h|h
 ·exfalso
  have cases':(i=0∧m=2)∨(i=0∧m=3)∨(i=1∧m=3):=by omega
  rcases cases' with⟨rfl,rfl⟩|⟨rfl,rfl⟩|⟨rfl,rfl⟩
  ·rw[y0,y2] at hY
   exact hn 1 (by omega) 0 (by omega) (by rw[y0,y1,hY])
  ·rw[y0,y3] at hY
   exact hn 1 (by omega) 0 (by omega) (by rw[y0,y1,hY])
  ·rw[y3] at hY
   exact hn 2 (by omega) 1 (by omega) (by rw[hY,y2])
 ·omega
theorem xC{Y:Nat→Int×Int}{n i:Nat}(h:seen Y n=some i):i<n∧Y i=Y n:=by
 unfold seen at h
 obtain⟨m,q1,q2,q3⟩:=firstOf_some' h
 split at q3
 ·rename_i q;cases q3;exact⟨q1,q⟩
 ·cases q3
theorem wW{Y:Nat→Int×Int}{n:Nat}(h:seen Y n=none):∀ k,k<n→Y k≠Y n:=by
 intro k hk q
 have:=firstOf_none.1 h k hk
 rw[b8 q] at this
 cases this
def told(r:Option (Int×Int)):Int×Int×Int:=match r with
 | some r=>(r.1,r.2,0)
 | none=>(0,0,8)
end
theorem xA(a b c d e:Int):bM a b c d e=some (if ∀ x∈[a,b,c,d,e],-32768≤x∧x≤32768 then 0 else 2):=by
 unfold bM bY
 rw[d9]
 simp only
 rw[tB (by omega) (by simp),d9]
theorem zW{a b c d e p q:Int}:dD a b c d e p q=some (if ∀ x∈[a,b,c,d,e],-32768≤x∧x≤32768 then (if ∀ x∈[p,q],-32767≤x∧x≤32767 then told (aJ (fnd (Yn d e (p,q))) 1001) else (0,0,2)) else (0,0,2)):=by
 unfold dD
 rw[xA,d9,tB (by omega) (by simp),d9,wV,d9]
 by_cases C:∀ x∈[a,b,c,d,e],-32768≤x∧x≤32768
 ·rw[b8 C,b8 C,d5 (show ¬((0:Int)≠0) by decide)]
  by_cases D:∀ x∈[p,q],-32767≤x∧x≤32767
  ·rw[b8 D,b8 D,d5 (by decide)]
   have hd:=C d (by simp)
   have he:=C e (by simp)
   have hp:=D p (by simp)
   have hq:=D q (by simp)
   have:=yV (a:=a) (b:=b) (c:=c) (y:=(p,q)) hd he hp hq
   simp only at this
   rw[this,d9]
   cases aJ (fnd (Yn d e (p,q))) 1001<;>rfl
  ·rw[d5 D,d5 D,b8 (by decide)]
 ·rw[d5 C,d5 C,b8 (show (2:Int)≠0 by decide),b8 (by decide)]
theorem Ap{a b c d e p q:Int}(C:∀ x∈[a,b,c,d,e],-32768≤x∧x≤32768):dR a b c d e p q=some (if ∀ x∈[p,q],-32767≤x∧x≤32767 then told (aJ (fnd (Yn d e (p,q))) 1001) else (0,0,2)):=by
 unfold dR
 rw[iT,d9,iT,d9]
 by_cases hp:-32767≤p∧p≤32767
 ·rw[b8 (by simpa using hp)]
  by_cases hq:-32767≤q∧q≤32767
  ·rw[b8 (by simpa using hq),b8 (by intro x hx;simp at hx;rcases hx with rfl|rfl<;>assumption)]
   have:=Ab (a:=a) (b:=b) (c:=c) (y:=(p,q)) (C d (by simp)) (C e (by simp)) hp hq
   simp only at this
   rw[this,d9]
   cases aJ (fnd (Yn d e (p,q))) 1001<;>rfl
  ·rw[d5 (by simpa using hq),d5 (fun h=>hq (h q (by simp)))]
 ·rw[d5 (by simpa using hp),d5 (fun h=>hp (h p (by simp)))]
theorem sN(a b c d e p q:Int):cT a b c d e p q=some true:=by
 unfold cT
 rw[zW,wU]
 by_cases C:∀ x∈[a,b,c,d,e],-32768≤x∧x≤32768
 ·rw[b8 C,b8 C,Ap C]
  by_cases D:∀ x∈[p,q],-32767≤x∧x≤32767
  ·rw[b8 D]
   cases hf:aJ (fnd (Yn d e (p,q))) 1001 with
   | none=>rfl
   | some r =>
    obtain⟨m,q1,q2,q3⟩:=firstOf_some' hf
    obtain⟨i,hi,rfl⟩:=b9.1 q3
    obtain⟨hi1,hi2⟩:=xC hi
    have hd:=C d (by simp)
    have he:=C e (by simp)
    have hl:=lawrun (a:=a) (b:=b) (c:=c) (y:=(p,q)) hd he (D p (by simp)) (D q (by simp)) hi1 (by omega) hi2
    simp only at hl
    simp only[told,Option.bind_some,ne_eq,not_true_eq_false,decide_true,decide_false,Bool.false_eq_true,if_false,if_true,List.all_cons,List.all_nil,BEq.rfl,id,Bool.and_self]
    split
    ·rfl
    ·rw[hl,d9]
     simp only
     split
     ·rename_i hz
      have hz:d=0∧e=0:=by simpa using hz
      obtain⟨rfl,rfl⟩:=hz
      have hnn:∀ j,j<m→∀ k,k<j→Yn 0 0 (p,q) k≠Yn 0 0 (p,q) j:=fun j hj=>wW (by
       have:=q2 j hj
       unfold fnd at this
       simpa using this)
      have hm:=still1 hi1 hi2 hnn
      subst hm
      have:((i+1:Nat):Int)-(i:Int)=1:=by omega
      rw[this]
      rfl
     ·rfl
  ·rw[d5 D];rfl
 ·rw[d5 C,d5 C];rfl
end Go.Rex
namespace Go.Rex
open Go Go.ChangeShapes Go.WideShapes Go.ChangeAt Go.RowKit Go.Joins Go.Proofs
structure Arg(W:World)(v':Value)(p:TV)(bs:List Blk)(is:List Info)(av:Nat→Value):Prop where
 vr:∀(D:Nat→Prop) (m:NMap) n,(∀ j,j<bs.length→D (n+j))→(∀(j:Nat) i,is[j]?=some i→m (n+j)=i)→VR D m (av n) v'
 vl:∀(Fz:Nat→Prop) (h:List Blk) n,(∀ j,j<bs.length→Fz (n+j))→(∀(j:Nat) b,bs[j]?=some b→h[n+j]?=some b)→VL Fz h noL p (av n)
 ok:∀(D:Nat→Prop) (m:NMap) n,(∀ j,j<bs.length→D (n+j))→(∀(j:Nat) i,is[j]?=some i→m (n+j)=i)→∀(j:Nat) b,bs[j]?=some b→BlkOk D m W (n+j) b
 lt:∀(j:Nat) b i,bs[j]?=some b→is[j]?=some i→b ≠ .dead→i.block<W.heap.size
 len:is.length=bs.length
structure Args(W:World)(vs':List Value)(ps:List TV)(bs:List Blk)(is:List Info)(av:Nat→List Value):Prop where
 vr:∀(D:Nat→Prop) (m:NMap) n,(∀ j,j<bs.length→D (n+j))→(∀(j:Nat) i,is[j]?=some i→m (n+j)=i)→VRs D m (av n) vs'
 vl:∀(Fz:Nat→Prop) (h:List Blk) n,(∀ j,j<bs.length→Fz (n+j))→(∀(j:Nat) b,bs[j]?=some b→h[n+j]?=some b)→VLs Fz h noL ps (av n)
 ok:∀(D:Nat→Prop) (m:NMap) n,(∀ j,j<bs.length→D (n+j))→(∀(j:Nat) i,is[j]?=some i→m (n+j)=i)→∀(j:Nat) b,bs[j]?=some b→BlkOk D m W (n+j) b
 lt:∀(j:Nat) b i,bs[j]?=some b→is[j]?=some i→b ≠ .dead→i.block<W.heap.size
 len:is.length=bs.length
def nm(is:List Info):NMap:=fun n=>is.getD n ⟨0,0,0,0⟩
section
variable {W:World} {vs':List Value} {ps:List TV} {bs:List Blk} {is:List Info} {av:Nat→List Value}
end
theorem len2{α:Type}{l:List α}(h:l.length=2):∃ x0 x1,l=[x0,x1]:=by
 match l,h with
 | [x0,x1],_=>exact⟨_,_,rfl⟩
theorem len5{α:Type}{l:List α}(h:l.length=5):∃ x0 x1 x2 x3 x4,l=[x0,x1,x2,x3,x4]:=by
 match l,h with
 | [x0,x1,x2,x3,x4],_=>exact⟨_,_,_,_,_,rfl⟩
def Ag(c:Value):Prop:=gC c=true∧∀ D m,VR D m c c
theorem wN(k:IntKind)(n:Int):Ag (.int k n):=⟨rfl,fun _ _=>.int _ _⟩
theorem Arg.agg{W:World}{l:List Value}(h:∀ c∈l,Ag c):Arg W (.agg ⟨l⟩) (.agg (l.map .v)) [] [] (fun _=>.agg ⟨l⟩):=by
 refine⟨fun _ _ _ _ _=>.agg _ _ rfl fun i v v' hv hv'=>?_,fun _ _ _ _ _=>.agg _ _ _ (by simp) fun i p x hp hx=>?_,fun _ _ _ _ _ j b h=>by simp at h,fun j b i h=>by simp at h,rfl⟩
 ·obtain rfl:v=v':=a6 (hv.symm.trans hv')
  exact (h v (b6 hv)).2 _ _
 ·rw[d2,hx] at hp
  obtain rfl:=a6 hp
  exact .v _ _ (h x (b6 hx)).1
section
variable {H:Type} {enc:TypeId×Value→H} {W:World} {base:Nat} {spare:Nat→Bool} {held:Bool}
def AI(cs:List Value):Prop:=∀ c∈cs,∃ n:Int,c = .int .i64 n
theorem AI.list{cs:List Value}(h:AI cs):∃ l:List Int,cs=l.map (.int .i64):=by
 induction cs with
 | nil=>exact⟨[],rfl⟩
 | cons c t ih =>
  obtain⟨n,rfl⟩:=h c (by simp)
  obtain⟨l,rfl⟩:=ih fun c hc=>h c (by simp[hc])
  exact⟨n::l,rfl⟩
variable {P:Program}
theorem vT{t:TypeId}(ht:P.underlying t=some (.int .i64)){r:Reach}{b:Nat}{v:Value}(w:Cell.okWide P W r b t v):∃ n:Int,v = .int .i64 n:=by
 unfold Cell.okWide at w
 simp only[ht] at w
 unfold Cell.ok at w
 simp only[ht] at w
 cases v<;>first|exact⟨_,by rw[w.1]⟩|exact absurd w (by simp)
theorem zJ{t ti:TypeId}{fs:Array Field}{n:Nat}(ht:P.underlying t=some (.struct fs))(hti:P.underlying ti=some (.int .i64))(hct:P.cellTypes P.depth t=some (List.replicate n ti))(hn:P.cellsOf t=n)
 {r:Reach} {b:Nat} {v:Value} (w:Value.okWide P W r b t v):∃ l:List Int,l.length=n∧v = .agg ⟨l.map (.int .i64)⟩:=by
 unfold Value.okWide at w
 simp only[ht] at w
 obtain⟨cs,rfl,hs,ts,hts,_,hc⟩:=w
 rw[hct] at hts
 obtain rfl:=a6 hts
 obtain⟨l⟩:=cs
 have:AI l:=by
  intro c hcm
  obtain⟨j,hj,rfl⟩:=List.mem_iff_getElem.1 hcm
  obtain⟨u,hu,hok⟩:=hc j l[j] (by simp)
  have:=List.eq_of_mem_replicate (b6 hu)
  subst this
  exact vT hti hok
 obtain⟨l',rfl⟩:=this.list
 refine⟨l',?_,rfl⟩
 simpa [hn] using hs
theorem yG{t ti e:TypeId}{k n:Nat}(ht:P.underlying t=some (.array k e))(hti:P.underlying ti=some (.int .i64))(hct:P.cellTypes P.depth t=some (List.replicate n ti))(hn:P.cellsOf t=n)
 {r:Reach} {b:Nat} {v:Value} (w:Value.okWide P W r b t v):∃ l:List Int,l.length=n∧v = .agg ⟨l.map (.int .i64)⟩:=by
 unfold Value.okWide at w
 simp only[ht] at w
 obtain⟨cs,rfl,hs,ts,hts,_,hc⟩:=w
 rw[hct] at hts
 obtain rfl:=a6 hts
 obtain⟨l⟩:=cs
 have:AI l:=by
  intro c hcm
  obtain⟨j,hj,rfl⟩:=List.mem_iff_getElem.1 hcm
  obtain⟨u,hu,hok⟩:=hc j l[j] (by simp)
  have:=List.eq_of_mem_replicate (b6 hu)
  subst this
  exact vT hti hok
 obtain⟨l',rfl⟩:=this.list
 refine⟨l',?_,rfl⟩
 simpa [hn] using hs
theorem tF(l:List Int):Arg W (.agg ⟨l.map (.int .i64)⟩) (.agg (l.map fun x=>.v (.int .i64 x))) [] [] (fun _=>.agg ⟨l.map (.int .i64)⟩):=by
 have:=Arg.agg (W:=W) (l:=l.map (.int .i64)) fun c hc=>by obtain⟨x,_,rfl⟩:=List.mem_map.1 hc;exact wN _ _
 rwa [List.map_map] at this
end
end Go.Rex
namespace Go.Rex
open Go Go.ChangeShapes Go.WideShapes Go.ChangeAt Go.RowKit Go.Joins Go.Proofs
structure NArg(W:World)(v':Value)(p:TV)(bs:Nat→List Blk)(is:List Info)(av:Nat→Value):Prop where
 vr:∀(D:Nat→Prop) (m:NMap) n,(∀ j,j<is.length→D (n+j))→(∀(j:Nat) i,is[j]?=some i→m (n+j)=i)→VR D m (av n) v'
 vl:∀(Fz:Nat→Prop) (h:List Blk) n,(∀ j,j<is.length→Fz (n+j))→(∀(j:Nat) b,(bs n)[j]?=some b→h[n+j]?=some b)→VL Fz h noL p (av n)
 ok:∀(D:Nat→Prop) (m:NMap) n,(∀ j,j<is.length→D (n+j))→(∀(j:Nat) i,is[j]?=some i→m (n+j)=i)→∀(j:Nat) b,(bs n)[j]?=some b→BlkOk D m W (n+j) b
 lt:∀ n (j:Nat) b i,(bs n)[j]?=some b→is[j]?=some i→b ≠ .dead→i.block<W.heap.size
 len:∀ n,(bs n).length=is.length
structure NArgs(W:World)(vs':List Value)(ps:List TV)(bs:Nat→List Blk)(is:List Info)(av:Nat→List Value):Prop where
 vr:∀(D:Nat→Prop) (m:NMap) n,(∀ j,j<is.length→D (n+j))→(∀(j:Nat) i,is[j]?=some i→m (n+j)=i)→VRs D m (av n) vs'
 vl:∀(Fz:Nat→Prop) (h:List Blk) n,(∀ j,j<is.length→Fz (n+j))→(∀(j:Nat) b,(bs n)[j]?=some b→h[n+j]?=some b)→VLs Fz h noL ps (av n)
 ok:∀(D:Nat→Prop) (m:NMap) n,(∀ j,j<is.length→D (n+j))→(∀(j:Nat) i,is[j]?=some i→m (n+j)=i)→∀(j:Nat) b,(bs n)[j]?=some b→BlkOk D m W (n+j) b
 lt:∀ n (j:Nat) b i,(bs n)[j]?=some b→is[j]?=some i→b ≠ .dead→i.block<W.heap.size
 len:∀ n,(bs n).length=is.length
theorem Arg.n{W:World}{v':Value}{p:TV}{bs:List Blk}{is:List Info}{av:Nat→Value}(a:Arg W v' p bs is av):NArg W v' p (fun _=>bs) is av:=
 ⟨fun D m n hD hm=>a.vr D m n (by rw[← a.len];exact hD) hm,fun Fz h n hF hh=>a.vl Fz h n (by rw[← a.len];exact hF) hh,fun D m n hD hm=>a.ok D m n (by rw[← a.len];exact hD) hm,fun _=>a.lt,fun _=>a.len.symm⟩
theorem NArgs.nil(W:World):NArgs W [] [] (fun _=>[]) [] (fun _=>[]):=
 ⟨fun _ _ _ _ _=>⟨rfl,fun i a a' h=>by simp at h⟩,fun _ _ _ _ _=>.nil,fun _ _ _ _ _ j b h=>by simp at h,fun _ j b i h=>by simp at h,fun _=>rfl⟩
theorem NArgs.cons{W:World}{v':Value}{p:TV}{bs bs2:Nat→List Blk}{is is2:List Info}{av:Nat→Value}{vs':List Value}{ps:List TV}{avs:Nat→List Value}
 (a:NArg W v' p bs is av) (az:NArgs W vs' ps bs2 is2 avs):NArgs W (v'::vs') (p::ps) (fun n=>bs n++bs2 (n+is.length)) (is++is2) (fun n=>av n::avs (n+is.length)):=by
 have cD:∀(D:Nat→Prop) n,(∀ j,j<(is++is2).length→D (n+j))→(∀ j,j<is.length→D (n+j))∧(∀ j,j<is2.length→D (n+is.length+j)):=by
  intro D n h
  refine⟨fun j hj=>h j (by simp;omega),fun j hj=>?_⟩
  have:=h (is.length+j) (by simp;omega)
  rwa [← e7] at this
 have cI:∀(m:NMap) n,(∀(j:Nat) i,(is++is2)[j]?=some i→m (n+j)=i)→(∀(j:Nat) i,is[j]?=some i→m (n+j)=i)∧(∀(j:Nat) i,is2[j]?=some i→m (n+is.length+j)=i):=by
  intro m n h
  refine⟨fun j i hj=>h j i (by rw[b4 (a7.1 hj).1];exact hj),fun j i hj=>?_⟩
  have:=h (is.length+j) i (by rw[b7 (by omega),Nat.add_sub_cancel_left];exact hj)
  rwa [← e7] at this
 refine⟨fun D m n hD hm=>?_,fun Fz h n hF hh=>?_,fun D m n hD hm j b hb=>?_,fun n j b i hb hi hd=>?_,fun n=>by simp[a.len,az.len]⟩
 ·have h1:=a.vr D m n (cD D n hD).1 (cI m n hm).1
  have h2:=az.vr D m (n+is.length) (cD D n hD).2 (cI m n hm).2
  refine⟨by simp[h2.len],fun i x x' hx hx'=>?_⟩
  cases i with
  | zero=>simp at hx hx';subst hx hx';exact h1
  | succ i=>simp at hx hx';exact h2.at' i x x' hx hx'
 ·refine .cons (a.vl Fz h n (cD Fz n hF).1 fun j b hb=>hh j b (by rw[b4 (a7.1 hb).1];exact hb)) (az.vl Fz h (n+is.length) (cD Fz n hF).2 fun j b hb=>?_)
  have:=hh (is.length+j) b (by rw[b7 (by rw[a.len];omega),a.len,Nat.add_sub_cancel_left];exact hb)
  rwa [← e7] at this
 ·rcases d4 j is.length with hj|hj
  ·rw[b4 (by rw[a.len];exact hj)] at hb
   exact a.ok D m n (cD D n hD).1 (cI m n hm).1 j b hb
  ·rw[b7 (by rw[a.len];exact hj),a.len] at hb
   have:=az.ok D m (n+is.length) (cD D n hD).2 (cI m n hm).2 _ b hb
   rwa [show n+is.length+(j-is.length)=n+j by omega] at this
 ·rcases d4 j is.length with hj|hj
  ·rw[b4 (by rw[a.len];exact hj)] at hb
   rw[b4 hj] at hi
   exact a.lt n j b i hb hi hd
  ·rw[b7 (by rw[a.len];exact hj),a.len] at hb
   rw[b7 hj] at hi
   exact az.lt _ _ b i hb hi hd
section
variable {W:World} {vs':List Value} {ps:List TV} {bs:Nat→List Blk} {is:List Info} {av:Nat→List Value}
def gnm(is:List Info):NMap:=fun k=>if k<NG then gm k else is.getD (k-NG) ⟨0,0,0,0⟩
theorem uY{is:List Info}{j:Nat}{i:Info}(h:is[j]?=some i):gnm is (NG+j)=i:=by
 unfold gnm
 rw[d5 (by omega),Nat.add_sub_cancel_left,List.getD_eq_getElem?_getD,h]
 rfl
theorem lV:GH.length=NG:=rfl
theorem NArgs.rel(a:NArgs W vs' ps bs is av)(hw:GW W)(hs:NG≤W.heap.size):Rel W.heap.size (GH++bs NG).length (fun k=>k<(GH++bs NG).length) (gnm is) (GH++bs NG) W:=by
 have hl:=a.len NG
 have hn:(GH++bs NG).length=NG+is.length:=by rw[i5,lV,hl]
 have old:∀ k,k<NG→gnm is k=gm k:=fun k hk=>b8 hk
 have parts:∀ n b,n<(GH++bs NG).length→(GH++bs NG)[n]?=some b→(n<NG∧GH[n]?=some b)∨∃ j,n=NG+j∧(bs NG)[j]?=some b:=by
  intro n b hn' hb
  rcases d4 n NG with h|h
  ·rw[b4 h] at hb;exact .inl ⟨h,hb⟩
  ·rw[b7 h,lV] at hb;exact .inr ⟨n-NG,by omega,hb⟩
 have st:=Rel.start W hw hs
 have lt:∀ n b,n<(GH++bs NG).length→(GH++bs NG)[n]?=some b→b ≠ .dead→(gnm is n).block<W.heap.size:=by
  intro n b hn' hb hd
  rcases parts n b hn' hb with⟨h1,h2⟩|⟨j,rfl,h2⟩
  ·rw[old n h1];exact st.lt n b h1 h2 hd
  ·have hj:j<is.length:=by omega
   rw[uY (b5 hj)]
   exact a.lt NG j b _ h2 (b5 hj) hd
 refine⟨a9 _,fun _ h=>h,fun n b hn' hb=>?_,lt,fun n b hD hl=>absurd hD (by omega),fun n b hn' _ hb hd=>lt n b hn' hb hd,fun n b hD hl=>absurd hD (by omega),fun n n' b b' hD _ hl=>absurd hD (by omega),⟨fun g hg=>⟨?_,?_⟩,hs,hw⟩⟩
 ·rcases parts n b hn' hb with⟨h1,h2⟩|⟨j,rfl,h2⟩
  ·exact (st.ok n b h1 h2).mono (fun k hk=>by have hk':k<NG:=hk;show k<(GH++bs NG).length;omega) (fun k hk=>old k hk) (old n h1)
  ·exact a.ok (fun k=>k<(GH++bs NG).length) (gnm is) NG (fun j hj=>by omega) (fun j i hi=>uY hi) j b h2
 ·show g<(GH++bs NG).length;omega
 ·rw[old g hg];exact pM g
theorem NArgs.vls(a:NArgs W vs' ps bs is av):VLs (fun k=>k<(GH++bs NG).length) (GH++bs NG) noL ps (av NG):=by
 have hn:(GH++bs NG).length=NG+is.length:=by rw[i5,lV,a.len NG]
 exact a.vl _ _ NG (fun j hj=>by omega) (fun j b hb=>by rw[b7 (by rw[lV];omega),lV,Nat.add_sub_cancel_left];exact hb)
theorem NArgs.fz(_a:NArgs W vs' ps bs is av):FZ (fun k=>k<(GH++bs NG).length) (GH++bs NG):=
 ⟨fun _ h=>h,fun g hg=>by
  have h1:g<GH.length:=hg
  exact⟨by rw[i5];omega,b4 h1⟩⟩
theorem NArgs.vrs(a:NArgs W vs' ps bs is av):VRs (fun k=>k<(GH++bs NG).length) (gnm is) (av NG) vs':=by
 have hn:(GH++bs NG).length=NG+is.length:=by rw[i5,lV,a.len NG]
 exact a.vr _ _ NG (fun j hj=>by omega) (fun j i hi=>uY hi)
end
section
variable {H:Type} {enc:TypeId×Value→H} {W:World} {base:Nat} {spare:Nat→Bool} {held:Bool}
end
section
variable {H:Type} {enc:TypeId×Value→H} {W:World} {base:Nat} {spare:Nat→Bool} {held:Bool}
end
section
variable {H:Type} {enc:TypeId×Value→H} {W:World} {base:Nat} {spare:Nat→Bool} {held:Bool} {P:Program} {k0:FloatKind}
end
end Go.Rex
