/- What these functions return: facts on lists and numbers. -/
import Derived.Test.YtecehdbekkllfaaGreatDoorRexG9
import Derived.Test.YtecehdbekkllfaaGreatDoorS
import Derived.ProofKit
import Derived.OpenShut
import Derived.ShutString
import Derived.ChangeOld
import Derived.Below
import Derived.Lib.SmallJoins
import Derived.ChangeShapes
import Derived.ChangeArms
import Derived.WideShapes
import Derived.Lay
import Derived.MakeChecks
import Derived.SevenTiedAt
set_option linter.unusedSimpArgs false
set_option linter.unusedVariables false
set_option linter.defProp false
set_option linter.unusedSectionVars false
namespace Go.Rex
theorem w64{x:Int}(h:-9223372036854775808≤x∧x≤9223372036854775807):IntKind.i64.wrap x=x:=IntWalk.i64_in x (by omega)
theorem kQ{σ ε:Type}{step:σ→Option (σ ⊕ ε)}(f:Nat→σ){n:Nat}{e:ε}(h:∀ k,k<n→step (f k)=some (.inl (f (k+1))))(hn:step (f n)=some (.inr e)):run step (f 0)=some e:=by
 suffices H:∀ j k,n-k=j→k≤n→run step (f k)=some e from H n 0 (by omega) (g8 _)
 intro j
 induction j with
 | zero => intro k hj hk; obtain rfl : k = n := by omega
           exact jV hn
 | succ j ih=>intro k hj hk;rw[qN (h k (by omega))];exact ih (k+1) (by omega) (by omega)
theorem qH{α:Type}{xs:List α}{k:Nat}:cJ xs (k:Int)=xs[k]?:=by
 unfold cJ
 rw[b5 (by omega),Int.toNat_natCast]
theorem Bh{α:Type}{b:Nat}{xs:List α}{y:α}(h:xs.length<2^40)(hb:b≤128):qP b xs [y]=some (xs++[y]):=by
 unfold qP
 rw[b5]
 refine⟨by simp;omega,?_⟩
 have h1:(xs.length+[y].length)*b≤2^40*128:=Nat.mul_le_mul (by simp;omega) hb
 omega
def walk{α β ε:Type}(f:β→α→β ⊕ ε)(fin:β→ε):β→List α→ε
 | b,[]=>fin b
 | b,x::t=>match f b x with
  | .inl b'=>walk f fin b' t
  | .inr e=>e
theorem yR{α β σ ε:Type}{step:σ→Option (σ ⊕ ε)}(st:Nat→β→σ)(f:β→α→β ⊕ ε)(fin:β→ε)(Inv:Nat→β→Prop)(l:List α)
 (hs:∀(k:Nat) (x:α) (b:β),l[k]?=some x→Inv k b→step (st k b)=some (match f b x with|.inl b'=>.inl (st (k+1) b')|.inr e=>.inr e)∧∀ b',f b x = .inl b'→Inv (k+1) b')
 (he:∀ b,Inv l.length b→step (st l.length b)=some (.inr (fin b))) {b0:β} (h0:Inv 0 b0):run step (st 0 b0)=some (walk f fin b0 l):=by
 suffices H:∀(t:List α) (k:Nat) (b:β),l.drop k=t→k≤l.length→Inv k b→run step (st k b)=some (walk f fin b t) from H l 0 b0 rfl (g8 _) h0
 intro t
 induction t with
 | nil =>
  intro k b hk hkl hI
  have:k=l.length:=by
   have:=congrArg List.length hk
   simp at this
   omega
  subst this
  exact jV (he b hI)
 | cons x t ih =>
  intro k b hk hkl hI
  have hx:l[k]?=some x:=by
   have:=congrArg (fun l=>l[0]?) hk
   simpa using this
  have hlt:=(a7.1 hx).1
  obtain⟨h1,h2⟩:=hs k x b hx hI
  have ht:l.drop (k+1)=t:=by
   have:=congrArg List.tail hk
   simpa using this
  cases hf:f b x with
  | inl b' =>
   rw[hf] at h1
   rw[qN h1,ih (k+1) b' ht (by omega) (h2 b' hf)]
   simp only[walk,hf]
  | inr e =>
   rw[hf] at h1
   rw[jV h1]
   simp only[walk,hf]
end Go.Rex
open Go Go.Rex
namespace Go.Rex
set_option maxRecDepth 100000
theorem wsucc{k:Nat}{n:Nat}(h:k≤n)(hn:n≤2^62):IntKind.i64.wrap ((k:Int)+1)=((k+1:Nat):Int):=by rw[w64 (by omega)];omega
def bJ{ε:Type}(p:Nat→Option ε)(n:Nat):Option ε:=(List.range n).findSome? p
theorem firstOf_none{ε:Type}{p:Nat→Option ε}{n:Nat}:bJ p n=none↔∀ k,k<n→p k=none:=by
 unfold bJ
 rw[List.findSome?_eq_none_iff]
 constructor
 ·intro h k hk;exact h k (List.mem_range.2 hk)
 ·intro h k hk;exact h k (List.mem_range.1 hk)
theorem sR{ε:Type}{p:Nat→Option ε}{n:Nat}:bJ p (n+1)=match bJ p n with|some e=>some e|none=>p n:=by
 unfold bJ
 rw[List.range_succ,List.findSome?_append]
 cases h:List.findSome? p (List.range n) with
 | some e=>rfl
 | none=>simp
theorem kC{ε δ:Type}{step:Int→Option (Int ⊕ (ε ⊕ δ))}{n:Nat}{p:Nat→Option ε}{r:δ}
 (h:∀ k:Nat,k<n→(∀ j,j<k→p j=none)→step (k:Int)=some (match p k with|none=>.inl ((k+1:Nat):Int)|some e=>.inr (.inl e))) (he:(∀ j,j<n→p j=none)→step (n:Int)=some (.inr (.inr r))):run step 0=some (match bJ p n with|some e=>.inl e|none=>.inr r):=by
 suffices H:∀ m,m≤n→bJ p m=none→run step 0=run step (m:Int) by
  cases hf:bJ p n with
  | none =>
   simp only
   rw[H n (b7 _) hf]
   exact jV (he (firstOf_none.1 hf))
  | some e =>
   simp only
   have:∃ m,m<n∧bJ p m=none∧p m=some e:=by
    clear h he H
    induction n with
    | zero=>simp[bJ] at hf
    | succ n ih =>
     rw[sR] at hf
     cases hn:bJ p n with
     | none=>rw[hn] at hf;exact⟨n,by omega,hn,hf⟩
     | some e'=>rw[hn] at hf;cases hf;obtain⟨m,h1,h2⟩:=ih hn;exact⟨m,by omega,h2⟩
   obtain⟨m,hm,h1,h2⟩:=this
   rw[H m (by omega) h1]
   have:=h m hm (firstOf_none.1 h1)
   rw[h2] at this
   exact jV this
 intro m
 induction m with
 | zero=>intro _ _;rfl
 | succ m ih =>
  intro hm hf
  have hf':=firstOf_none.1 hf
  rw[ih (by omega) (firstOf_none.2 fun k hk=>hf' k (by omega))]
  have:=h m (by omega) (fun j hj=>hf' j (by omega))
  rw[hf' m (by omega)] at this
  exact qN this
def iter{β:Type}(g:Nat→β→β):Nat→β→β
 | 0,b=>b
 | k+1,b=>g k (iter g k b)
theorem getI_lt'{α:Type}{l:List α}{k:Nat}(h:k<l.length):cJ l (k:Int)=some l[k]:=by
 rw[qH];exact a9 h
theorem copyI'{l:List Int}(h:l.length≤1048576):qP 8 ([]:List Int) l=some l:=by
 unfold qP
 rw[b5 (by simp;omega)]
 simp
theorem By{n:Nat}(h:n≤1048576):mkI 8 (n:Int) (0:Int)=some (List.replicate n 0):=by
 unfold mkI
 rw[b5 (by omega),Int.toNat_natCast]
end Go.Rex
open Go Go.Rex
set_option maxRecDepth 100000
namespace Go.Rex
theorem rQ{x y:Int}(hy:0<y):x.tmod y=if x.tmod y<0 then x%y-y else x%y:=by
 have h1:=Int.tmod_lt_of_pos x hy
 have h2:-y<x.tmod y:=by
  have h3:=Int.natAbs_tmod x y
  have h4:(x.tmod y).natAbs<y.natAbs:=by rw[h3];exact l3 _ (by omega)
  omega
 have hdm:=Int.tmod_add_mul_tdiv x y
 split
 ·have : x % y = x.tmod y + y := by
    have e:x=(x.tmod y+y)+y*(x.tdiv y-1):=by rw[Int.mul_sub,Int.mul_one];omega
    rw[e,Int.add_mul_emod_self_left,Int.emod_eq_of_lt (by omega) (by omega)]
    rw[← e]
  omega
 ·have : x % y = x.tmod y := by
    conv=>lhs;rw[← hdm]
    rw[Int.add_mul_emod_self_left,Int.emod_eq_of_lt (by omega) (by omega)]
  omega
theorem Bo{x y b:Int}(hy:0<y)(hb:0≤b)(h:-b≤x∧x≤b):-b≤x/y∧x/y≤b:=by
 have h1:=Int.emod_add_mul_ediv x y
 have h2:=Int.emod_nonneg x (show y≠0 by omega)
 have h3:=Int.emod_lt_of_pos x hy
 constructor
 ·refine Int.le_ediv_of_mul_le hy ?_
  have:-b*y≤-b*1:=Int.mul_le_mul_of_nonpos_left (by omega) (by omega)
  omega
 ·refine Int.ediv_le_of_le_mul hy ?_
  have:b*1≤b*y:=Int.mul_le_mul_of_nonneg_left (by omega) hb
  omega
def oT(lo hi:Int)(l:List Int)(k:Nat):Option Unit:=if lo≤l.getD k 0∧l.getD k 0≤hi then none else some ()
def inL(lo hi:Int)(l:List Int):Prop:=∀ k,k<l.length→lo≤l.getD k 0∧l.getD k 0≤hi
theorem outL_none{lo hi:Int}{l:List Int}:bJ (oT lo hi l) l.length=none↔inL lo hi l:=by
 rw[firstOf_none]
 unfold oT inL
 constructor
 ·intro h k hk
  have:=h k hk
  by_cases q:lo≤l.getD k 0∧l.getD k 0≤hi
  ·exact q
  ·rw[b6 q] at this;cases this
 ·intro h k hk
  rw[b5 (h k hk)]
instance (lo hi:Int) (l:List Int):Decidable (inL lo hi l):=decidable_of_iff _ outL_none
theorem fJ{l:List Int}{k:Nat}(h:k<l.length):cJ l (k:Int)=some (l.getD k 0):=by
 rw[qH,i5,a9 h];rfl
theorem rT{l:List Int}(h:l.length≤1000):fD l l=some true:=by
 unfold fD
 rw[b6 (by simp)]
 have hr:=kQ (step:=eP l l) (e:=.inr ()) (fun k=>(k:Int)) (n:=l.length) (fun k hk=>by
  dsimp only[eP]
  rw[b5 (by simpa using hk),getI_lt' hk,a8,a8]
  first|(rw[b6 (by simp),w64 (by omega)];rfl)|(rw[b5 (by simp),w64 (by omega)];rfl)) (by
  dsimp only[eP]
  rw[b6 (by simp)])
 rw[show (0:Int)=((0:Nat):Int) from rfl,hr]
 rfl
end Go.Rex
open Go Go.Rex
set_option maxRecDepth 100000
namespace Go.Rex
theorem swithin(x lo hi:Int):dZ x lo hi=some (decide (lo≤x∧x≤hi)):=by
 unfold dZ
 by_cases h:lo≤x
 ·rw[b5 (by simpa using h)];simp[h]
 ·rw[b6 (by simpa using h)];simp[h]
theorem iZ(x lo hi:Int):dP x lo hi=some (decide (lo≤x∧x≤hi)):=by
 unfold dP
 by_cases h:lo≤x
 ·rw[b5 (by simpa using h)];simp[h]
 ·rw[b6 (by simpa using h)];simp[h]
theorem swith2(x lo hi:Int):dQ x lo hi=some (!decide (lo≤x∧x≤hi),2):=by
 unfold dQ bE
 rw[swithin];rfl
theorem sref1(b:Bool)(e:Int):aG b e=some (if b=true then e else 0):=by
 unfold aG
 cases b<;>rfl
def lvV(l:List Int):Int:=if ¬(1≤l.length∧l.length≤8) then 10 else if inL 0 1000 l then 0 else 2
theorem zU(l:List Int)(hl:l.length≤1000):∃ k,cG (l.length:Int) l=some (k,if inL 0 1000 l then 0 else 2):=by
 unfold cG
 have h:=kC (step:=aY (l.length:Int) l) (n:=l.length) (r:=()) (p:=fun k=>(oT 0 1000 l k).map fun _=>((k:Int),(2:Int))) (fun k hk _=>by
  dsimp only[aY]
  rw[b5 (by simpa using hk)]
  unfold cK
  rw[fJ hk,a8,swith2,a8]
  dsimp only
  rw[sref1,a8,a8]
  unfold oT
  by_cases q:0≤l.getD k 0∧l.getD k 0≤1000
  ·rw[b5 q,g6 q]
   simp only[Bool.not_true,Bool.false_eq_true,if_false,ne_eq,not_true_eq_false,decide_false]
   rw[w64 (by omega)];rfl
  ·rw[b6 q,decide_eq_false q];rfl) (fun _=>by
  dsimp only[aY]
  rw[b6 (by simp)])
 rw[h]
 cases e:bJ (fun k=>(oT 0 1000 l k).map fun _=>((k:Int),(2:Int))) l.length with
 | none =>
  refine⟨0,?_⟩
  have:inL 0 1000 l:=outL_none.1 (firstOf_none.2 fun k hk=>by
   have:=firstOf_none.1 e k hk
   cases hq:oT 0 1000 l k with
   | none=>rfl
   | some x=>rw[hq] at this;cases this)
  rw[b5 this];rfl
 | some x =>
  have hn:¬ inL 0 1000 l:=fun g=>by
   have:=outL_none.2 g
   have:bJ (fun k=>(oT 0 1000 l k).map fun _=>((k:Int),(2:Int))) l.length=none:=firstOf_none.2 fun k hk=>by
    rw[firstOf_none.1 this k hk];rfl
   rw[this] at e;cases e
  rw[b6 hn]
  have hx2:x.2=2:=by
   have:∃ k,(oT 0 1000 l k).map (fun _=>((k:Int),(2:Int)))=some x:=by
    unfold bJ at e
    obtain⟨k,_,hk⟩:=List.exists_of_findSome?_eq_some e
    exact⟨k,hk⟩
   obtain⟨k,hk⟩:=this
   cases ho:oT 0 1000 l k with
   | none=>rw[ho] at hk;cases hk
   | some u=>rw[ho] at hk;cases hk;rfl
  obtain⟨x1,x2⟩:=x
  dsimp only at hx2
  subst hx2
  exact⟨x1,rfl⟩
theorem As(l:List Int)(hl:l.length≤1000):cH l=some (lvV l):=by
 unfold cH bE bB dB aX lvV
 obtain⟨k,hk⟩:=zU l hl
 rw[swithin,a8,a8]
 dsimp only
 rw[hk,a8]
 dsimp only
 rw[a8,sref1,a8]
 by_cases q:1≤l.length∧l.length≤8
 ·have q':(1:Int)≤(l.length:Int)∧(l.length:Int)≤8:=by omega
  rw[g6 q',b6 (not_not_intro q)]
  simp only[Bool.not_true,Bool.false_eq_true,if_false,ne_eq,not_true_eq_false,decide_false,Option.bind_some]
  by_cases r:inL 0 1000 l
  ·rw[b5 r];rfl
  ·rw[b6 r];rfl
 ·have q':¬((1:Int)≤(l.length:Int)∧(l.length:Int)≤8):=by omega
  rw[decide_eq_false q',b5 q];rfl
theorem xT(l:List Int)(hl:l.length≤1000):cW l=some (lvV l):=by
 unfold cW lvV
 rw[iZ,a8]
 by_cases q:1≤l.length∧l.length≤8
 rotate_left
 ·have q':¬((1:Int)≤(l.length:Int)∧(l.length:Int)≤8):=by omega
  rw[decide_eq_false q',b5 q];rfl
 have q':(1:Int)≤(l.length:Int)∧(l.length:Int)≤8:=by omega
 rw[g6 q',b5 rfl,b6 (not_not_intro q)]
 have h:=kC (step:=bV l) (n:=l.length) (r:=()) (p:=oT 0 1000 l) (fun k hk _=>by
  dsimp only[bV]
  rw[b5 (by simpa using hk),fJ hk,a8,iZ,a8]
  unfold oT
  by_cases q:0≤l.getD k 0∧l.getD k 0≤1000
  ·rw[g6 q,b5 rfl,b5 q,w64 (by omega)];rfl
  ·rw[decide_eq_false q,b6 q];rfl) (fun _=>by
  dsimp only[bV]
  rw[b6 (by simp)])
 rw[h]
 by_cases r:inL 0 1000 l
 ·rw[outL_none.2 r,b5 r];rfl
 ·rw[b6 r]
  cases e:bJ (oT 0 1000 l) l.length with
  | none=>exact absurd (outL_none.1 e) r
  | some _=>rfl
end Go.Rex
open Go Go.Rex
set_option maxRecDepth 100000
namespace Go.Rex
def iN(a b:List Int)(n k:Int)(i:Nat):Int:=if k<n then a.getD i 0+(2*((b.getD i 0-a.getD i 0)*k)+n)/(2*n) else b.getD i 0
def outL'(a b:List Int)(n k:Int):List Int:=(List.range b.length).map (iN a b n k)
section
variable {a b:List Int} {n k:Int} (ha:1≤a.length∧a.length≤8) (hab:a.length=b.length) (ia:inL 0 1000 a) (ib:inL 0 1000 b) (hn:0≤n∧n≤1000) (hk:0≤k∧k≤n)
include ha hab ia ib hn hk
theorem bds{i:Nat}(hi:i<b.length):(0≤a.getD i 0∧a.getD i 0≤1000)∧(0≤b.getD i 0∧b.getD i 0≤1000)∧(-1000000≤(b.getD i 0-a.getD i 0)*k∧(b.getD i 0-a.getD i 0)*k≤1000000):=by
 have h1:=ia i (by omega)
 have h2:=ib i hi
 refine⟨h1,h2,?_⟩
 generalize b.getD i 0=y at *
 generalize a.getD i 0=x at *
 have e1:=Int.mul_le_mul (show y-x≤1000 by omega) (show k≤1000 by omega) hk.1 (by omega)
 have e2:=Int.mul_le_mul (show -(y-x)≤1000 by omega) (show k≤1000 by omega) hk.1 (by omega)
 rw[Int.neg_mul] at e2
 omega
theorem sW{i:Nat}(hi:i<b.length):(if b.getD i 0<a.getD i 0 then b.getD i 0 else a.getD i 0)≤iN a b n k i∧iN a b n k i≤(if b.getD i 0>a.getD i 0 then b.getD i 0 else a.getD i 0):=by
 obtain⟨h1,h2,h3⟩:=bds ha hab ia ib hn hk hi
 unfold iN
 generalize b.getD i 0=y at *
 generalize a.getD i 0=x at *
 by_cases q:k<n
 rotate_left
 ·rw[b6 q]
  split<;>split<;>omega
 rw[b5 q]
 have hp:0<2*n:=by omega
 by_cases s:x≤y
 ·have m1:=Int.mul_nonneg (show (0:Int)≤y-x by omega) hk.1
  have m2:=Int.mul_le_mul_of_nonneg_left (show k≤n by omega) (show (0:Int)≤y-x by omega)
  have e:(y-x+1)*(2*n)=2*((y-x)*n)+2*n:=by rw[Int.add_mul,Int.mul_left_comm];omega
  have d1:0≤(2*((y-x)*k)+n)/(2*n):=Int.ediv_nonneg (by omega) (by omega)
  have d2:(2*((y-x)*k)+n)/(2*n)<y-x+1:=Int.ediv_lt_of_lt_mul hp (by omega)
  split<;>split<;>omega
 ·have m1:=Int.mul_nonneg (show (0:Int)≤x-y by omega) hk.1
  have m2:=Int.mul_le_mul_of_nonneg_left (show k≤n by omega) (show (0:Int)≤x-y by omega)
  have n1:(y-x)*k = - ((x-y)*k):=by rw[← Int.neg_mul];congr 1;omega
  have e:(y-x)*(2*n) = - (2*((x-y)*n)):=by rw[Int.mul_left_comm,show y-x = -(x-y) by omega,Int.neg_mul];omega
  have d1:y-x≤(2*((y-x)*k)+n)/(2*n):=Int.le_ediv_of_mul_le hp (by omega)
  have d2:(2*((y-x)*k)+n)/(2*n)<1:=Int.ediv_lt_of_lt_mul hp (by omega)
  split<;>split<;>omega
omit ha hab ia ib in
theorem Bm{q:Int}(hkn:k<n)(hq:-1000000≤q∧q≤1000000):fN q n=some ((2*q+n)/(2*n))∧-2000000≤(2*q+n)/(2*n)∧(2*q+n)/(2*n)≤2000000:=by
 have hp:0<2*n:=by omega
 have hb:-2000000≤(2*q+n)/(2*n)∧(2*q+n)/(2*n)≤2000000:=by
  have:=Bo (x:=2*q+n) (y:=2*n) (b:=2001000) hp (by omega) (by omega)
  constructor
  ·exact Int.le_ediv_of_mul_le hp (by omega)
  ·have h1:(2*q+n)/(2*n)<2000001:=Int.ediv_lt_of_lt_mul hp (by omega)
   omega
 refine⟨?_,hb⟩
 unfold fN jE
 rw[w64 (x:=2*q) (by omega),w64 (x:=2*q+n) (by omega),w64 (x:=2*n) (by omega)]
 have hu:-2001000≤2*q+n∧2*q+n≤2001000:=by omega
 generalize 2*q+n=u at *
 generalize hv:2*n=v at *
 rw[b6 (by omega)]
 have t1:=rQ (x:=u) hp
 have r1:=Int.emod_nonneg u (show v≠0 by omega)
 have r2:=Int.emod_lt_of_pos u hp
 have t2:(u.tmod v+v).tmod v=u%v:=by
  by_cases c:u.tmod v<0
  ·rw[b5 c] at t1
   rw[t1,show u%v-v+v=u%v by omega,Int.tmod_eq_emod_of_nonneg r1,Int.emod_eq_of_lt r1 r2]
  ·rw[b6 c] at t1
   rw[t1,Int.tmod_eq_emod_of_nonneg (by omega),Int.add_emod_right,Int.emod_emod]
 have t3:-2000≤u.tmod v∧u.tmod v≤2000:=by
  by_cases c:u.tmod v<0
  ·rw[b5 c] at t1;omega
  ·rw[b6 c] at t1;omega
 have e:=Int.emod_add_mul_ediv u v
 have hd:(u-u%v)=v*(u/v):=by omega
 have ht:(v*(u/v)).tdiv v=u/v:=Int.mul_tdiv_cancel_left _ (by omega)
 rw[w64 (x:=u.tmod v+v) (by omega),t2,w64 (x:=u-u%v) (by omega),hd,ht,w64 (x:=u/v) (by omega)]
 rfl
theorem yZ:eA a b n k=some (outL' a b n k):=by
 unfold eA
 have hc:cC b=some b:=by
  unfold cC nilq
  rw[copyI' (l:=b) (by omega),a8]
  have:b≠[]:=fun h=>by
   have h2:b.length=0:=by rw[h];rfl
   omega
  rw[b6 this]
 rw[hc,a8]
 by_cases q:k=n
 ·rw[b5 (by simpa using q)]
  congr 1
  unfold outL'
  apply j4
  intro i
  by_cases hi:i<b.length
  ·rw[d8,k7 hi,a9 hi]
   simp only[Option.map_some]
   unfold iN
   rw[b6 (by omega),i5,a9 hi];rfl
  ·rw[j3 (by omega),j3 (by simp;omega)]
 rw[b6 (by simpa using q)]
 have hkn:k<n:=by omega
 have hr:=kQ (step:=cP a b n k) (e:=outL' a b n k) (fun i=>((List.range b.length).map (fun j=>if j<i then iN a b n k j else b.getD j 0),(i:Int))) (n:=b.length) (fun i hi=>by
  obtain⟨h1,h2,h3⟩:=bds ha hab ia ib hn hk hi
  obtain⟨n1,n2⟩:=Bm hn hk hkn h3
  dsimp only[cP]
  rw[g6 (show ((i:Int)<(a.length:Int)) by omega),b5 rfl,fJ (show i<a.length by omega),a8,fJ hi,a8,w64 (x:=b.getD i 0-a.getD i 0) (by omega),w64 (x:=(b.getD i 0-a.getD i 0)*k) (by omega),n1,a8,fJ (l:=(List.range b.length).map _) (show i<_ by simp;omega),a8,w64 (by omega),wsucc (k:=i) (n:=b.length) (by omega) (by omega),Int.toNat_natCast]
  have eo:iN a b n k i=a.getD i 0+(2*((b.getD i 0-a.getD i 0)*k)+n)/(2*n):=by unfold iN;rw[b5 hkn]
  rw[← eo]
  congr 3
  apply j4
  intro q
  rw[j8]
  by_cases hq:i=q
  ·subst hq
   rw[b5 rfl]
   simp[hi]
  ·rw[b6 hq]
   simp only[List.getElem?_map]
   by_cases hqm:q<b.length
   ·rw[k7 hqm]
    simp only[Option.map_some]
    by_cases r:q<i
    ·rw[b5 r,b5 (by omega)]
    ·rw[b6 r,b6 (by omega)]
   ·rw[j3 (by simp;omega)];rfl) (by
  dsimp only[cP]
  rw[decide_eq_false (by omega)]
  simp only[Bool.false_eq_true,if_false]
  congr 2
  apply List.map_congr_left
  intro j hj
  rw[b5 (by simpa using hj)])
 have e0:(b,(0:Int))=((List.range b.length).map (fun j=>if j<0 then iN a b n k j else b.getD j 0),((0:Nat):Int)):=by
  congr 1
  apply j4
  intro i
  by_cases hi:i<b.length
  ·rw[d8,k7 hi,a9 hi]
   simp[List.getElem?_eq_getElem hi]
  ·rw[j3 (by omega),j3 (by simp;omega)]
 rw[e0,hr];rfl
end
theorem eK(a b:List Int)(n k:Int):(outL' a b n k).length=b.length:=by unfold outL';simp
theorem kP{a b:List Int}{n k:Int}{i:Nat}(hi:i<b.length):(outL' a b n k).getD i 0=iN a b n k i:=by
 unfold outL'
 rw[i5,d8,k7 hi];rfl
end Go.Rex
open Go Go.Rex
set_option maxRecDepth 100000
namespace Go.Rex
abbrev Move:=Int×List Int×Int
def mov(l:List Move)(k:Nat):Move:=l.getD k (0,[],0)
theorem mvD{l:List Move}{k:Nat}(h:k<l.length):cJ l (k:Int)=some (mov l k):=by
 unfold mov
 rw[qH,i5,a9 h];rfl
theorem Cc(b1 b2 b3 b4:Bool)(l:List Int)(hl:l.length≤1000):bF b1 2 b2 9 l b3 13 b4 2=some (if b1=true then 2 else if b2=true then 9 else if lvV l≠0 then lvV l else if b3=true then 13 else if b4=true then 2 else 0):=by
 unfold bF
 rw[sref1,sref1,sref1,sref1,As l hl]
 cases b1
 ·cases b2
  ·simp only[Bool.false_eq_true,if_false,Option.bind_some,ne_eq,not_true_eq_false,decide_false]
   by_cases q:lvV l=0
   ·rw[b6 (by simpa using q),b6 (not_not_intro q)]
    cases b3
    ·cases b4<;>rfl
    ·rfl
   ·rw[b5 (by simpa using q),b5 q]
  ·rfl
 ·rfl
def mvE(l:List Move)(k:Nat):Int:=
 if ¬(0≤(mov l k).1∧(mov l k).1≤100000000) then 2 else if 0<k∧(mov l k).1<(mov l (k-1)).1 then 9 else if lvV (mov l k).2.1≠0 then lvV (mov l k).2.1 else
  if (mov l k).2.1.length≠(mov l 0).2.1.length then 13 else if ¬(0≤(mov l k).2.2∧(mov l k).2.2≤1000) then 2 else 0
theorem Eu{l:List Move}(hl:∀ k,k<l.length→(mov l k).2.1.length≤1000)(hn:l.length≤1000){k:Nat}(hk:k<l.length):bG (k:Int) l=some (mvE l k):=by
 unfold bG iF bE fP fM mvE
 have h0:=mvD (l:=l) (k:=0) (by omega)
 rw[show ((0:Nat):Int)=0 from rfl] at h0
 rw[mvD hk,a8]
 have hlk:=hl k hk
 by_cases q:0<k
 ·have hp:=mvD (l:=l) (k:=k-1) (by omega)
  have e1:IntKind.i64.wrap ((k:Int)-1)=((k-1:Nat):Int):=by rw[w64 (by omega)];omega
  rw[e1,hp,h0]
  generalize mov l k=x at *
  generalize mov l (k-1)=y at *
  generalize mov l 0=z at *
  obtain⟨x1,x2,x3⟩:=x
  obtain⟨y1,y2,y3⟩:=y
  obtain⟨z1,z2,z3⟩:=z
  dsimp only[Option.bind_some]
  rw[swith2,swith2]
  dsimp only[Option.bind_some]
  rw[b5 (by simpa using q),Cc _ _ _ _ _ hlk]
  dsimp only[Option.bind_some]
  congr 1
  by_cases g1:0≤x1∧x1≤100000000
  ·rw[g6 g1,b6 (by simp),b6 (not_not_intro g1)]
   by_cases g2:x1<y1
   ·rw[g6 g2,b5 rfl,b5 ⟨q,g2⟩]
   ·rw[decide_eq_false g2,b6 (by simp),b6 (show ¬(0<k∧x1<y1) from fun g=>g2 g.2)]
    by_cases g3:lvV x2=0
    ·rw[b6 (not_not_intro g3),b6 (not_not_intro g3)]
     by_cases g4:x2.length=z2.length
     ·rw[decide_eq_false (show ¬((x2.length:Int)≠(z2.length:Int)) by omega),b6 (by simp),b6 (not_not_intro g4)]
      by_cases g5:0≤x3∧x3≤1000
      ·rw[g6 g5,b6 (by simp),b6 (not_not_intro g5)]
      ·rw[decide_eq_false g5,b5 (by simp),b5 g5]
     ·rw[g6 (show ((x2.length:Int)≠(z2.length:Int)) by omega),b5 rfl,b5 g4]
    ·rw[b5 g3,b5 g3]
  ·rw[decide_eq_false g1,b5 (by simp),b5 g1]
 ·have hk0:k=0:=by omega
  subst hk0
  rw[show ((0:Nat):Int)=0 from rfl,h0]
  generalize mov l 0=x at *
  obtain⟨x1,x2,x3⟩:=x
  dsimp only[Option.bind_some]
  rw[swith2,swith2]
  dsimp only[Option.bind_some]
  rw[b6 (by simp),Cc _ _ _ _ _ hlk]
  dsimp only[Option.bind_some]
  congr 1
  by_cases g1:0≤x1∧x1≤100000000
  ·rw[g6 g1,b6 (by simp),b6 (not_not_intro g1),b6 (by simp),b6 (show ¬(0<0∧x1<x1) from fun g=>q g.1)]
   by_cases g3:lvV x2=0
   ·rw[b6 (not_not_intro g3),b6 (not_not_intro g3),decide_eq_false (show ¬((x2.length:Int)≠(x2.length:Int)) from fun g=>g rfl),b6 (by simp),b6 (show ¬(x2.length≠x2.length) from fun g=>g rfl)]
    by_cases g5:0≤x3∧x3≤1000
    ·rw[g6 g5,b6 (by simp),b6 (not_not_intro g5)]
    ·rw[decide_eq_false g5,b5 (by simp),b5 g5]
   ·rw[b5 g3,b5 g3]
  ·rw[decide_eq_false g1,b5 (by simp),b5 g1]
def mvP(l:List Move)(k:Nat):Option (Int×Int):=if mvE l k≠0 then some ((k:Int),mvE l k) else none
def rC(l:List Move):Int×Int:=if 40<l.length then (0,8) else match bJ (mvP l) l.length with|some e=>e|none=>(0,0)
theorem lK{l:List Move}(hl:∀ k,k<l.length→(mov l k).2.1.length≤1000)(hn:l.length≤1000):cX l=some (rC l):=by
 unfold cX rC cY
 by_cases q:40<l.length
 ·rw[g6 (show (l.length:Int)>40 by omega),b5 rfl,b5 q]
 rw[decide_eq_false (show ¬(l.length:Int)>40 by omega),b6 (by simp),b6 q]
 have h:=kC (step:=aW (l.length:Int) l) (n:=l.length) (r:=()) (p:=mvP l) (fun k hk _=>by
  dsimp only[aW]
  rw[b5 (by simpa using hk),Eu hl hn hk,a8]
  unfold mvP
  by_cases r:mvE l k=0
  ·rw[b6 (by simpa using r),b6 (not_not_intro r),w64 (by omega)];rfl
  ·rw[b5 (by simpa using r),b5 r]) (fun _=>by
  dsimp only[aW]
  rw[b6 (by simp)])
 rw[h]
 cases e:bJ (mvP l) l.length with
 | none=>rfl
 | some x=>rfl
theorem yK{l:List Move}(hl:∀ k,k<l.length→(mov l k).2.1.length≤1000)(hn:l.length≤1000):dK l=some (rC l):=by
 unfold dK rC
 by_cases q:40<l.length
 ·rw[g6 (show (l.length:Int)>40 by omega),b5 rfl,b5 q]
 rw[decide_eq_false (show ¬(l.length:Int)>40 by omega),b6 (by simp),b6 q]
 have h:=kC (step:=bN l) (n:=l.length) (r:=()) (p:=mvP l) (fun k hk _=>by
  have h0:=mvD (l:=l) (k:=0) (by omega)
  rw[show ((0:Nat):Int)=0 from rfl] at h0
  have hlk:=hl k hk
  have es:IntKind.i64.wrap ((k:Int)+1)=((k+1:Nat):Int):=by rw[w64 (by omega)];rfl
  dsimp only[bN]
  rw[b5 (by simpa using hk),mvD hk,a8,h0,es]
  unfold eW
  have mk:∀ c:Int,c≠0→mvE l k=c→mvP l k=some ((k:Int),c):=fun c hc he=>by unfold mvP;rw[he,b5 hc]
  have mk0:mvE l k=0→mvP l k=none:=fun he=>by unfold mvP;rw[he,b6 (by simp)]
  by_cases g1:0≤(mov l k).1∧(mov l k).1≤100000000
  rotate_left
  ·rw[mk 2 (by decide) (by unfold mvE;rw[b5 g1]),iZ,decide_eq_false g1];rfl
  rw[iZ,g6 g1,a8,b5 rfl]
  have tail9 : ¬ (0 < k ∧ (mov l k).1 < (mov l (k - 1)).1) → mvE l k = if lvV (mov l k).2.1 ≠ 0 then lvV (mov l k).2.1 else
      if (mov l k).2.1.length≠(mov l 0).2.1.length then 13 else if ¬(0≤(mov l k).2.2∧(mov l k).2.2≤1000) then 2 else 0:=fun g=>by unfold mvE;rw[b6 (not_not_intro g1),b6 g]
  by_cases q:0<k
  ·have hp:=mvD (l:=l) (k:=k-1) (by omega)
   have e1:IntKind.i64.wrap ((k:Int)-1)=((k-1:Nat):Int):=by rw[w64 (by omega)];omega
   rw[b5 (by simpa using q),e1,hp,a8]
   by_cases g2:(mov l k).1<(mov l (k-1)).1
   ·rw[mk 9 (by decide) (by unfold mvE;rw[b6 (not_not_intro g1),b5 (show 0<k∧(mov l k).1<(mov l (k-1)).1 from ⟨q,g2⟩)]),g6 g2];rfl
   have t9:=tail9 (fun g=>g2 g.2)
   rw[decide_eq_false g2,b6 (by simp),xT _ hlk,a8]
   by_cases g3:lvV (mov l k).2.1=0
   rotate_left
   ·rw[mk _ g3 (by rw[t9,b5 g3]),b5 (by simpa using g3)]
   rw[b6 (not_not_intro g3)] at t9
   rw[b6 (by simpa using g3),a8]
   by_cases g4:(mov l k).2.1.length=(mov l 0).2.1.length
   rotate_left
   ·rw[mk 13 (by decide) (by rw[t9,b5 g4]),g6 (show (((mov l k).2.1.length:Int)≠((mov l 0).2.1.length:Int)) by omega),b5 rfl]
   rw[b6 (not_not_intro g4)] at t9
   rw[decide_eq_false (show ¬(((mov l k).2.1.length:Int)≠((mov l 0).2.1.length:Int)) by omega),b6 (by simp),iZ,a8,a8]
   by_cases g5:0≤(mov l k).2.2∧(mov l k).2.2≤1000
   ·rw[mk0 (by rw[t9,b6 (not_not_intro g5)]),g6 g5,b5 rfl]
   ·rw[mk 2 (by decide) (by rw[t9,b5 g5]),decide_eq_false g5,b6 (by simp)]
  ·have t9:=tail9 (fun g=>q g.1)
   rw[b6 (by simpa using q),xT _ hlk,a8]
   by_cases g3:lvV (mov l k).2.1=0
   rotate_left
   ·rw[mk _ g3 (by rw[t9,b5 g3]),b5 (by simpa using g3)]
   rw[b6 (not_not_intro g3)] at t9
   rw[b6 (by simpa using g3),a8]
   by_cases g4:(mov l k).2.1.length=(mov l 0).2.1.length
   rotate_left
   ·rw[mk 13 (by decide) (by rw[t9,b5 g4]),g6 (show (((mov l k).2.1.length:Int)≠((mov l 0).2.1.length:Int)) by omega),b5 rfl]
   rw[b6 (not_not_intro g4)] at t9
   rw[decide_eq_false (show ¬(((mov l k).2.1.length:Int)≠((mov l 0).2.1.length:Int)) by omega),b6 (by simp),iZ,a8,a8]
   by_cases g5:0≤(mov l k).2.2∧(mov l k).2.2≤1000
   ·rw[mk0 (by rw[t9,b6 (not_not_intro g5)]),g6 g5,b5 rfl]
   ·rw[mk 2 (by decide) (by rw[t9,b5 g5]),decide_eq_false g5,b6 (by simp)]) (fun _=>by
  dsimp only[bN]
  rw[b6 (by simp)])
 rw[h]
 cases e:bJ (mvP l) l.length with
 | none=>rfl
 | some x=>rfl
end Go.Rex
open Go Go.Rex
set_option maxRecDepth 100000
namespace Go.Rex
structure MvOk(l:List Move):Prop where
 n:l.length≤40
 tick:∀ k,k<l.length→0≤(mov l k).1∧(mov l k).1≤100000000
 asc:∀ k,k+1<l.length→(mov l k).1≤(mov l (k+1)).1
 lev:∀ k,k<l.length→(1≤(mov l k).2.1.length∧(mov l k).2.1.length≤8)∧inL 0 1000 (mov l k).2.1
 len:∀ k,k<l.length→(mov l k).2.1.length=(mov l 0).2.1.length
 stp:∀ k,k<l.length→0≤(mov l k).2.2∧(mov l k).2.2≤1000
theorem Cv{l:List Int}(h:lvV l=0):(1≤l.length∧l.length≤8)∧inL 0 1000 l:=by
 unfold lvV at h
 by_cases q:1≤l.length∧l.length≤8
 ·rw[b6 (not_not_intro q)] at h
  by_cases r:inL 0 1000 l
  ·exact⟨q,r⟩
  ·rw[b6 r] at h;omega
 ·rw[b5 q] at h;omega
theorem pJ{l:List Move}{k:Nat}(e:mvE l k=0):(0≤(mov l k).1∧(mov l k).1≤100000000)∧¬(0<k∧(mov l k).1<(mov l (k-1)).1)∧lvV (mov l k).2.1=0∧(mov l k).2.1.length=(mov l 0).2.1.length∧(0≤(mov l k).2.2∧(mov l k).2.2≤1000):=by
 unfold mvE at e
 by_cases g1:0≤(mov l k).1∧(mov l k).1≤100000000
 rotate_left
 ·rw[b5 g1] at e;omega
 rw[b6 (not_not_intro g1)] at e
 by_cases g2:0<k∧(mov l k).1<(mov l (k-1)).1
 ·rw[b5 g2] at e;omega
 rw[b6 g2] at e
 by_cases g3:lvV (mov l k).2.1=0
 rotate_left
 ·rw[b5 g3] at e;exact absurd e g3
 rw[b6 (not_not_intro g3)] at e
 by_cases g4:(mov l k).2.1.length=(mov l 0).2.1.length
 rotate_left
 ·rw[b5 g4] at e;omega
 rw[b6 (not_not_intro g4)] at e
 by_cases g5:0≤(mov l k).2.2∧(mov l k).2.2≤1000
 ·exact⟨g1,g2,g3,g4,g5⟩
 ·rw[b5 g5] at e;omega
theorem Ec{l:List Move}(e:(rC l).2=0):MvOk l∧rC l=(0,0):=by
 unfold rC at e ⊢
 by_cases q:40<l.length
 ·rw[b5 q] at e;exact absurd e (by decide)
 rw[b6 q] at e ⊢
 cases h:bJ (mvP l) l.length with
 | some x =>
  rw[h] at e
  unfold bJ at h
  obtain⟨k,_,hk⟩:=List.exists_of_findSome?_eq_some h
  unfold mvP at hk
  by_cases r:mvE l k=0
  ·rw[b6 (not_not_intro r)] at hk;cases hk
  ·rw[b5 r] at hk;cases hk;exact absurd e r
 | none =>
  have hz:∀ k,k<l.length→mvE l k=0:=fun k hk=>by
   have:=firstOf_none.1 h k hk
   unfold mvP at this
   by_cases r:mvE l k=0
   ·exact r
   ·rw[b5 r] at this;cases this
  refine⟨⟨by omega,fun k hk=>(pJ (hz k hk)).1,fun k hk=>?_,fun k hk=>Cv (pJ (hz k hk)).2.2.1,fun k hk=>(pJ (hz k hk)).2.2.2.1,fun k hk=>(pJ (hz k hk)).2.2.2.2⟩,rfl⟩
  have:=(pJ (hz (k+1) hk)).2.1
  rw[Nat.add_sub_cancel] at this
  exact Int.not_lt.1 fun g=>this ⟨by omega,g⟩
def lC(l:List Move)(v:Int)(k:Nat):Int:=
 let d:=if k+1<l.length then (if (mov l (k+1)).1<v then (mov l (k+1)).1 else v)-(mov l k).1 else v-(mov l k).1
 if (mov l k).2.2<d then (mov l k).2.2 else d
def uB(l:List Move)(v:Int)(b:List Int)(k:Nat):List Int ⊕ List Int:=if (mov l k).1>v then .inr b else .inl (outL' b (mov l k).2.1 (mov l k).2.2 (lC l v k))
section
variable {l:List Move} (M:MvOk l) {v:Int} (hv:0≤v∧v≤200000000)
include M hv
theorem Al{k:Nat}(hk:k<l.length)(hq:¬(mov l k).1>v):0≤lC l v k∧lC l v k≤(mov l k).2.2:=by
 have h1:=M.stp k hk
 unfold lC
 by_cases q:k+1<l.length
 ·have:=M.asc k q
  simp only[if_pos q]
  split<;>split<;>omega
 ·simp only[if_neg q]
  split<;>omega
theorem Ae{k:Nat}(hk:k<l.length)(hq:¬(mov l k).1>v){b:List Int}(hb:b.length=(mov l 0).2.1.length)(ib:inL 0 1000 b):(outL' b (mov l k).2.1 (mov l k).2.2 (lC l v k)).length=(mov l 0).2.1.length∧inL 0 1000 (outL' b (mov l k).2.1 (mov l k).2.2 (lC l v k)):=by
 have h1:=M.lev k hk
 have h2:=M.len k hk
 have h3:=Al M hv hk hq
 refine⟨by rw[eK,h2],fun i hi=>?_⟩
 rw[eK] at hi
 rw[kP hi]
 have:=sW (a:=b) (b:=(mov l k).2.1) (n:=(mov l k).2.2) (k:=lC l v k) (by omega) (by omega) ib h1.2 (M.stp k hk) h3 hi
 have e1:=ib i (by omega)
 have e2:=h1.2 i hi
 split at this<;>split at this<;>omega
theorem Dv{step:List Int×Int→Option (List Int×Int ⊕ List Int)}(hs:∀ k b,k<l.length→b.length=(mov l 0).2.1.length→inL 0 1000 b→step (b,(k:Int))=some (match uB l v b k with | .inl b'=>.inl (b',((k+1:Nat):Int)) | .inr e=>.inr e))
 (he:∀ b,step (b,(l.length:Int))=some (.inr b)) {b0:List Int} (h0:b0.length=(mov l 0).2.1.length) (i0:inL 0 1000 b0):run step (b0,0)=some (walk (uB l v) id b0 (List.range l.length)):=by
 have:=yR (step:=step) (fun (k:Nat) (b:List Int)=>(b,(k:Int))) (uB l v) id (fun _ b=>b.length=(mov l 0).2.1.length∧inL 0 1000 b) (List.range l.length) (fun k x b hx hI=>by
  obtain⟨hk,e⟩:=a7.1 hx
  have hk':k<l.length:=by simpa using hk
  have hx':k=x:=by simpa using e
  subst hx'
  refine⟨by rw[hs k b hk' hI.1 hI.2];cases uB l v b k<;>rfl,fun b' hb'=>?_⟩
  unfold uB at hb'
  by_cases q:(mov l k).1>v
  ·rw[b5 q] at hb';cases hb'
  ·rw[b6 q] at hb';cases hb'
   exact Ae M hv hk' q hI.1 hI.2) (fun b _=>by rw[List.length_range];exact he b) (b0:=b0) ⟨h0,i0⟩
 exact this
end
end Go.Rex
open Go Go.Rex
set_option maxRecDepth 100000
namespace Go.Rex
theorem tK(e:Int)(b:Bool)(c:Int)(hc:c≠0):bH e b c=some (if e≠0 then e else if b=true then c else 0):=by
 unfold bH aX
 rw[a8,sref1]
 by_cases q:e=0
 ·rw[b6 (by simpa using q),b6 (not_not_intro q)]
  cases b
  ·rfl
  ·simp only[if_true,Option.bind_some]
   rw[b5 (by simpa using hc)]
 ·rw[b5 (by simpa using q),b5 q]
theorem xM{l:List Move}{step:Int→Option (Int ⊕ (Unit ⊕ Unit))}(hs:step=aS l∨step=aR l)(hn:l.length≤42) :
 ∃ b:Bool,run step 0=some (if b=true then .inr () else .inl ())∧(b=true→∀ k,k<l.length→(mov l k).2.1.length≤10):=by
 have h:=kC (step:=step) (n:=l.length) (r:=()) (p:=fun k=>if (mov l k).2.1.length≤10 then none else some ()) (fun k hk _=>by
  rcases hs with rfl|rfl
  all_goals
   first|dsimp only[aS]|dsimp only[aR]
   unfold dY
   rw[b5 (by simpa using hk),mvD hk,a8,a8]
   by_cases q:(mov l k).2.1.length≤10
   ·rw[g6 (show ((mov l k).2.1.length:Int)≤10 by omega),b5 rfl,b5 q,w64 (by omega)];rfl
   ·rw[decide_eq_false (show ¬((mov l k).2.1.length:Int)≤10 by omega),b6 (by simp),b6 q]) (fun _=>by
  rcases hs with rfl|rfl
  ·dsimp only[aS];rw[b6 (by simp)]
  ·dsimp only[aR];rw[b6 (by simp)])
 cases e:bJ (fun k=>if (mov l k).2.1.length≤10 then none else some ()) l.length with
 | none =>
  refine⟨true,by rw[h,e];rfl,fun _ k hk=>?_⟩
  have:=firstOf_none.1 e k hk
  by_cases q:(mov l k).2.1.length≤10
  ·exact q
  ·rw[b6 q] at this;cases this
 | some x=>exact⟨false,by rw[h,e];rfl,by simp⟩
theorem Dc(l:List Move):∃ b:Bool,eJ l=some b∧(b=true→l.length≤42∧∀ k,k<l.length→(mov l k).2.1.length≤10):=by
 unfold eJ
 by_cases q1:(l.length:Int)>8
 ·by_cases q2:(l.length:Int)≤40
  ·exact⟨false,by rw[b5 (by simpa using q1),b5 (by simpa using q2)],by simp⟩
  by_cases q3:(l.length:Int)>42
  ·exact⟨false,by rw[b5 (by simpa using q1),b6 (by simpa using q2),b5 (by simpa using q3)],by simp⟩
  obtain⟨b,h1,h2⟩:=xM (.inl rfl:aS l=aS l∨aS l=aR l) (by omega)
  refine⟨b,?_,fun g=>⟨by omega,h2 g⟩⟩
  rw[b5 (by simpa using q1),b6 (by simpa using q2),b6 (by simpa using q3),h1]
  cases b<;>rfl
 ·by_cases q3:(l.length:Int)>42
  ·omega
  obtain⟨b,h1,h2⟩:=xM (.inr rfl:aR l=aS l∨aR l=aR l) (by omega)
  refine⟨b,?_,fun g=>⟨by omega,h2 g⟩⟩
  rw[b6 (by simpa using q1),b6 (by simpa using q3),h1]
  cases b<;>rfl
theorem Cj{l:List Move}(hn:l.length≤42)(hl:∀ k,k<l.length→(mov l k).2.1.length≤10):aF l=some l:=by
 unfold aF
 have hr:=kQ (step:=bW l) (e:=l) (fun k=>(l.take k,(k:Int))) (n:=l.length) (fun k hk=>by
  have hlk:=hl k hk
  dsimp only[bW]
  unfold fZ
  rw[b5 (by simpa using hk),mvD hk,a8,copyI' (e6 hlk (by decide)),a8,a8,Bh (by rw[List.length_take];omega) (by omega),a8,wsucc (k:=k) (n:=l.length) (by omega) (by omega)]
  have e:l.take (k+1)=l.take k++[l[k]]:=by rw[List.take_add_one,a9 hk];rfl
  have e2:mov l k=l[k]:=by unfold mov;rw[i5,a9 hk];rfl
  rw[e,← e2]) (by
  dsimp only[bW]
  rw[b6 (by simp),List.take_length])
 have e0:(([]:List Move),(0:Int))=(l.take 0,((0:Nat):Int)):=by simp
 rw[e0,hr];rfl
end Go.Rex
open Go Go.Rex
set_option maxRecDepth 100000
namespace Go.Rex
theorem Cu{x y:Int}(hy:0<y)(hy2:y≤2147483647):eE x y=some (x%y):=by
 unfold eE
 rw[b6 (by omega)]
 have h:=rQ (x:=x) hy
 have h1:=Int.emod_nonneg x (show y≠0 by omega)
 have h2:=Int.emod_lt_of_pos x hy
 by_cases q:x.tmod y<0
 ·rw[b5 q] at h
  rw[b5 (by simpa using q),h,w64 (by omega)]
  congr 1
  omega
 ·rw[b6 q] at h
  rw[b6 (by simpa using q),h]
def LV(l:List Move)(v:Int):List Int:=walk (uB l v) id (List.replicate (mov l 0).2.1.length 0) (List.range l.length)
section
variable {l:List Move} (M:MvOk l) {v:Int} (hv:0≤v∧v≤200000000)
include M hv
theorem uW(q:¬ l.length=0):eZ l v=some (LV l v):=by
 have hn:=M.n
 unfold eZ LV
 have h0:=mvD (l:=l) (k:=0) (by omega)
 rw[show ((0:Nat):Int)=0 from rfl] at h0
 have hl0:=M.lev 0 (by omega)
 have b0:(List.replicate (mov l 0).2.1.length (0:Int)).length=(mov l 0).2.1.length:=by simp
 have i0:inL 0 1000 (List.replicate (mov l 0).2.1.length (0:Int)):=fun i hi=>by
  rw[b0] at hi
  rw[i5,List.getElem?_replicate,b5 hi]
  simp
 rw[b6 (by simpa using q),h0,a8]
 dsimp only
 rw[By (n:=(mov l 0).2.1.length) (by omega),a8,Dv M hv (fun k b hk hb ib=>by
  have es:=wsucc (k:=k) (n:=l.length) (by omega) (by omega)
  dsimp only[dG]
  rw[b5 (by simpa using hk),mvD hk,a8,es]
  unfold uB
  by_cases g:(mov l k).1>v
  ·rw[b5 g,b5 (by simpa using g)]
  rw[b6 g,b6 (by simpa using g)]
  have hc:=Al M hv hk g
  have hp:=yZ (a:=b) (b:=(mov l k).2.1) (n:=(mov l k).2.2) (k:=lC l v k) (by have:=M.lev k hk;have:=M.len k hk;omega) (by have:=M.len k hk;omega) ib (M.lev k hk).2 (M.stp k hk) hc
  have ht:=M.tick k hk
  by_cases r:k+1<l.length
  ·have ht2:=M.tick (k+1) r
   rw[b5 (by simpa using (show ((k+1:Nat):Int)<(l.length:Int) by omega)),mvD r,a8]
   dsimp only
   rw[w64 (by split<;>omega)]
   have ec:lC l v k=if (mov l k).2.2<(if (mov l (k+1)).1<v then (mov l (k+1)).1 else v)-(mov l k).1 then (mov l k).2.2 else (if (mov l (k+1)).1<v then (mov l (k+1)).1 else v)-(mov l k).1:=by unfold lC;simp only[if_pos r]
   rw[← ec,hp];rfl
  ·rw[b6 (by simpa using (show ¬((k+1:Nat):Int)<(l.length:Int) by omega)),w64 (by omega)]
   have ec:lC l v k=if (mov l k).2.2<v-(mov l k).1 then (mov l k).2.2 else v-(mov l k).1:=by unfold lC;simp only[if_neg r]
   rw[← ec,hp];rfl) (fun b=>by
  dsimp only[dG]
  rw[b6 (by simp)]) b0 i0]
 rfl
end
theorem uL{β ε:Type}{f:β→Nat→β ⊕ ε}{fin:β→ε}(g:Nat→β):∀(m i:Nat),(∀ k,i≤k→k<i+m→f (g k) k = .inl (g (k+1)))→walk f fin (g i) (List.range' i m)=fin (g (i+m))
 | 0,i,_=>rfl
 | m+1,i,h=>by
  rw[List.range'_succ]
  simp only[walk]
  rw[h i (b7 _) (by omega)]
  simp only
  rw[uL g m (i+1) (fun k h1 h2=>h k (by omega) (by omega)),show i+1+m=i+(m+1) by omega]
def upB(l:List Move):Nat→List Int
 | 0=>List.replicate (mov l 0).2.1.length 0
 | k+1=>outL' (upB l k) (mov l k).2.1 (mov l k).2.2 (if (mov l k).2.2<(mov l (k+1)).1-(mov l k).1 then (mov l k).2.2 else (mov l (k+1)).1-(mov l k).1)
theorem zD{l:List Move}(M:MvOk l):∀(d k:Nat),k+d<l.length→(mov l k).1≤(mov l (k+d)).1
 | 0,k,_=>Int.le_refl _
 | d+1,k,h=>Int.le_trans (zD M d k (by omega)) (M.asc (k+d) (by omega))
theorem tD{l:List Move}(M:MvOk l){v:Int}{p:Nat}(hp:l.length=p+1)(hv:(mov l p).1≤v):LV l v=outL' (upB l p) (mov l p).2.1 (mov l p).2.2 (if (mov l p).2.2<v-(mov l p).1 then (mov l p).2.2 else v-(mov l p).1):=by
 have le:∀ k,k≤p→(mov l k).1≤(mov l p).1:=fun k hk=>by
  have:=zD M (p-k) k (by omega)
  rwa [show k+(p-k)=p by omega] at this
 have key:=uL (f:=uB l v) (fin:=id) (fun k=>if k≤p then upB l k else outL' (upB l p) (mov l p).2.1 (mov l p).2.2 (if (mov l p).2.2<v-(mov l p).1 then (mov l p).2.2 else v-(mov l p).1)) (p+1) 0 (fun k _ hk=>by
  have h1:=le k (by omega)
  try dsimp only
  unfold uB
  rw[b5 (show k≤p by omega),b6 (by omega)]
  congr 1
  by_cases q:k<p
  ·have h2:=le (k+1) (by omega)
   have ec:lC l v k=if (mov l k).2.2<(mov l (k+1)).1-(mov l k).1 then (mov l k).2.2 else (mov l (k+1)).1-(mov l k).1:=by
    unfold lC
    simp only[if_pos (show k+1<l.length by omega)]
    have e:(if (mov l (k+1)).1<v then (mov l (k+1)).1 else v)=(mov l (k+1)).1:=by split<;>omega
    rw[e]
   rw[b5 (show k+1≤p by omega),ec]
   rfl
  ·have e:k=p:=by omega
   subst e
   have ec:lC l v k=if (mov l k).2.2<v-(mov l k).1 then (mov l k).2.2 else v-(mov l k).1:=by
    unfold lC
    simp only[if_neg (show ¬ k+1<l.length by omega)]
   rw[b6 (show ¬ k+1≤k by omega),ec])
 try dsimp only at key
 rw[i6,b5 (g8 _),b6 (by omega)] at key
 unfold LV
 rw[List.range_eq_range',hp]
 exact key
theorem zE{l:List Move}(M:MvOk l):∀ k,k<l.length→(upB l k).length=(mov l 0).2.1.length∧inL 0 1000 (upB l k)
 | 0,h=>by
  have b0:(List.replicate (mov l 0).2.1.length (0:Int)).length=(mov l 0).2.1.length:=by simp
  refine⟨b0,fun i hi=>?_⟩
  unfold upB at hi ⊢
  rw[b0] at hi
  rw[i5,List.getElem?_replicate,b5 hi]
  simp
 | k+1,h=>by
  obtain⟨h1,h2⟩:=zE M k (by omega)
  have hk:k<l.length:=by omega
  have ha:=M.asc k h
  have hs:=M.stp k hk
  have g1:=M.lev k hk
  have g2:=M.len k hk
  unfold upB
  refine⟨by rw[eK,g2],fun i hi=>?_⟩
  rw[eK] at hi
  rw[kP hi]
  have:=sW (a:=upB l k) (b:=(mov l k).2.1) (n:=(mov l k).2.2) (k:=if (mov l k).2.2<(mov l (k+1)).1-(mov l k).1 then (mov l k).2.2 else (mov l (k+1)).1-(mov l k).1) (by omega) (by omega) h2 g1.2 hs (by split<;>omega) hi
  have e1:=h2 i (by omega)
  have e2:=g1.2 i hi
  generalize iN (upB l k) _ _ _ i=z at *
  split at this<;>split at this<;>omega
theorem rP{a b:List Int}(hl:a.length=b.length)(h:∀ k,k<a.length→a.getD k 0=b.getD k 0):a=b:=by
 apply j4
 intro k
 by_cases hk:k<a.length
 ·have:=h k hk
  rw[i5,i5,a9 hk,a9 (show k<b.length by omega)] at this
  rw[a9 hk,a9 (show k<b.length by omega)]
  exact congrArg some this
 ·rw[j3 (by omega),j3 (by omega)]
theorem Bw{a b:List Int}(n:Int):outL' a b n n=b:=by
 refine rP (eK _ _ _ _) (fun k hk=>?_)
 rw[eK] at hk
 rw[kP hk]
 unfold iN
 rw[b6 (Int.lt_irrefl _)]
theorem Bc{a b:List Int}{n:Int}(hl:a.length=b.length)(hn:0<n):outL' a b n 0=a:=by
 refine rP (by rw[eK,hl]) (fun k hk=>?_)
 rw[eK] at hk
 rw[kP hk]
 unfold iN
 rw[b5 hn,Int.mul_zero,Int.mul_zero,Int.zero_add,Int.ediv_eq_zero_of_lt (by omega) (by omega),Int.add_zero]
theorem zK{a b:List Int}{n k k':Int}(ha:1≤a.length∧a.length≤8)(hab:a.length=b.length)(ia:inL 0 1000 a)(ib:inL 0 1000 b)(hn:0≤n∧n≤1000)(hk:0≤k∧k≤k')(hk':k'≤n){i:Nat}(hi:i<b.length) :
 (b.getD i 0≥a.getD i 0→iN a b n k i≤iN a b n k' i)∧(b.getD i 0<a.getD i 0→iN a b n k' i≤iN a b n k i):=by
 have b1:=sW ha hab ia ib hn (k:=k) (by omega) hi
 by_cases q:k'<n
 ·unfold iN
  rw[b5 q,b5 (show k<n by omega)]
  generalize b.getD i 0=y at *
  generalize a.getD i 0=x at *
  constructor
  ·intro h
   have m1:=Int.mul_le_mul_of_nonneg_left hk.2 (show 0≤y-x by omega)
   have:=Int.ediv_le_ediv (show 0<2*n by omega) (show 2*((y-x)*k)+n≤2*((y-x)*k')+n by omega)
   omega
  ·intro h
   have m1:=Int.mul_le_mul_of_nonneg_left hk.2 (show 0≤-(y-x) by omega)
   rw[Int.neg_mul,Int.neg_mul] at m1
   have:=Int.ediv_le_ediv (show 0<2*n by omega) (show 2*((y-x)*k')+n≤2*((y-x)*k)+n by omega)
   omega
 ·have e:iN a b n k' i=b.getD i 0:=by unfold iN;rw[b6 q]
  rw[e]
  generalize iN a b n k i=z at *
  constructor
  ·intro h
   split at b1<;>split at b1<;>omega
  ·intro h
   split at b1<;>split at b1<;>omega
end Go.Rex
open Go Go.Rex
set_option maxRecDepth 100000
namespace Go.Rex
theorem Cn{l:List Move}(M:MvOk l){k:Nat}(hk:k<l.length):mvE l k=0:=by
 unfold mvE
 rw[b6 (not_not_intro (M.tick k hk)),b6 (fun g=>by
  have:=M.asc (k-1) (by omega)
  rw[show k-1+1=k by omega] at this
  omega),b6 (not_not_intro (show lvV (mov l k).2.1=0 by
   have h:=M.lev k hk
   unfold lvV
   rw[b6 (not_not_intro h.1),b5 h.2])),b6 (not_not_intro (M.len k hk)),b6 (not_not_intro (M.stp k hk))]
theorem wU{l:List Move}(M:MvOk l):rC l=(0,0):=by
 have hn:=M.n
 unfold rC
 rw[b6 (by omega)]
 have:bJ (mvP l) l.length=none:=firstOf_none.2 (fun k hk=>by
  unfold mvP
  rw[Cn M hk,b6 (by simp)])
 rw[this]
section
variable {l:List Move} {p:Nat} (hp:l.length=p+1)
include hp
theorem dM{k:Nat}(hk:k<p):mov (l.take p) k=mov l k:=by
 unfold mov
 rw[i5,i5,j6,b5 hk]
theorem nB:(l.take p).length=p:=by rw[List.length_take];omega
theorem xQ(M:MvOk l):MvOk (l.take p):=by
 have hl:=nB hp
 have hn:=M.n
 refine⟨by omega,fun k hk=>?_,fun k hk=>?_,fun k hk=>?_,fun k hk=>?_,fun k hk=>?_⟩
 ·rw[dM hp (by omega)];exact M.tick k (by omega)
 ·rw[dM hp (by omega),dM hp (by omega)];exact M.asc k (by omega)
 ·rw[dM hp (by omega)];exact M.lev k (by omega)
 ·rw[dM hp (by omega),dM hp (by omega)];exact M.len k (by omega)
 ·rw[dM hp (by omega)];exact M.stp k (by omega)
theorem uX:∀ k,k<p→upB (l.take p) k=upB l k
 | 0,h=>by unfold upB;rw[dM hp h]
 | k+1,h=>by
  unfold upB
  rw[uX k (by omega),dM hp (show k<p by omega),dM hp h]
theorem yE(M:MvOk l)(h0:0<p):LV (l.take p) (mov l p).1=upB l p:=by
 obtain⟨r,rfl⟩:∃ r,p=r+1:=⟨p-1,by omega⟩
 have e:=dM hp (show r<r+1 by omega)
 rw[tD (xQ hp M) (p:=r) (nB hp) (by rw[e];exact M.asc r (by omega)),e,uX hp r (by omega)]
 rfl
end
theorem zH{step:Int→Option (Int ⊕ (Unit ⊕ Unit))}{L N A B:List Int}(hN:N.length≤1000)
 (hs:∀ k:Nat,k<N.length→(L.getD k 0≥N.getD k 0→¬ A.getD k 0<B.getD k 0)→(¬ L.getD k 0≥N.getD k 0→¬ A.getD k 0>B.getD k 0)→step (k:Int)=some (.inl (IntKind.i64.wrap ((k:Int)+1))))
 (he:step (N.length:Int)=some (.inr (.inr ())))
 (hu:∀ k,k<N.length→L.getD k 0≥N.getD k 0→¬ A.getD k 0<B.getD k 0) (hd:∀ k,k<N.length→¬ L.getD k 0≥N.getD k 0→¬ A.getD k 0>B.getD k 0):run step 0=some (.inr ()):=by
 have h:=kQ (step:=step) (e:=.inr ()) (fun k=>(k:Int)) (n:=N.length) (fun k hk=>by
  rw[hs k hk (hu k hk) (hd k hk),wsucc (k:=k) (n:=N.length) (by omega) (by omega)]) he
 exact h
theorem kF{l:List Move}(M:MvOk l)(hl:∀ k,k<l.length→(mov l k).2.1.length≤1000){v:Int}(hv:0≤v∧v≤200000000)(q:¬ l.length=0):aE l v=some (LV l v,0):=by
 have hn:=M.n
 unfold aE bB
 rw[lK hl (by omega),wU M,swith2,a8]
 dsimp only
 rw[a8,a8]
 dsimp only
 rw[tK _ _ _ (by decide),a8,g6 hv,b6 (by simp),uW M hv q]
 rfl
theorem tS{v:Int}(hv:0≤v∧v≤200000000):aE [] v=some ([],0):=by
 have M:MvOk []:=⟨by simp,fun k hk=>by simp at hk,fun k hk=>by simp at hk,fun k hk=>by simp at hk,fun k hk=>by simp at hk,fun k hk=>by simp at hk⟩
 unfold aE bB
 rw[lK (l:=[]) (fun k hk=>by simp at hk) (by simp),wU M,swith2,a8]
 dsimp only
 rw[a8,a8]
 dsimp only
 rw[tK _ _ _ (by decide),a8,g6 hv,b6 (by simp)]
 rfl
theorem tG{l:List Move}(M:MvOk l)(hl:∀ k,k<l.length→(mov l k).2.1.length≤1000){p:Nat}(hp:l.length=p+1):eF l=some ((mov l p).1+(mov l p).2.2,0):=by
 have hn:=M.n
 have h1:=M.tick p (by omega)
 have h2:=M.stp p (by omega)
 unfold eF bB bE
 rw[lK hl (by omega),wU M,a8]
 dsimp only
 rw[a8,a8]
 dsimp only
 rw[tK _ _ _ (by decide),a8,decide_eq_false (show ¬(l.length:Int)=0 by omega),b6 (by simp)]
 rw[show IntKind.i64.wrap ((l.length:Int)-1)=(p:Int) by rw[w64 (by omega)];omega,mvD (by omega),a8]
 show some (IntKind.i64.wrap ((mov l p).1+(mov l p).2.2),(0:Int))=_
 rw[w64 (by omega)]
theorem vX(l:List Move)(x y:Int):fB l x y=some true:=by
 unfold fB
 obtain⟨b,h1,h2⟩:=Dc l
 rw[h1,a8]
 by_cases g:b=true
 rotate_left
 ·rw[b6 g]
 rw[b5 g]
 obtain⟨hn,hl⟩:=h2 g
 by_cases z:l.length=0
 ·rw[b5 (by simpa using z)]
 rw[b6 (by simpa using z)]
 have hl':∀ k,k<l.length→(mov l k).2.1.length≤1000:=fun k hk=>by have:=hl k hk;omega
 rw[yK hl' (by omega),a8]
 by_cases q:(rC l).2=0
 rotate_left
 ·dsimp only
  rw[b5 (by simpa using q)]
 obtain⟨M,e0⟩:=Ec q
 rw[e0]
 obtain⟨p,hp⟩:∃ p,l.length=p+1:=⟨l.length-1,by omega⟩
 have c:=Cj hn hl
 have hT:=M.tick p (by omega)
 have hS:=M.stp p (by omega)
 have hV:=M.lev p (by omega)
 have hN:=M.len p (by omega)
 have hB:=zE M p (by omega)
 have ct:aF (l.take p)=some (l.take p):=Cj (by rw[List.length_take];omega) (fun k hk=>by
  rw[List.length_take] at hk
  rw[dM hp (by omega)]
  exact hl k (by omega))
 have f0:=tG M hl' hp
 have f3:∀ k:Int,0≤k→k≤(mov l p).2.2→aE l ((mov l p).1+k)=some (outL' (upB l p) (mov l p).2.1 (mov l p).2.2 k,0):=fun k k1 k2=>by
  rw[kF M hl' (by omega) z,tD M hp (by omega),show (mov l p).1+k-(mov l p).1=k by omega]
  congr 3
  split<;>omega
 have f1:∀ k:Int,0≤k→k<1000→aE l ((mov l p).1+(mov l p).2.2+k)=some ((mov l p).2.1,0):=fun k k1 k2=>by
  rw[kF M hl' (by omega) z,tD M hp (by omega)]
  have e:(if (mov l p).2.2<(mov l p).1+(mov l p).2.2+k-(mov l p).1 then (mov l p).2.2 else (mov l p).1+(mov l p).2.2+k-(mov l p).1)=(mov l p).2.2:=by split<;>omega
  rw[e,Bw]
 have f2:aE (l.take p) (mov l p).1=some (if p=0 then [] else upB l p,0):=by
  by_cases p0:p=0
  ·subst p0
   rw[List.take_zero,tS (by omega),b5 rfl]
  ·rw [kF (xQ hp M) (fun k hk => by
     rw[nB hp] at hk
     rw[dM hp hk]
     exact hl' k (by omega)) (by omega) (by rw[nB hp];exact p0),yE hp M (by omega),b6 p0]
 have hsub:yH l 0 (IntKind.i64.wrap ((l.length:Int)-1))=some (l.take p):=by
  unfold yH
  rw[w64 (by omega),b5 (by omega),show ((l.length:Int)-1).toNat-(0:Int).toNat=p by omega,show (0:Int).toNat=0 from rfl,List.drop_zero]
 have n0:¬ decide ((0:Int)≠0)=true:=by decide
 rw[show IntKind.i64.wrap ((l.length:Int)-1)=(p:Int) by rw[w64 (by omega)];omega] at hsub ⊢
 dsimp only
 rw[b6 n0,mvD (by omega),a8]
 have hm1:=Cu (x:=x) (y:=1000) (by decide) (by decide)
 have x1:=Int.emod_nonneg x (show (1000:Int)≠0 by decide)
 have x2:=Int.emod_lt_of_pos x (show (0:Int)<1000 by decide)
 have hm2:=Cu (x:=x) (y:=(mov l p).2.2+1) (by omega) (by omega)
 have y1:=Int.emod_nonneg x (show (mov l p).2.2+1≠0 by omega)
 have y2:=Int.emod_lt_of_pos x (show 0<(mov l p).2.2+1 by omega)
 generalize x%((mov l p).2.2+1)=k at *
 have hm3:=Cu (x:=y) (y:=(mov l p).2.2-k+1) (by omega) (by omega)
 have z1:=Int.emod_nonneg y (show (mov l p).2.2-k+1≠0 by omega)
 have z2:=Int.emod_lt_of_pos y (show 0<(mov l p).2.2-k+1 by omega)
 generalize y%((mov l p).2.2-k+1)=d at *
 have g0:=f3 0 (by omega) hS.1
 rw[Int.add_zero] at g0
 have g1:=f3 k (by omega) (by omega)
 have g2:=f3 (k+d) (by omega) (by omega)
 have gx:=f1 (x%1000) x1 x2
 have nowL:=eK (upB l p) (mov l p).2.1 (mov l p).2.2 0
 have bL:=eK (upB l p) (mov l p).2.1 (mov l p).2.2 k
 have cL:=eK (upB l p) (mov l p).2.1 (mov l p).2.2 (k+d)
 have hsame:0<(mov l p).2.2→outL' (upB l p) (mov l p).2.1 (mov l p).2.2 0=upB l p:=fun h=>Bc (by omega) h
 have mono:=fun (i:Nat) (hi:i<(mov l p).2.1.length)=>zK (a:=upB l p) (b:=(mov l p).2.1) (n:=(mov l p).2.2) (k:=k) (k':=k+d) (by omega) (by omega) hB.2 hV.2 hS (by omega) (by omega) hi
 have turn : ∀ i, i < (mov l p).2.1.length → ((mov l p).2.1.getD i 0 ≥ (outL' (upB l p) (mov l p).2.1 (mov l p).2.2 0).getD i 0 → ¬ (outL' (upB l p) (mov l p).2.1 (mov l p).2.2 (k + d)).getD i 0 < (outL' (upB l p) (mov l p).2.1 (mov l p).2.2 k).getD i 0) ∧
     (¬(mov l p).2.1.getD i 0≥(outL' (upB l p) (mov l p).2.1 (mov l p).2.2 0).getD i 0→¬(outL' (upB l p) (mov l p).2.1 (mov l p).2.2 (k+d)).getD i 0>(outL' (upB l p) (mov l p).2.1 (mov l p).2.2 k).getD i 0):=fun i hi=>by
  obtain⟨m1,m2⟩:=mono i hi
  rw[kP (a:=upB l p) (n:=(mov l p).2.2) (k:=k+d) hi,kP (a:=upB l p) (n:=(mov l p).2.2) (k:=k) hi]
  by_cases s0:0<(mov l p).2.2
  ·rw[hsame s0]
   exact⟨fun h=>by have:=m1 h;omega,fun h=>by have:=m2 (by omega);omega⟩
  ·have e:d=0:=by omega
   rw[e,Int.add_zero]
   exact⟨fun _=>by omega,fun _=>by omega⟩
 have same8:fD (mov l p).2.1 (mov l p).2.1=some true:=rT (by omega)
 have sameB:fD (upB l p) (upB l p)=some true:=rT (by omega)
 have w1:IntKind.i64.wrap ((mov l p).1+(mov l p).2.2)=(mov l p).1+(mov l p).2.2:=w64 (by omega)
 have w2:IntKind.i64.wrap ((mov l p).1+(mov l p).2.2+x%1000)=(mov l p).1+(mov l p).2.2+x%1000:=w64 (by omega)
 have w3:IntKind.i64.wrap ((mov l p).2.2+1)=(mov l p).2.2+1:=w64 (by omega)
 have w4:IntKind.i64.wrap ((mov l p).2.2-k)=(mov l p).2.2-k:=w64 (by omega)
 have w5:IntKind.i64.wrap ((mov l p).2.2-k+1)=(mov l p).2.2-k+1:=w64 (by omega)
 have w6:IntKind.i64.wrap ((mov l p).1+k)=(mov l p).1+k:=w64 (by omega)
 have w7:IntKind.i64.wrap (k+d)=k+d:=w64 (by omega)
 have w8:IntKind.i64.wrap ((mov l p).1+(k+d))=(mov l p).1+(k+d):=w64 (by omega)
 generalize outL' (upB l p) (mov l p).2.1 (mov l p).2.2 0=now at *
 generalize outL' (upB l p) (mov l p).2.1 (mov l p).2.2 k=bb at *
 generalize outL' (upB l p) (mov l p).2.1 (mov l p).2.2 (k+d)=cc at *
 have hB1:=hB.1
 generalize hU:upB l p=U at *
 generalize hm:mov l p=mv at *
 obtain⟨T,V,S⟩:=mv
 dsimp only at *
 have run1:∀ step:Int→Option (Int ⊕ (Unit ⊕ Unit)),(step=bS V now bb cc∨step=bX V now bb cc∨step=bR V now bb cc)→run step 0=some (.inr ()):=fun step hst=>by
  refine zH (L:=V) (N:=now) (A:=cc) (B:=bb) (by omega) (fun i hi u1 u2=>?_) ?_ (fun i hi=>(turn i (by omega)).1) (fun i hi=>(turn i (by omega)).2)
  ·have i1:=fJ (l:=V) (k:=i) (by omega)
   have i2:=fJ (l:=now) (k:=i) (by omega)
   have i3:=fJ (l:=cc) (k:=i) (by omega)
   have i4:=fJ (l:=bb) (k:=i) (by omega)
   rcases hst with rfl|rfl|rfl
   all_goals
    first|unfold bS|unfold bX|unfold bR
    rw[b5 (by rw[j0];omega),i1,a8,i2,a8]
    by_cases up:V.getD i 0≥now.getD i 0
    ·rw[b5 (g6 up),i3,a8,i4,a8,b6 (by rw[j0];exact u1 up)]
    ·rw[b6 (by rw[j0];exact up),i3,a8,i4,a8,b6 (by rw[j0];exact u2 up)]
  ·rcases hst with rfl|rfl|rfl
   all_goals
    first|unfold bS|unfold bX|unfold bR
    rw[b6 (by rw[j0];omega)]
 rw[c,a8,f0,a8]
 dsimp only
 rw[a8,hm1,a8,w1,w2,gx,a8]
 dsimp only
 rw[b6 n0,b6 (by simp),b6 n0,same8,a8,b5 rfl,hsub,a8,ct,a8,f2,a8]
 dsimp only
 rw[a8,g0,a8]
 dsimp only
 rw[b6 n0,b6 n0,b6 (by rw[j0];omega)]
 have r1:=run1 _ (.inl rfl)
 have r2:=run1 _ (.inr (.inl rfl))
 have r3:=run1 _ (.inr (.inr rfl))
 by_cases p1:(l.length:Int)>1
 ·rw[b5 (g6 p1),b6 (show ¬ p=0 by omega)]
  by_cases s0:S>0
  ·rw[b5 (g6 s0),hsame s0,sameB,a8,b5 rfl]
   rw[w3,hm2,a8,w4,w5,hm3,a8,a8,w6,g1,a8]
   dsimp only
   rw[a8,w7,w8,g2,a8]
   dsimp only
   rw[hsame s0] at r1 nowL
   rw[b6 n0,b6 n0,b6 (by rw[j0];omega),b6 (by rw[j0];omega),r1,a8]
  ·rw[b6 (by rw[j0];exact s0)]
   rw[w3,hm2,a8,w4,w5,hm3,a8,a8,w6,g1,a8]
   dsimp only
   rw[a8,w7,w8,g2,a8]
   dsimp only
   rw[b6 n0,b6 n0,b6 (by rw[j0];omega),b6 (by rw[j0];omega),r2,a8]
 ·rw[b6 (by rw[j0];exact p1)]
  rw[w3,hm2,a8,w4,w5,hm3,a8,a8,w6,g1,a8]
  dsimp only
  rw[a8,w7,w8,g2,a8]
  dsimp only
  rw[b6 n0,b6 n0,b6 (by rw[j0];omega),b6 (by rw[j0];omega),r3,a8]
end Go.Rex
namespace Go.Rex
open Go Go.ChangeShapes Go.WideShapes Go.ChangeAt Go.RowKit Go.Joins Go.Proofs
structure Arg(W:World)(v':Value)(p:TV)(bs:List Blk)(is:List Info)(av:Nat→Value):Prop where
 vr:∀(D:Nat→Prop) (m:NMap) n,(∀ j,j<bs.length→D (n+j))→(∀(j:Nat) i,is[j]?=some i→m (n+j)=i)→VR D m (av n) v'
 vl:∀(Fz:Nat→Prop) (h:List Blk) n,(∀ j,j<bs.length→Fz (n+j))→(∀(j:Nat) b,bs[j]?=some b→h[n+j]?=some b)→VL Fz h noL p (av n)
 ok:∀(D:Nat→Prop) (m:NMap) n,(∀ j,j<bs.length→D (n+j))→(∀(j:Nat) i,is[j]?=some i→m (n+j)=i)→∀(j:Nat) b,bs[j]?=some b→BlkOk D m W (n+j) b
 lt:∀(j:Nat) b i,bs[j]?=some b→is[j]?=some i→b ≠ .dead→i.block<W.heap.size
 len:is.length=bs.length
structure Args(W:World)(vs':List Value)(ps:List TV)(bs:List Blk)(is:List Info)(av:Nat→List Value):Prop where
 vr:∀(D:Nat→Prop) (m:NMap) n,(∀ j,j<bs.length→D (n+j))→(∀(j:Nat) i,is[j]?=some i→m (n+j)=i)→VRs D m (av n) vs'
 vl:∀(Fz:Nat→Prop) (h:List Blk) n,(∀ j,j<bs.length→Fz (n+j))→(∀(j:Nat) b,bs[j]?=some b→h[n+j]?=some b)→VLs Fz h noL ps (av n)
 ok:∀(D:Nat→Prop) (m:NMap) n,(∀ j,j<bs.length→D (n+j))→(∀(j:Nat) i,is[j]?=some i→m (n+j)=i)→∀(j:Nat) b,bs[j]?=some b→BlkOk D m W (n+j) b
 lt:∀(j:Nat) b i,bs[j]?=some b→is[j]?=some i→b ≠ .dead→i.block<W.heap.size
 len:is.length=bs.length
def nm(is:List Info):NMap:=fun n=>is.getD n ⟨0,0,0,0⟩
section
variable {W:World} {vs':List Value} {ps:List TV} {bs:List Blk} {is:List Info} {av:Nat→List Value}
end
theorem len1{α:Type}{l:List α}(h:l.length=1):∃ x0,l=[x0]:=by
 match l,h with
 | [x0],_=>exact⟨_,rfl⟩
theorem len2{α:Type}{l:List α}(h:l.length=2):∃ x0 x1,l=[x0,x1]:=by
 match l,h with
 | [x0,x1],_=>exact⟨_,_,rfl⟩
theorem len3{α:Type}{l:List α}(h:l.length=3):∃ x0 x1 x2,l=[x0,x1,x2]:=by
 match l,h with
 | [x0,x1,x2],_=>exact⟨_,_,_,rfl⟩
def zZ(c:Value):Prop:=iJ c=true∧∀ D m,VR D m c c
theorem kV(k:IntKind)(n:Int):zZ (.int k n):=⟨rfl,fun _ _=>.int _ _⟩
theorem Arg.atom{W:World}{v:Value}(h:zZ v):Arg W v (.v v) [] [] (fun _=>v):=
 ⟨fun _ _ _ _ _=>h.2 _ _,fun _ _ _ _ _=>.v _ _ h.1,fun _ _ _ _ _ j b h=>by simp at h,fun j b i h=>by simp at h,rfl⟩
theorem Arg.agg{W:World}{l:List Value}(h:∀ c∈l,zZ c):Arg W (.agg ⟨l⟩) (.agg (l.map .v)) [] [] (fun _=>.agg ⟨l⟩):=by
 refine⟨fun _ _ _ _ _=>.agg _ _ rfl fun i v v' hv hv'=>?_,fun _ _ _ _ _=>.agg _ _ _ (by simp) fun i p x hp hx=>?_,fun _ _ _ _ _ j b h=>by simp at h,fun j b i h=>by simp at h,rfl⟩
 ·obtain rfl:v=v':=a6 (hv.symm.trans hv')
  exact (h v (d4 hv)).2 _ _
 ·rw[d8,hx] at hp
  obtain rfl:=a6 hp
  exact .v _ _ (h x (d4 hx)).1
theorem jY{α:Type}{Q:Nat→α→Prop}:∀ n,(∀ i,i<n→∃ x,Q i x)→∃ xs:List α,xs.length=n∧∀(i:Nat) x,xs[i]?=some x→Q i x
 | 0,_=>⟨[],rfl,fun i x h=>by simp at h⟩
 | n+1,h=>by
  obtain⟨xs,hl,hq⟩:=jY n (fun i hi=>h i (by omega))
  obtain⟨x,hx⟩:=h n (by omega)
  refine⟨xs++[x],by simp[hl],fun i y hy=>?_⟩
  rcases d6 i n with hi|hi
  ·rw[b8 (by omega)] at hy
   exact hq i y hy
  ·rw[c9 (by omega),hl] at hy
   have:i=n:=by
    rcases d6 0 (i-n) with g|g
    ·rw[j3 (by simp;omega)] at hy;cases hy
    ·omega
   subst this
   simp at hy
   subst hy
   exact hx
section
variable {H:Type} {enc:TypeId×Value→H} {W:World} {base:Nat} {spare:Nat→Bool} {held:Bool}
def AI(cs:List Value):Prop:=∀ c∈cs,∃ n:Int,c = .int .i64 n
theorem AI.list{cs:List Value}(h:AI cs):∃ l:List Int,cs=l.map (.int .i64):=by
 induction cs with
 | nil=>exact⟨[],rfl⟩
 | cons c t ih =>
  obtain⟨n,rfl⟩:=h c (by simp)
  obtain⟨l,rfl⟩:=ih fun c hc=>h c (by simp[hc])
  exact⟨n::l,rfl⟩
variable {P:Program}
theorem Bk{t:TypeId}(ht:P.underlying t=some (.int .i64)){r:Reach}{b:Nat}{v:Value}(w:Cell.okWide P W r b t v):∃ n:Int,v = .int .i64 n:=by
 unfold Cell.okWide at w
 simp only[ht] at w
 unfold Cell.ok at w
 simp only[ht] at w
 cases v<;>first|exact⟨_,by rw[w.1]⟩|exact absurd w (by simp)
theorem zT{t ti e:TypeId}{k n:Nat}(ht:P.underlying t=some (.array k e))(hti:P.underlying ti=some (.int .i64))(hct:P.cellTypes P.depth t=some (List.replicate n ti))(hn:P.cellsOf t=n)
 {r:Reach} {b:Nat} {v:Value} (w:Value.okWide P W r b t v):∃ l:List Int,l.length=n∧v = .agg ⟨l.map (.int .i64)⟩:=by
 unfold Value.okWide at w
 simp only[ht] at w
 obtain⟨cs,rfl,hs,ts,hts,_,hc⟩:=w
 rw[hct] at hts
 obtain rfl:=a6 hts
 obtain⟨l⟩:=cs
 have:AI l:=by
  intro c hcm
  obtain⟨j,hj,rfl⟩:=List.mem_iff_getElem.1 hcm
  obtain⟨u,hu,hok⟩:=hc j l[j] (by simp)
  have:=List.eq_of_mem_replicate (d4 hu)
  subst this
  exact Bk hti hok
 obtain⟨l',rfl⟩:=this.list
 refine⟨l',?_,rfl⟩
 simpa [hn] using hs
theorem Ah(l:List Int):Arg W (.agg ⟨l.map (.int .i64)⟩) (.agg (l.map fun x=>.v (.int .i64 x))) [] [] (fun _=>.agg ⟨l.map (.int .i64)⟩):=by
 have:=Arg.agg (W:=W) (l:=l.map (.int .i64)) fun c hc=>by obtain⟨x,_,rfl⟩:=k8.1 hc;exact kV _ _
 rwa [List.map_map] at this
theorem pU{t:TypeId}{fs:Array Field}{i:Nat}{f:Field}(ht:P.underlying t=some (.struct fs))(hf:fs[i]?=some f){fuel:Nat}{cs:List Value}{x:DataW H×List MemPlace}(h:DataW.trod enc P W base spare held fuel t cs=some x) :
 ∃ n y,DataW.trod enc P W base spare held n f.type ((cs.drop f.offset).take (P.cellsOf f.type))=some y:=by
 obtain⟨xs,n,_,_,hl,hx,hi⟩:=DataW.trod_struct ht h
 have:=hi i f hf
 have hil:i<fs.size:=(Array.getElem?_eq_some_iff.1 hf).1
 rw[a9 (by omega)] at this
 exact⟨n,_,this⟩
end
end Go.Rex
namespace Go.Rex
open Go Go.ChangeShapes Go.WideShapes Go.ChangeAt Go.RowKit Go.Joins Go.Proofs
structure NArg(W:World)(v':Value)(p:TV)(bs:Nat→List Blk)(is:List Info)(av:Nat→Value):Prop where
 vr:∀(D:Nat→Prop) (m:NMap) n,(∀ j,j<is.length→D (n+j))→(∀(j:Nat) i,is[j]?=some i→m (n+j)=i)→VR D m (av n) v'
 vl:∀(Fz:Nat→Prop) (h:List Blk) n,(∀ j,j<is.length→Fz (n+j))→(∀(j:Nat) b,(bs n)[j]?=some b→h[n+j]?=some b)→VL Fz h noL p (av n)
 ok:∀(D:Nat→Prop) (m:NMap) n,(∀ j,j<is.length→D (n+j))→(∀(j:Nat) i,is[j]?=some i→m (n+j)=i)→∀(j:Nat) b,(bs n)[j]?=some b→BlkOk D m W (n+j) b
 lt:∀ n (j:Nat) b i,(bs n)[j]?=some b→is[j]?=some i→b ≠ .dead→i.block<W.heap.size
 len:∀ n,(bs n).length=is.length
structure NArgs(W:World)(vs':List Value)(ps:List TV)(bs:Nat→List Blk)(is:List Info)(av:Nat→List Value):Prop where
 vr:∀(D:Nat→Prop) (m:NMap) n,(∀ j,j<is.length→D (n+j))→(∀(j:Nat) i,is[j]?=some i→m (n+j)=i)→VRs D m (av n) vs'
 vl:∀(Fz:Nat→Prop) (h:List Blk) n,(∀ j,j<is.length→Fz (n+j))→(∀(j:Nat) b,(bs n)[j]?=some b→h[n+j]?=some b)→VLs Fz h noL ps (av n)
 ok:∀(D:Nat→Prop) (m:NMap) n,(∀ j,j<is.length→D (n+j))→(∀(j:Nat) i,is[j]?=some i→m (n+j)=i)→∀(j:Nat) b,(bs n)[j]?=some b→BlkOk D m W (n+j) b
 lt:∀ n (j:Nat) b i,(bs n)[j]?=some b→is[j]?=some i→b ≠ .dead→i.block<W.heap.size
 len:∀ n,(bs n).length=is.length
theorem Arg.n{W:World}{v':Value}{p:TV}{bs:List Blk}{is:List Info}{av:Nat→Value}(a:Arg W v' p bs is av):NArg W v' p (fun _=>bs) is av:=
 ⟨fun D m n hD hm=>a.vr D m n (by rw[← a.len];exact hD) hm,fun Fz h n hF hh=>a.vl Fz h n (by rw[← a.len];exact hF) hh,fun D m n hD hm=>a.ok D m n (by rw[← a.len];exact hD) hm,fun _=>a.lt,fun _=>a.len.symm⟩
theorem NArgs.nil(W:World):NArgs W [] [] (fun _=>[]) [] (fun _=>[]):=
 ⟨fun _ _ _ _ _=>⟨rfl,fun i a a' h=>by simp at h⟩,fun _ _ _ _ _=>.nil,fun _ _ _ _ _ j b h=>by simp at h,fun _ j b i h=>by simp at h,fun _=>rfl⟩
theorem NArgs.cons{W:World}{v':Value}{p:TV}{bs bs2:Nat→List Blk}{is is2:List Info}{av:Nat→Value}{vs':List Value}{ps:List TV}{avs:Nat→List Value}
 (a:NArg W v' p bs is av) (az:NArgs W vs' ps bs2 is2 avs):NArgs W (v'::vs') (p::ps) (fun n=>bs n++bs2 (n+is.length)) (is++is2) (fun n=>av n::avs (n+is.length)):=by
 have cD:∀(D:Nat→Prop) n,(∀ j,j<(is++is2).length→D (n+j))→(∀ j,j<is.length→D (n+j))∧(∀ j,j<is2.length→D (n+is.length+j)):=by
  intro D n h
  refine⟨fun j hj=>h j (by simp;omega),fun j hj=>?_⟩
  have:=h (is.length+j) (by simp;omega)
  rwa [← e8] at this
 have cI:∀(m:NMap) n,(∀(j:Nat) i,(is++is2)[j]?=some i→m (n+j)=i)→(∀(j:Nat) i,is[j]?=some i→m (n+j)=i)∧(∀(j:Nat) i,is2[j]?=some i→m (n+is.length+j)=i):=by
  intro m n h
  refine⟨fun j i hj=>h j i (by rw[b8 (a7.1 hj).1];exact hj),fun j i hj=>?_⟩
  have:=h (is.length+j) i (by rw[c9 (by omega),Nat.add_sub_cancel_left];exact hj)
  rwa [← e8] at this
 refine⟨fun D m n hD hm=>?_,fun Fz h n hF hh=>?_,fun D m n hD hm j b hb=>?_,fun n j b i hb hi hd=>?_,fun n=>by simp[a.len,az.len]⟩
 ·have h1:=a.vr D m n (cD D n hD).1 (cI m n hm).1
  have h2:=az.vr D m (n+is.length) (cD D n hD).2 (cI m n hm).2
  refine⟨by simp[h2.len],fun i x x' hx hx'=>?_⟩
  cases i with
  | zero=>simp at hx hx';subst hx hx';exact h1
  | succ i=>simp at hx hx';exact h2.at' i x x' hx hx'
 ·refine .cons (a.vl Fz h n (cD Fz n hF).1 fun j b hb=>hh j b (by rw[b8 (a7.1 hb).1];exact hb)) (az.vl Fz h (n+is.length) (cD Fz n hF).2 fun j b hb=>?_)
  have:=hh (is.length+j) b (by rw[c9 (by rw[a.len];omega),a.len,Nat.add_sub_cancel_left];exact hb)
  rwa [← e8] at this
 ·rcases d6 j is.length with hj|hj
  ·rw[b8 (by rw[a.len];exact hj)] at hb
   exact a.ok D m n (cD D n hD).1 (cI m n hm).1 j b hb
  ·rw[c9 (by rw[a.len];exact hj),a.len] at hb
   have:=az.ok D m (n+is.length) (cD D n hD).2 (cI m n hm).2 _ b hb
   rwa [show n+is.length+(j-is.length)=n+j by omega] at this
 ·rcases d6 j is.length with hj|hj
  ·rw[b8 (by rw[a.len];exact hj)] at hb
   rw[b8 hj] at hi
   exact a.lt n j b i hb hi hd
  ·rw[c9 (by rw[a.len];exact hj),a.len] at hb
   rw[c9 hj] at hi
   exact az.lt _ _ b i hb hi hd
section
variable {W:World} {vs':List Value} {ps:List TV} {bs:Nat→List Blk} {is:List Info} {av:Nat→List Value}
def gnm(is:List Info):NMap:=fun k=>if k<NG then gm k else is.getD (k-NG) ⟨0,0,0,0⟩
theorem wX{is:List Info}{j:Nat}{i:Info}(h:is[j]?=some i):gnm is (NG+j)=i:=by
 unfold gnm
 rw[b6 (by omega),Nat.add_sub_cancel_left,i5,h]
 rfl
theorem nP:GH.length=NG:=rfl
theorem NArgs.rel(a:NArgs W vs' ps bs is av)(hw:GW W)(hs:NG≤W.heap.size):Rel W.heap.size (GH++bs NG).length (fun k=>k<(GH++bs NG).length) (gnm is) (GH++bs NG) W:=by
 have hl:=a.len NG
 have hn:(GH++bs NG).length=NG+is.length:=by rw[j1,nP,hl]
 have old:∀ k,k<NG→gnm is k=gm k:=fun k hk=>b5 hk
 have parts:∀ n b,n<(GH++bs NG).length→(GH++bs NG)[n]?=some b→(n<NG∧GH[n]?=some b)∨∃ j,n=NG+j∧(bs NG)[j]?=some b:=by
  intro n b hn' hb
  rcases d6 n NG with h|h
  ·rw[b8 h] at hb;exact .inl ⟨h,hb⟩
  ·rw[c9 h,nP] at hb;exact .inr ⟨n-NG,by omega,hb⟩
 have st:=Rel.start W hw hs
 have lt:∀ n b,n<(GH++bs NG).length→(GH++bs NG)[n]?=some b→b ≠ .dead→(gnm is n).block<W.heap.size:=by
  intro n b hn' hb hd
  rcases parts n b hn' hb with⟨h1,h2⟩|⟨j,rfl,h2⟩
  ·rw[old n h1];exact st.lt n b h1 h2 hd
  ·have hj:j<is.length:=by omega
   rw[wX (a9 hj)]
   exact a.lt NG j b _ h2 (a9 hj) hd
 refine⟨b7 _,fun _ h=>h,fun n b hn' hb=>?_,lt,fun n b hD hl=>absurd hD (by omega),fun n b hn' _ hb hd=>lt n b hn' hb hd,fun n b hD hl=>absurd hD (by omega),fun n n' b b' hD _ hl=>absurd hD (by omega),⟨fun g hg=>⟨?_,?_⟩,hs,hw⟩⟩
 ·rcases parts n b hn' hb with⟨h1,h2⟩|⟨j,rfl,h2⟩
  ·exact (st.ok n b h1 h2).mono (fun k hk=>by have hk':k<NG:=hk;show k<(GH++bs NG).length;omega) (fun k hk=>old k hk) (old n h1)
  ·exact a.ok (fun k=>k<(GH++bs NG).length) (gnm is) NG (fun j hj=>by omega) (fun j i hi=>wX hi) j b h2
 ·show g<(GH++bs NG).length;omega
 ·rw[old g hg];exact rF g
theorem NArgs.vls(a:NArgs W vs' ps bs is av):VLs (fun k=>k<(GH++bs NG).length) (GH++bs NG) noL ps (av NG):=by
 have hn:(GH++bs NG).length=NG+is.length:=by rw[j1,nP,a.len NG]
 exact a.vl _ _ NG (fun j hj=>by omega) (fun j b hb=>by rw[c9 (by rw[nP];omega),nP,Nat.add_sub_cancel_left];exact hb)
theorem NArgs.fz(_a:NArgs W vs' ps bs is av):FZ (fun k=>k<(GH++bs NG).length) (GH++bs NG):=
 ⟨fun _ h=>h,fun g hg=>by
  have h1:g<GH.length:=hg
  exact⟨by rw[j1];omega,b8 h1⟩⟩
theorem NArgs.vrs(a:NArgs W vs' ps bs is av):VRs (fun k=>k<(GH++bs NG).length) (gnm is) (av NG) vs':=by
 have hn:(GH++bs NG).length=NG+is.length:=by rw[j1,nP,a.len NG]
 exact a.vr _ _ NG (fun j hj=>by omega) (fun j i hi=>wX hi)
theorem qK{α:Type}{F:α→TV}:∀(vs':List Value),(∀ c∈vs',∃(x:α) (bs:Nat→List Blk) (is:List Info) (av:Nat→Value),NArg W c (F x) bs is av) →
 ∃(xs:List α) (bs:Nat→List Blk) (is:List Info) (av:Nat→List Value),xs.length=vs'.length∧NArgs W vs' (xs.map F) bs is av
 | [],_=>⟨[],_,_,_,rfl,NArgs.nil W⟩
 | c::t,h=>by
  obtain⟨xs,_,_,_,hl,a⟩:=qK t (fun c hc=>h c (by simp[hc]))
  obtain⟨x,_,_,_,b⟩:=h c (by simp)
  exact⟨x::xs,_,_,_,by simp[hl],NArgs.cons b a⟩
end
section
variable {H:Type} {enc:TypeId×Value→H} {W:World} {base:Nat} {spare:Nat→Bool} {held:Bool}
theorem wV{gb:Nat}{o:Nat}{s:Option Nat}{k:Nat}{v:Value}(h:W.cell? ⟨gb,o+k,s⟩=some v):s=none∧gb<W.heap.size:=by
 unfold World.cell? at h
 split at h
 ·rename_i hb
  refine⟨?_,?_⟩
  ·cases s with
   | none=>rfl
   | some s=>simp at h
  ·rcases d6 gb W.heap.size with hg|hg
   ·exact hg
   ·rw[Array.getElem?_eq_none hg] at hb
    cases hb
 ·cases h
theorem vE{P:Program}{t te:TypeId}(ht:P.underlying t=some (.slice te)){es:Nat}(he:0<es)(hC:P.cellsOf te=es){v':Value}{fuel:Nat}{x:DataW H×List MemPlace}(h:DataW.trod enc P W base spare held fuel t [v']=some x) :
 v' = .slice none 0 0∨(∃ a c,v' = .slice (some a) 0 c)∨∃ gb o len cap n,v' = .slice (some ⟨gb,o,none⟩) len cap∧0<len∧len≤cap∧gb<W.heap.size ∧
  ∀ i,i<len→∃ cs y,cs.length=es∧DataW.trod enc P W base spare held n te cs=some y∧∀ j,j<es→W.cell? ⟨gb,o+i*es+j,none⟩=cs[j]?:=by
 rcases DataW.trod_slice ht h with⟨hv,_⟩|⟨a,len,cap,elems,rest,n,_,hv,_,hb,hlc,hcm,hel,hel2,_,_⟩
 ·exact .inl (by simpa using hv)
 ·obtain rfl:v' = .slice (some a) len cap:=by simpa using hv
  rcases Nat.eq_zero_or_pos len with h0|h0
  ·subst h0
   exact .inr (.inl ⟨a,cap,rfl⟩)
  ·obtain⟨gb,o,s⟩:=a
   have first:s=none∧gb<W.heap.size:=by
    have h1:=hel2 0 h0
    rw[a9 (by omega),Option.bind_eq_some_iff] at h1
    obtain⟨cs,hcs,htr⟩:=h1
    rw[hC] at hcs
    unfold World.cells? at hcs
    split at hcs
    ·have hlen:=mapM_some_length hcs
     simp at hlen
     have h2:=mapM_some_get hcs 0 0 (by simp[he])
     have e:((⟨gb,o,s⟩:Addr).add (0*es)).add 0=⟨gb,o+0,s⟩:=by simp[Addr.add]
     rw[e] at h2
     exact wV (h2.trans (a9 (by omega)))
    ·cases hcs
   obtain⟨rfl,hgb⟩:=first
   refine .inr (.inr ⟨gb,o,len,cap,n,rfl,h0,hlc,hgb,fun i hi=>?_⟩)
   have h1:=hel2 i hi
   rw[a9 (by omega),Option.bind_eq_some_iff] at h1
   obtain⟨cs,hcs,htr⟩:=h1
   rw[hC] at hcs
   unfold World.cells? at hcs
   split at hcs
   ·have hlen:=mapM_some_length hcs
    simp at hlen
    refine⟨cs,_,hlen,htr,fun j hj=>?_⟩
    have:=mapM_some_get hcs j j (by simp[hj])
    have e:((⟨gb,o,none⟩:Addr).add (i*es)).add j=⟨gb,o+i*es+j,none⟩:=by
     unfold Addr.add
     split<;>split<;>simp_all
    rw[← e]
    exact this
   ·cases hcs
theorem vY{α:Type}{F:α→TV}{P:Program}{t te:TypeId}(ht:P.underlying t=some (.slice te))(hC:P.cellsOf te=1)
 (elem:∀ n c y,DataW.trod enc P W base spare held n te [c]=some y→∃(x:α) (bs:Nat→List Blk) (is:List Info) (av:Nat→Value),NArg W c (F x) bs is av)
 {v':Value} {fuel:Nat} {x:DataW H×List MemPlace} (h:DataW.trod enc P W base spare held fuel t [v']=some x):∃(xs:List α) (bs:Nat→List Blk) (is:List Info) (av:Nat→Value),NArg W v' (.list 1 (xs.map fun x=>[F x])) bs is av:=by
 rcases vE ht (by decide) hC h with rfl|⟨a,c,rfl⟩|⟨gb,o,len,cap,n,rfl,h0,hlc,hgb,key⟩
 ·exact⟨[],fun _=>[],[],fun _=>.slice none 0 0,fun _ _ _ _ _=>.nilSlice 0 0,fun _ _ _ _ _=>.nillist _ _,fun _ _ _ _ _ j b h=>by simp at h,fun _ j b i h=>by simp at h,fun _=>rfl⟩
 ·exact⟨[],fun _=>[],[],fun _=>vag,fun _ _ _ _ _=>.vague a c,fun _ _ _ _ _=>.vague _ _,fun _ _ _ _ _ j b h=>by simp at h,fun _ j b i h=>by simp at h,fun _=>rfl⟩
 ·have key2 : ∀ i, i < len → ∃ c : Value, W.cell? ⟨gb, o + i, none⟩ = some c ∧ ∃ y, DataW.trod enc P W base spare held n te [c] = some y := fun i hi => by
    obtain⟨cs,y,hl,htr,hcell⟩:=key i hi
    obtain⟨c,rfl⟩:=len1 hl
    refine⟨c,?_,y,htr⟩
    have:=hcell 0 (by decide)
    simpa using this
  obtain⟨cs,hcl,hq⟩:=jY len key2
  obtain⟨xs,bs,is,avs,hxl,az⟩:=qK (W:=W) (F:=F) cs (fun c hc=>by
   obtain⟨i,hi,rfl⟩:=List.mem_iff_getElem.1 hc
   obtain⟨_,y,hy⟩:=hq i _ (a9 hi)
   exact elem n _ y hy)
  subst hcl
  have sD:∀(D:Nat→Prop) n,(∀ j,j<is.length+1→D (n+j))→D n∧∀ j,j<is.length→D (n+1+j):=by
   intro D n hD
   refine⟨by simpa using hD 0 (by omega),fun j hj=>?_⟩
   have:=hD (j+1) (by omega)
   rwa [show n+1+j=n+(j+1) by omega]
  have sI:∀(m:NMap) n,(∀(j:Nat) i,((⟨gb,o,cap*1,1⟩:Info)::is)[j]?=some i→m (n+j)=i)→m n=⟨gb,o,cap*1,1⟩∧∀(j:Nat) i,is[j]?=some i→m (n+1+j)=i:=by
   intro m n hm
   refine⟨by simpa using hm 0 _ rfl,fun j i hi=>?_⟩
   have:=hm (j+1) i (by simpa using hi)
   rwa [show n+1+j=n+(j+1) by omega]
  refine⟨xs,fun n=>.cells 1 (avs (n+1))::bs (n+1),⟨gb,o,cap*1,1⟩::is,fun n=>.slice (some ⟨n,0,none⟩) xs.length xs.length,fun D m n hD hm=>?_,fun Fz h n hF hh=>?_,fun D m n hD hm j b hb=>?_,fun n j b i hb hi hd=>?_,fun n=>by simp[az.len]⟩
  ·have e:=(sI m n hm).1
   have:=VR.slice (D:=D) (m:=m) n 0 xs.length xs.length cap (sD D n (by simpa using hD)).1 (b7 _) (by omega) (.inr (by rw[e];simp))
   rw[e] at this
   rw[hxl] at this ⊢
   exact this
  ·have hs := az.vl Fz h (n + 1) (sD Fz n (by simpa using hF)).2 (fun j b hb => by
     have:=hh (j+1) b (by simpa using hb)
     rwa [show n+1+j=n+(j+1) by omega])
   have hlen:=hs.len
   have hflat:(xs.map fun x=>[F x]).flatten=xs.map F:=by
    clear hlen hs az hxl
    induction xs with
    | nil=>rfl
    | cons a t ih=>simp[ih]
   have h0':=hh 0 (.cells 1 (avs (n+1))) rfl
   have:=VL.list (Fz:=Fz) (h:=h) noL 1 (xs.map fun x=>[F x]) n 0 xs.length (avs (n+1)) 1 (sD Fz n (by simpa using hF)).1 h0' (.inl rfl) (fun r hr=>by obtain⟨x,_,rfl⟩:=k8.1 hr;rfl) (by simp) (by simp only[List.length_map] at hlen ⊢;omega) (fun j p x hp hx=>by
    rw[hflat] at hp
    rw[i6] at hx
    exact hs.at' j p x hp hx)
   rw[l4] at this
   exact this
  ·cases j with
   | zero =>
    obtain rfl:=a6 hb
    have e:=(sI m n hm).1
    have hv:=az.vr D m (n+1) (sD D n (by simpa using hD)).2 (sI m n hm).2
    rw[Nat.add_zero]
    refine⟨by rw[e],fun i v hi=>?_⟩
    obtain⟨v',h1,h2⟩:=hv.at hi
    refine⟨v',?_,h2⟩
    rw[e]
    exact (hq i v' h1).1
   | succ j =>
    have:=az.ok D m (n+1) (sD D n (by simpa using hD)).2 (sI m n hm).2 j b (by simpa using hb)
    rwa [show n+1+j=n+(j+1) by omega] at this
  ·cases j with
   | zero =>
    obtain rfl:=a6 hi
    exact hgb
   | succ j=>exact az.lt _ j b i (by simpa using hb) (by simpa using hi) hd
theorem open_ints{P:Program}{t te:TypeId}(ht:P.underlying t=some (.slice te))(hte:P.underlying te=some (.int .i64))(hC:P.cellsOf te=1){f:Int→List TV}(hf:∀ x,f x=[.v (.int .i64 x)])
 {v':Value} {fuel:Nat} {x:DataW H×List MemPlace} (h:DataW.trod enc P W base spare held fuel t [v']=some x):∃(xs:List Int) (bs:Nat→List Blk) (is:List Info) (av:Nat→Value),NArg W v' (.list 1 (xs.map f)) bs is av:=by
 obtain rfl:f=fun x=>[.v (.int .i64 x)]:=funext hf
 exact vY (F:=fun x:Int=>.v (.int .i64 x)) ht hC (fun n c y hy=>by
  obtain⟨z,hz,_⟩:=DataW.trod_int hte hy
  obtain rfl:c = .int .i64 z:=by simpa using hz
  exact⟨z,_,_,_,(Arg.atom (kV .i64 z)).n⟩) h
end
theorem NArgs.append{W:World}{vs1:List Value}{ps1:List TV}{bs bs2:Nat→List Blk}{is is2:List Info}{av avs:Nat→List Value}{vs':List Value}{ps:List TV}
 (a:NArgs W vs1 ps1 bs is av) (az:NArgs W vs' ps bs2 is2 avs):NArgs W (vs1++vs') (ps1++ps) (fun n=>bs n++bs2 (n+is.length)) (is++is2) (fun n=>av n++avs (n+is.length)):=by
 have cD:∀(D:Nat→Prop) n,(∀ j,j<(is++is2).length→D (n+j))→(∀ j,j<is.length→D (n+j))∧(∀ j,j<is2.length→D (n+is.length+j)):=by
  intro D n h
  refine⟨fun j hj=>h j (by simp;omega),fun j hj=>?_⟩
  have:=h (is.length+j) (by simp;omega)
  rwa [← e8] at this
 have cI:∀(m:NMap) n,(∀(j:Nat) i,(is++is2)[j]?=some i→m (n+j)=i)→(∀(j:Nat) i,is[j]?=some i→m (n+j)=i)∧(∀(j:Nat) i,is2[j]?=some i→m (n+is.length+j)=i):=by
  intro m n h
  refine⟨fun j i hj=>h j i (by rw[b8 (a7.1 hj).1];exact hj),fun j i hj=>?_⟩
  have:=h (is.length+j) i (by rw[c9 (by omega),Nat.add_sub_cancel_left];exact hj)
  rwa [← e8] at this
 refine⟨fun D m n hD hm=>?_,fun Fz h n hF hh=>?_,fun D m n hD hm j b hb=>?_,fun n j b i hb hi hd=>?_,fun n=>by simp[a.len,az.len]⟩
 ·exact (a.vr D m n (cD D n hD).1 (cI m n hm).1).append (az.vr D m (n+is.length) (cD D n hD).2 (cI m n hm).2)
 ·refine (a.vl Fz h n (cD Fz n hF).1 fun j b hb=>hh j b (by rw[b8 (a7.1 hb).1];exact hb)).append (az.vl Fz h (n+is.length) (cD Fz n hF).2 fun j b hb=>?_)
  have:=hh (is.length+j) b (by rw[c9 (by rw[a.len];omega),a.len,Nat.add_sub_cancel_left];exact hb)
  rwa [← e8] at this
 ·rcases d6 j is.length with hj|hj
  ·rw[b8 (by rw[a.len];exact hj)] at hb
   exact a.ok D m n (cD D n hD).1 (cI m n hm).1 j b hb
  ·rw[c9 (by rw[a.len];exact hj),a.len] at hb
   have:=az.ok D m (n+is.length) (cD D n hD).2 (cI m n hm).2 _ b hb
   rwa [show n+is.length+(j-is.length)=n+j by omega] at this
 ·rcases d6 j is.length with hj|hj
  ·rw[b8 (by rw[a.len];exact hj)] at hb
   rw[b8 hj] at hi
   exact a.lt n j b i hb hi hd
  ·rw[c9 (by rw[a.len];exact hj),a.len] at hb
   rw[c9 hj] at hi
   exact az.lt _ _ b i hb hi hd
theorem pQ{W:World}{α:Type}{F:α→List TV}:∀(rows:List (List Value)),(∀ r∈rows,∃(x:α) (bs:Nat→List Blk) (is:List Info) (av:Nat→List Value),NArgs W r (F x) bs is av) →
 ∃(xs:List α) (bs:Nat→List Blk) (is:List Info) (av:Nat→List Value),xs.length=rows.length∧NArgs W rows.flatten (xs.map F).flatten bs is av
 | [],_=>⟨[],_,_,_,rfl,NArgs.nil W⟩
 | r::t,h=>by
  obtain⟨xs,_,_,_,hl,a⟩:=pQ t (fun c hc=>h c (by simp[hc]))
  obtain⟨x,_,_,_,b⟩:=h r (by simp)
  exact⟨x::xs,_,_,_,by simp[hl],NArgs.append b a⟩
theorem uS{α:Type}{es:Nat}:∀(rows:List (List α)) (_:∀ r∈rows,r.length=es) (i j:Nat),j<es→rows.flatten[i*es+j]?=(rows[i]?).bind (·[j]?)
 | [],_,i,j,_=>by simp
 | r::t,h,0,j,hj=>by
  have:=h r (by simp)
  rw[Nat.zero_mul,i6,List.flatten_cons,b8 (by omega)]
  rfl
 | r::t,h,i+1,j,hj=>by
  have hr:=h r (by simp)
  rw[List.flatten_cons,c9 (by rw[Nat.add_mul];omega),show (i+1)*es+j-r.length=i*es+j by rw[Nat.add_mul];omega]
  exact uS t (fun r hr=>h r (by simp[hr])) i j hj
section
variable {H:Type} {enc:TypeId×Value→H} {W:World} {base:Nat} {spare:Nat→Bool} {held:Bool}
theorem open_rowsN{α:Type}{F:α→List TV}{es:Nat}(he:0<es)(hF:∀ x,(F x).length=es){P:Program}{t te:TypeId}(ht:P.underlying t=some (.slice te))(hC:P.cellsOf te=es)
 (elem:∀ n cs y,cs.length=es→DataW.trod enc P W base spare held n te cs=some y→∃(x:α) (bs:Nat→List Blk) (is:List Info) (av:Nat→List Value),NArgs W cs (F x) bs is av)
 {v':Value} {fuel:Nat} {x:DataW H×List MemPlace} (h:DataW.trod enc P W base spare held fuel t [v']=some x):∃(xs:List α) (bs:Nat→List Blk) (is:List Info) (av:Nat→Value),NArg W v' (.list es (xs.map F)) bs is av:=by
 rcases vE ht he hC h with rfl|⟨a,c,rfl⟩|⟨gb,o,len,cap,n,rfl,h0,hlc,hgb,key⟩
 ·exact⟨[],fun _=>[],[],fun _=>.slice none 0 0,fun _ _ _ _ _=>.nilSlice 0 0,fun _ _ _ _ _=>.nillist _ _,fun _ _ _ _ _ j b h=>by simp at h,fun _ j b i h=>by simp at h,fun _=>rfl⟩
 ·exact⟨[],fun _=>[],[],fun _=>vag,fun _ _ _ _ _=>.vague a c,fun _ _ _ _ _=>.vague _ _,fun _ _ _ _ _ j b h=>by simp at h,fun _ j b i h=>by simp at h,fun _=>rfl⟩
 ·obtain⟨rows,hrl,hq⟩:=jY len key
  have hw:∀ r∈rows,r.length=es:=fun r hr=>by
   obtain⟨i,hi,rfl⟩:=List.mem_iff_getElem.1 hr
   obtain⟨y,h1,_⟩:=hq i _ (a9 hi)
   exact h1
  obtain⟨xs,bs,is,avs,hxl,az⟩:=pQ (W:=W) (F:=F) rows (fun c hc=>by
   obtain⟨i,hi,rfl⟩:=List.mem_iff_getElem.1 hc
   obtain⟨y,h1,h2,_⟩:=hq i _ (a9 hi)
   exact elem n _ y h1 h2)
  have hcell:∀ i v,rows.flatten[i]?=some v→W.cell? ⟨gb,o+i,none⟩=some v:=fun i v hv=>by
   have e:i=i/es*es+i%es:=by rw[Nat.mul_comm];exact (Nat.div_add_mod i es).symm
   rw[e,uS rows hw _ _ (l3 _ he)] at hv
   obtain⟨r,hr,hv⟩:=Option.bind_eq_some_iff.1 hv
   obtain⟨y,h1,h2,h3⟩:=hq _ _ hr
   have:=h3 (i%es) (l3 _ he)
   rw[hv] at this
   rw[← this]
   congr 2
   omega
  subst hrl
  have sD:∀(D:Nat→Prop) n,(∀ j,j<is.length+1→D (n+j))→D n∧∀ j,j<is.length→D (n+1+j):=by
   intro D n hD
   refine⟨by simpa using hD 0 (by omega),fun j hj=>?_⟩
   have:=hD (j+1) (by omega)
   rwa [show n+1+j=n+(j+1) by omega]
  have sI:∀(m:NMap) n,(∀(j:Nat) i,((⟨gb,o,cap*es,es⟩:Info)::is)[j]?=some i→m (n+j)=i)→m n=⟨gb,o,cap*es,es⟩∧∀(j:Nat) i,is[j]?=some i→m (n+1+j)=i:=by
   intro m n hm
   refine⟨by simpa using hm 0 _ rfl,fun j i hi=>?_⟩
   have:=hm (j+1) i (by simpa using hi)
   rwa [show n+1+j=n+(j+1) by omega]
  refine⟨xs,fun n=>.cells es (avs (n+1))::bs (n+1),⟨gb,o,cap*es,es⟩::is,fun n=>.slice (some ⟨n,0,none⟩) xs.length xs.length,fun D m n hD hm=>?_,fun Fz h n hF' hh=>?_,fun D m n hD hm j b hb=>?_,fun n j b i hb hi hd=>?_,fun n=>by simp[az.len]⟩
  ·have e:=(sI m n hm).1
   have:=VR.slice (D:=D) (m:=m) n 0 xs.length xs.length cap (sD D n (by simpa using hD)).1 (b7 _) (by omega) (.inr (by rw[e];simp))
   rw[e] at this
   rw[hxl] at this ⊢
   exact this
  ·have hs := az.vl Fz h (n + 1) (sD Fz n (by simpa using hF')).2 (fun j b hb => by
     have:=hh (j+1) b (by simpa using hb)
     rwa [show n+1+j=n+(j+1) by omega])
   have hlen:=hs.len
   have hfl:((xs.map F).flatten).length=xs.length*es:=by
    clear hlen hs az hxl
    induction xs with
    | nil=>simp
    | cons a t ih=>simp only[List.map_cons,List.flatten_cons,List.length_append,hF,ih,List.length_cons,Nat.add_mul];omega
   have h0':=hh 0 (.cells es (avs (n+1))) rfl
   have:=VL.list (Fz:=Fz) (h:=h) noL es (xs.map F) n 0 xs.length (avs (n+1)) es (sD Fz n (by simpa using hF')).1 h0' (.inl rfl) (fun r hr=>by obtain⟨x,_,rfl⟩:=k8.1 hr;exact hF x) (by simp) (by simp only[List.length_map] at hlen ⊢;omega) (fun j p x hp hx=>by
    rw[i6] at hx
    exact hs.at' j p x hp hx)
   rw[l4] at this
   exact this
  ·cases j with
   | zero =>
    obtain rfl:=a6 hb
    have e:=(sI m n hm).1
    have hv:=az.vr D m (n+1) (sD D n (by simpa using hD)).2 (sI m n hm).2
    rw[Nat.add_zero]
    refine⟨by rw[e],fun i v hi=>?_⟩
    obtain⟨v',h1,h2⟩:=hv.at hi
    refine⟨v',?_,h2⟩
    rw[e]
    exact hcell i v' h1
   | succ j =>
    have:=az.ok D m (n+1) (sD D n (by simpa using hD)).2 (sI m n hm).2 j b (by simpa using hb)
    rwa [show n+1+j=n+(j+1) by omega] at this
  ·cases j with
   | zero =>
    obtain rfl:=a6 hi
    exact hgb
   | succ j=>exact az.lt _ j b i (by simpa using hb) (by simpa using hi) hd
end
section
variable {H:Type} {enc:TypeId×Value→H} {W:World} {base:Nat} {spare:Nat→Bool} {held:Bool} {P:Program} {k0:FloatKind}
end
end Go.Rex
open Go Go.Rex Go.Proofs
namespace Go.Rex
section
variable {P:Program} {w:World}
theorem rK:∀ {l:List (String×DataW Unit)} {ps:List MemPlace},DataW.LaidVars P w l ps→∀ {n:String} {d:DataW Unit},(n,d)∈l →
 ∃ g t cs fuel p,P.globalNamed n=some g∧(P.globals[g]?).map (·.type)=some t∧w.var? P n=some cs∧DataW.trod (fun _=>()) P w 0 (fun _=>true) false fuel t cs.toList=some (d,p)
 | [],_,_,_,_,hm=>by cases hm
 | (a,b)::r,_,h,n,d,hm=>by
  obtain⟨g,t,cs,fuel,p,q,h1,h2,h3,h4,h5,_⟩:=h
  rcases j5.1 hm with e|e
  ·cases e;exact⟨g,t,cs,fuel,p,h1,h2,h3,h4⟩
  ·exact rK h5 e
def zG(P:Program)(f:TypeId→DataW Unit→Option (List Value)):List (TypeId×DataW Unit)→Option (List Value)
 | []=>some []
 | (t,d)::r=>match f t d,zG P f r with
  | some a,some b=>some (a++b)
  | _,_=>none
def xK(P:Program):Nat→List Field→Option Nat
 | o,[]=>some o
 | o,f::r=>if f.offset=o then xK P (o+P.cellsOf f.type) r else none
def uH(P:Program):Nat→TypeId→DataW Unit→Option (List Value)
 | 0,_,_=>none
 | n+1,t,d=>match P.underlying t,d with
  | some (.int k),.lit (.int _ z)=>some [.int k z]
  | some .string,.lit (.string l)=>some [.string ⟨l.toArray⟩]
  | some .bool,.lit (.bool b)=>some [.bool b]
  | some (.array m e),.agg ds=>if ds.length=m∧P.cellsOf t=m*P.cellsOf e then zG P (uH P n) (ds.map fun d=>(e,d)) else none
  | some (.struct fs),.agg ds=>if ds.length=fs.size∧xK P 0 fs.toList=some (P.cellsOf t) then zG P (uH P n) ((fs.toList.map (·.type)).zip ds) else none
  | _,_=>none
abbrev RdC(P:Program)(w:World)(t:TypeId)(d:DataW Unit)(r:List Value):Prop:=∃ fuel p,DataW.trod (fun _=>()) P w 0 (fun _=>true) false fuel t r=some (d,p)
theorem xE{f:TypeId→DataW Unit→Option (List Value)}(hf:∀ t d cs,f t d=some cs→∀ r,RdC P w t d r→r=cs):∀(l:List (TypeId×DataW Unit)) (cs r:List Value) (pos:Nat→Nat),zG P f l=some cs →
 (∀ i t d,l[i]?=some (t,d)→RdC P w t d ((r.drop (pos i)).take (P.cellsOf t))∧pos (i+1)=pos i+P.cellsOf t)→r.length=pos l.length→r.drop (pos 0)=cs
 | [],cs,r,pos,h,_,hl=>by
  cases h
  exact List.drop_eq_nil_of_le (by rw[hl];exact b7 _)
 | (t,d)::l,cs,r,pos,h,ha,hl=>by
  unfold zG at h
  split at h
  ·rename_i a b e1 e2
   cases h
   obtain⟨h1,h2⟩:=ha 0 t d rfl
   have k1:=hf t d a e1 _ h1
   have k2:=xE hf l b r (fun i=>pos (i+1)) e2 (fun i t d hi=>ha (i+1) t d (by simpa using hi)) (by simpa using hl)
   rw[h2,← List.drop_drop] at k2
   rw[← List.take_append_drop (P.cellsOf t) (r.drop (pos 0)),k1,k2]
  ·cases h
theorem uF:∀(fs:List Field) (o e:Nat),xK P o fs=some e→∃ pos:Nat→Nat,pos 0=o∧pos fs.length=e∧∀ i f,fs[i]?=some f→f.offset=pos i∧pos (i+1)=pos i+P.cellsOf f.type
 | [],o,e,h=>by cases h;exact⟨fun _=>o,rfl,rfl,fun i f hf=>by simp at hf⟩
 | f::r,o,e,h=>by
  unfold xK at h
  split at h
  ·rename_i ho
   obtain⟨pos,h1,h2,h3⟩:=uF r _ _ h
   refine⟨fun|0=>o|i+1=>pos i,rfl,h2,fun i g hg=>?_⟩
   cases i with
   | zero=>cases hg;exact⟨ho,h1⟩
   | succ i=>exact h3 i g (by simpa using hg)
  ·cases h
theorem Bu:∀(n:Nat) (t:TypeId) (d:DataW Unit) (cs:List Value),uH P n t d=some cs→∀ r,RdC P w t d r→r=cs:=by
 intro n
 induction n with
 | zero=>intro t d cs h;cases h
 | succ n ih =>
  intro t d cs h r ⟨fuel,p,hr⟩
  unfold uH at h
  split at h
  ·rename_i k k' z hu
   cases h
   obtain⟨z',e1,e2,_⟩:=DataW.trod_int hu hr
   simp only[Prod.mk.injEq,DataW.lit.injEq,Lit.int.injEq] at e2
   rw[e1,e2.1.2]
  ·rename_i l hu
   cases h
   obtain⟨b,e1,e2,_⟩:=DataW.trod_string hu hr
   simp only[Prod.mk.injEq,DataW.lit.injEq,Lit.string.injEq] at e2
   rw[e1,e2.1]
  ·rename_i b hu
   cases h
   obtain⟨b',e1,e2⟩:=DataW.trod_bool hu hr
   simp only[Prod.mk.injEq,DataW.lit.injEq,Lit.bool.injEq] at e2
   rw[e1,e2.1]
  ·rename_i m e ds hu
   split at h
   ·rename_i hc
    obtain⟨xs,m',_,e2,e3,e4,e5⟩:=DataW.trod_array hu hr
    simp only[Prod.mk.injEq,DataW.agg.injEq] at e2
    have:=xE (w:=w) ih (ds.map fun d=>(e,d)) cs r (fun i=>i*P.cellsOf e) h (fun i t' d' hi=>by
     rw[d8,g7] at hi
     obtain⟨x,hx,hh⟩:=hi
     simp only[Prod.mk.injEq] at hh
     obtain⟨rfl,rfl⟩:=hh
     have hlt:=(a7.1 hx).1
     have hi5:=e5 i (by omega)
     rw[e2.1,d8,g7] at hx
     obtain⟨y,hy,rfl⟩:=hx
     rw[hy] at hi5
     exact⟨⟨_,_,hi5⟩,by rw[Nat.add_mul,Nat.one_mul]⟩) (by rw[l4,hc.1,← hc.2];exact e3)
    simpa using this
   ·cases h
  ·rename_i fs ds hu
   split at h
   ·rename_i hc
    obtain⟨xs,m',_,e2,e3,e4,e5⟩:=DataW.trod_struct hu hr
    simp only[Prod.mk.injEq,DataW.agg.injEq] at e2
    obtain⟨pos,p0,p1,p2⟩:=uF _ _ _ hc.2
    have:=xE (w:=w) ih ((fs.toList.map (·.type)).zip ds) cs r pos h (fun i t' d' hi=>by
     rw[List.getElem?_zip_eq_some,d8,g7] at hi
     obtain⟨⟨f,hf,rfl⟩,hx⟩:=hi
     have hfs:fs[i]?=some f:=by simpa using hf
     have hi5:=e5 i f hfs
     obtain⟨q1,q2⟩:=p2 i f hf
     rw[e2.1,d8,g7] at hx
     obtain⟨y,hy,rfl⟩:=hx
     rw[hy,q1] at hi5
     exact⟨⟨_,_,hi5⟩,q2⟩) (by
     have:((fs.toList.map (·.type)).zip ds).length=fs.toList.length:=by simp[hc.1]
     rw[this,p1];exact e3)
    rw[p0] at this
    simpa using this
   ·cases h
  ·cases h
theorem eN{l:List (String×DataW Unit)}(h:laidMet P l w){n:String}{d:DataW Unit}(hm:(n,d)∈l){g:Nat}{t:TypeId}{cs:List Value}(hg:P.globalNamed n=some g)(hty:(P.globals[g]?).map (·.type)=some t)(hf:uH P 10 t d=some cs) :
 ∀(i:Nat) v,cs[i]?=some v→w.cell? ⟨g,i,none⟩=some v:=by
 obtain⟨ps,hv,_⟩:=h
 obtain⟨g',t',cs',fuel,p,h1,h2,h3,h4⟩:=rK hv hm
 obtain rfl:=a6 (hg.symm.trans h1)
 obtain rfl:=a6 (hty.symm.trans h2)
 have e:=Bu (w:=w) 10 _ _ _ hf _ ⟨_,_,h4⟩
 intro i v hi
 rw[World.var?_cell h1 h3]
 rw[← e] at hi
 simpa using hi
end
def Bq(w:World):Nat→List (Nat×List Value)→Prop
 | _,[]=>True
 | g,p::r=>(∀(i:Nat) v,p.2[i]?=some v→w.cell? ⟨g,i,none⟩=some v)∧Bq w (g+1) r
theorem xL{w:World}:∀(l:List (Nat×List Value)) (g k:Nat) (p:Nat×List Value),Bq w g l→l[k]?=some p→∀(i:Nat) v,p.2[i]?=some v→w.cell? ⟨g+k,i,none⟩=some v
 | [],_,_,_,_,h=>by simp at h
 | q::r,g,0,p,h,hk=>by cases hk;exact h.1
 | q::r,g,k+1,p,h,hk=>by
  have:=xL r (g+1) k p h.2 (by simpa using hk)
  rw[show g+(k+1)=g+1+k by omega]
  exact this
theorem mL{w:World}{g:Nat}:∀(i:Nat) v,([]:List Value)[i]?=some v→w.cell? ⟨g,i,none⟩=some v:=fun i v h=>by simp at h
theorem Bz{w:World}{g:Nat}{v:Value}(h:w.cell? ⟨g,0,none⟩=some v):g<w.heap.size:=by
 unfold World.cell? at h
 rcases d6 g w.heap.size with q|q
 ·exact q
 ·rw[Array.getElem?_eq_none q] at h
  simp at h
theorem Cq{w:World}(h:Bq w 0 ghCells):GW w:=fun g es c hg i v hv=>by
 unfold GH at hg
 rw[d8,g7] at hg
 obtain⟨p,hp,e⟩:=hg
 cases e
 have:=xL ghCells 0 g p h hp i v hv
 rwa [i6] at this
end Go.Rex
