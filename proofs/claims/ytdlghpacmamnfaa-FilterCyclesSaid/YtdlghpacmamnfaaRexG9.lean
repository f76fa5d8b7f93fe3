/- An executor of the program's functions on trees of values,proved sound. -/
import Derived.Test.YtdlghpacmamnfaaRexG8
import Derived.KernelRfl
import Derived.Test.YtdlghpacmamnfaaRexG7
set_option linter.unusedSimpArgs false
set_option linter.unusedVariables false
set_option linter.defProp false
namespace Go.Rex
open Go.RowKit
section
inductive RN (fl:List (Option Nat)):TV→TV→Prop
 | Z {p:TV}:RN fl p .Z
 | keep {p q:TV} (e:p=q) (h:lf 4 q=true):RN fl p q
 | lsl {n o len j len':Nat} (h:fl[j]?=some (some n)) (e:len=len'):RN fl (.lsl n o len) (.lsl j o len')
 | lptr {n r o j:Nat} (h:fl[j]?=some (some n)):RN fl (.lptr n r o) (.lptr j r o)
 | lmap {n j:Nat} (h:fl[j]?=some (some n)):RN fl (.lmap n) (.lmap j)
 | nil {j:Nat} (h:fl[j]?=some none):RN fl (.v (.slice none 0 0)) (.lsl j 0 0)
 | nl {es:Nat}:RN fl (.v (.slice none 0 0)) (.list es [])
 | agg {l l':List TV} (hl:l'.length=l.length) (h:∀(i:Nat) p q,l[i]?=some p→l'[i]?=some q→RN fl p q):RN fl (.agg l) (.agg l')
 | tuple {l l':List TV} (hl:l'.length=l.length) (h:∀(i:Nat) p q,l[i]?=some p→l'[i]?=some q→RN fl p q):RN fl (.tuple l) (.tuple l')
structure RNs(fl:List (Option Nat))(l l':List TV):Prop where
 len:l'.length=l.length
 at':∀(i:Nat) p q,l[i]?=some p→l'[i]?=some q→RN fl p q
theorem RNs.nil{fl:List (Option Nat)}:RNs fl [] []:=⟨rfl,fun i p q h=>by simp at h⟩
theorem RNs.cons{fl:List (Option Nat)}{p q:TV}{l l':List TV}(h:RN fl p q)(hs:RNs fl l l'):RNs fl (p::l) (q::l'):=by
 refine⟨by simp[hs.len],fun i p q hp hq=>?_⟩
 cases i with
 | zero=>simp at hp hq;subst hp hq;exact h
 | succ i=>simp at hp hq;exact hs.at' i _ _ hp hq
variable {Fz:Nat→Prop} {h:List Blk} {L L':Nat→LI}
theorem RN.vl{fl:List (Option Nat)}(hL:∀ j n,fl[j]?=some (some n)→L' j=L n)(hV:∀ j,fl[j]?=some none→(L' j).ok=true∧(L' j).nm=none){p q:TV}(hr:RN fl p q):∀ {x:Value},VL Fz h L p x→VL Fz h L' q x:=by
 induction hr with
 | Z=>intro x _;exact .Z L' x
 | keep e hl=>intro x hp;subst e;exact VL.toNo 4 hl hp
 | lsl hj e =>
  intro x hp
  subst e
  have e:=hL _ _ hj
  cases hp with
  | lslnil _ _ ok hn=>rw[← e] at ok hn;exact .lslnil L' _ ok hn
  | lsl _ _ _ _ nm ok hn hle=>rw[← e] at ok hn hle ⊢;exact .lsl L' _ _ _ nm ok hn hle
 | lptr hj =>
  intro x hp
  have e:=hL _ _ hj
  cases hp with
  | lptr _ _ _ _ nm ok hn=>rw[← e] at ok hn ⊢;exact .lptr L' _ _ _ nm ok hn
 | lmap hj =>
  intro x hp
  have e:=hL _ _ hj
  cases hp with
  | lmap _ _ nm ok hn=>rw[← e] at ok hn;exact .lmap L' _ nm ok hn
 | nil hj =>
  intro x hp
  obtain rfl:=hp.bool_inv
  exact .lslnil L' _ (hV _ hj).1 (hV _ hj).2
 | nl =>
  intro x hp
  obtain rfl:=hp.bool_inv
  exact .nillist L' _
 | @agg l l' hl hh ih =>
  intro x hp
  cases hp with
  | agg _ _ l2 hl2 ha =>
   refine .agg L' l' l2 (by omega) fun i p y h1 h2=>?_
   have hlt:=(a7.1 h1).1
   have h0:l[i]?=some l[i]:=b5 (by omega)
   exact ih i _ _ h0 h1 (ha i _ _ h0 h2)
 | @tuple l l' hl hh ih =>
  intro x hp
  cases hp with
  | tuple _ _ l2 hl2 ha =>
   refine .tuple L' l' l2 (by omega) fun i p y h1 h2=>?_
   have hlt:=(a7.1 h1).1
   have h0:l[i]?=some l[i]:=b5 (by omega)
   exact ih i _ _ h0 h1 (ha i _ _ h0 h2)
def mX:List (Option Nat)→Bool
 | []=>true
 | none::l=>mX l
 | some n::l=>l.all (fun x=>x != some n)&&mX l
theorem lL:∀ {fl:List (Option Nat)},mX fl=true→∀(i j n:Nat),fl[i]?=some (some n)→fl[j]?=some (some n)→i=j
 | [],_,i,j,n,h,_=>by simp at h
 | none::l,hr,i,j,n,h1,h2=>by
  cases i with
  | zero=>simp at h1
  | succ i=>cases j with
   | zero=>simp at h2
   | succ j=>rw[lL (fl:=l) (by simpa [mX] using hr) i j n (by simpa using h1) (by simpa using h2)]
 | some m::l,hr,i,j,n,h1,h2=>by
  simp only[mX,Bool.and_eq_true] at hr
  have hne:∀ k,l[k]?≠some (some m):=fun k hk=>by
   have:=a8.1 hr.1 _ (b6 hk)
   simp at this
  cases i with
  | zero=>cases j with
   | zero=>rfl
   | succ j=>simp at h1;subst h1;exact absurd (by simpa using h2) (hne j)
  | succ i=>cases j with
   | zero=>simp at h2;subst h2;exact absurd (by simpa using h1) (hne i)
   | succ j=>rw[lL (fl:=l) hr.2 i j n (by simpa using h1) (by simpa using h2)]
inductive RB (fl:List (Option Nat)) (hp:List TB):List TB→List (Option Nat)→Prop
 | nil:RB fl hp [] []
 | virt {es:Nat} {hp':List TB} {l:List (Option Nat)} (h:RB fl hp hp' l):RB fl hp (.rows es []::hp') (none::l)
 | rows {n es:Nat} {rows rows':List (List TV)} {hp':List TB} {l:List (Option Nat)} (h:RB fl hp hp' l) (hb:hp[n]?=some (.rows es rows)) (e:rows=rows'):RB fl hp (.rows es rows'::hp') (some n::l)
 | var {n:Nat} {row row':List TV} {hp':List TB} {l:List (Option Nat)} (h:RB fl hp hp' l) (hb:hp[n]?=some (.var row)) (hr:RNs fl row row'):RB fl hp (.var row'::hp') (some n::l)
 | tbl {n:Nat} {es es':List (TV×TV)} {hp':List TB} {l:List (Option Nat)} (h:RB fl hp hp' l) (hb:hp[n]?=some (.tbl es)) (e:es=es'):RB fl hp (.tbl es'::hp') (some n::l)
theorem RB.at{fl:List (Option Nat)}{hp hp':List TB}{l:List (Option Nat)}(hb:RB fl hp hp' l):hp'.length=l.length∧∀(j:Nat) (b:TB),hp'[j]?=some b→(l[j]?=some none∧∃ es,b = .rows es [])∨∃ n,l[j]?=some (some n)∧((∃ es rows,b = .rows es rows∧hp[n]?=some b)∨(∃ row row',b = .var row'∧hp[n]?=some (.var row)∧RNs fl row row')∨∃ es,b = .tbl es∧hp[n]?=some b):=by
 induction hb with
 | nil=>exact⟨rfl,fun j b h=>by simp at h⟩
 | virt h ih =>
  refine⟨by simp[ih.1],fun j b hj=>?_⟩
  cases j with
  | zero=>simp at hj;subst hj;exact .inl ⟨rfl,_,rfl⟩
  | succ j=>exact ih.2 j b (by simpa using hj)
 | rows h hb e ih =>
  subst e
  refine⟨by simp[ih.1],fun j b hj=>?_⟩
  cases j with
  | zero=>simp at hj;subst hj;exact .inr ⟨_,rfl,.inl ⟨_,_,rfl,hb⟩⟩
  | succ j=>exact ih.2 j b (by simpa using hj)
 | var h hb hr ih =>
  refine⟨by simp[ih.1],fun j b hj=>?_⟩
  cases j with
  | zero=>simp at hj;subst hj;exact .inr ⟨_,rfl,.inr (.inl ⟨_,_,rfl,hb,hr⟩)⟩
  | succ j=>exact ih.2 j b (by simpa using hj)
 | tbl h hb e ih =>
  subst e
  refine⟨by simp[ih.1],fun j b hj=>?_⟩
  cases j with
  | zero=>simp at hj;subst hj;exact .inr ⟨_,rfl,.inr (.inr ⟨_,rfl,hb⟩)⟩
  | succ j=>exact ih.2 j b (by simpa using hj)
theorem Wk.ren{tm tm':List TV}{hp hp':List TB}(fl:List (Option Nat))(hok:mX fl=true)(hB:RB fl hp hp' fl)(hT:RNs fl tm tm'):Wk ⟨tm,hp⟩ ⟨tm',hp'⟩:=by
 intro h0 Fz L vm h hs
 obtain⟨hlen,hat⟩:=hB.at
 have esOf':∀ j:Nat,∃ es:Nat,fl[j]?=some none→hp'[j]?=some (TB.rows es []):=by
  intro j
  cases hb:hp'[j]? with
  | none =>
   refine⟨0,fun hf=>?_⟩
   have h1:=(a7.1 hf).1
   rw[e8] at hb
   omega
  | some b =>
   rcases hat j b hb with⟨_,es,rfl⟩|⟨n,h1,_⟩
   ·exact⟨es,fun _=>rfl⟩
   ·exact⟨0,fun hf=>by rw[h1] at hf;cases hf⟩
 let es:Nat→Nat:=fun j=>Classical.choose (esOf' j)
 have hes:∀ j:Nat,fl[j]?=some none→hp'[j]?=some (TB.rows (es j) []):=fun j=>Classical.choose_spec (esOf' j)
 let L':Nat→LI:=fun j=>match fl[j]? with
  | some (some n)=>L n
  | some none=>⟨true,none,es j,0⟩
  | none=>⟨false,none,0,0⟩
 have hL:∀ j n:Nat,fl[j]?=some (some n)→L' j=L n:=fun j n hj=>by simp only[L',hj]
 have hV':∀ j:Nat,fl[j]?=some none→L' j=⟨true,none,es j,0⟩:=fun j hj=>by simp only[L',hj]
 have hV:∀ j:Nat,fl[j]?=some none→(L' j).ok=true∧(L' j).nm=none:=fun j hj=>by rw[hV' j hj];exact⟨rfl,rfl⟩
 have hN:∀ j:Nat,fl[j]?=none→(L' j).ok=false:=fun j hj=>by simp only[L',hj]
 clear_value L'
 have hmap:∀(l l':List TV) (x:List Value),RNs fl l l'→VLs Fz h L l x→VLs Fz h L' l' x:=by
  intro l l' x hr hx
  refine⟨by have:=hr.len;have:=hx.len;omega,fun i q y hq hy=>?_⟩
  have hlt:=(a7.1 hq).1
  have hll:=hr.len
  have h0:l[i]?=some l[i]:=b5 (by omega)
  exact (hr.at' i _ _ h0 hq).vl hL hV (hx.at' i _ _ h0 hy)
 refine⟨Fz,L',Grow.refl _ _,⟨hmap _ _ _ hT hs.tmr,?_,?_,?_,hs.fz,hs.ext⟩⟩
 ·intro j b hb
  rcases hat j b hb with⟨hj,es',rfl⟩|⟨n,hj,h1⟩
  ·have:=hes j hj
   rw[hb] at this
   injection this with this
   injection this with this _
   refine⟨(hV j hj).1,by rw[hV' j hj];exact this.symm,by rw[hV' j hj];rfl,by simp,.inl ⟨(hV j hj).2,rfl⟩⟩
  ·rcases h1 with⟨es',rows,rfl,hn⟩|⟨row,row',rfl,hn,hr⟩|⟨es',rfl,hn⟩
   ·have:=hs.blk n _ hn
    unfold BR at this ⊢
    rw[hL j n hj]
    exact this
   ·obtain⟨q1,nm,cs,e1,e2,e3,e4,e5⟩:=hs.blk n _ hn
    unfold BR
    rw[hL j n hj]
    exact⟨q1,nm,cs,e1,e2,e3,e4,hmap _ _ _ hr e5⟩
   ·have:=hs.blk n _ hn
    unfold BR at this ⊢
    rw[hL j n hj]
    exact this
 ·intro j hj
  show j<hp'.length
  rcases d4 j fl.length with hlt|hge
  ·omega
  ·rw[hN j (e8.2 hge)] at hj;cases hj
 ·intro j j' b b' nm hb hb' l1 l2 e1 e2
  have f:∀(j:Nat) (b:TB),hp'[j]?=some b→b.live=true→(L' j).nm=some nm→∃(n:Nat) (b0:TB),fl[j]?=some (some n)∧hp[n]?=some b0∧b0.live=true∧(L n).nm=some nm:=by
   intro j b hb hl he
   rcases hat j b hb with⟨hj,es',rfl⟩|⟨n,hj,h1⟩
   ·rw[(hV j hj).2] at he;cases he
   ·rw[hL j n hj] at he
    rcases h1 with⟨es',rows,rfl,hn⟩|⟨row,row',rfl,hn,hr⟩|⟨es',rfl,hn⟩
    ·exact⟨n,_,hj,hn,rfl,he⟩
    ·exact⟨n,_,hj,hn,rfl,he⟩
    ·exact⟨n,_,hj,hn,rfl,he⟩
  obtain⟨n,b0,g1,g2,g3,g4⟩:=f j b hb l1 e1
  obtain⟨n',b0',k1,k2,k3,k4⟩:=f j' b' hb' l2 e2
  obtain rfl:=hs.inj n n' b0 b0' nm g2 k2 g3 k3 g4 k4
  exact lL hok j j' n g1 k1
end
section
variable {C:Ctx} {P:Program} {ops:Array Oper} {rest:List Oper} {tm tm2:List TV} {hp hp2:List TB} {Q:TS→Prop} {o:Oper}
variable {dst:Option Tmp} {ty:TypeId} {pos:String} {aft:Array Edge} {gd:Option (Nat×Bool)}
def kB{α:Type}(xs:List α)(i:Int):Option α:=if 0≤i then xs[i.toNat]? else none
def wM{α:Type}(bytes:Nat)(xs ys:List α):Option (List α):=if xs.length+ys.length≤2^40∧(xs.length+ys.length)*bytes≤140737488355328 then some (xs++ys) else none
theorem rM{α:Type}{xs:List α}{i:Int}{x:α}(h:kB xs i=some x):0≤i∧i<xs.length:=by
 unfold kB at h
 split at h
 ·have:=(a7.1 h).1;omega
 ·cases h
theorem qV{α:Type}{xs:List α}{i:Int}{x:α}(h:kB xs i=some x):xs[i.toNat]?=some x:=by
 unfold kB at h
 split at h
 ·exact h
 ·cases h
theorem tP{α:Type}{xs:List α}{f:α→List TV}{i:Int}{x:α}(h:kB xs i=some x):tidx (xs.map f) i=some (f x):=by
 unfold tidx
 rw[b8 (rM h).1,d2,qV h]
 rfl
theorem TO.pop1{p:TV}(hw:twant ops tm o=some true)(hv:tpop P hp tm o=some p)(ht:tput tm o.dst p=tm2)(hq:TO C P ops rest ⟨tm2,hp⟩ Q):TO C P ops (o::rest) ⟨tm,hp⟩ Q:=by
 subst ht;exact TO.p hw (OpP.of hv) hq
theorem TO.skip1(hw:twant ops tm o=some false)(ht:tput tm o.dst (.tuple [])=tm2)(hq:TO C P ops rest ⟨tm2,hp⟩ Q):TO C P ops (o::rest) ⟨tm,hp⟩ Q:=by
 subst ht;exact TO.skip hw hq
variable {ms:List Nat} {i:Nat} {np:List Nat} {c:Nat}
theorem TD.pop1{p:TV}(hw:twant ops tm o=some true)(hv:tpop P hp tm o=some p)(ht:tput tm o.dst p=tm2)(hq:TD C P ops ms rest (i+1) np c ⟨tm2,hp⟩ Q):TD C P ops ms (o::rest) i np c ⟨tm,hp⟩ Q:=by
 subst ht;exact TD.p hw (OpP.of hv) hq
theorem TD.skip1(hw:twant ops tm o=some false)(ht:tput tm o.dst (.tuple [])=tm2)(hq:TD C P ops ms rest (i+1) np c ⟨tm2,hp⟩ Q):TD C P ops ms (o::rest) i np c ⟨tm,hp⟩ Q:=by
 subst ht;exact TD.skip hw hq
theorem TX.loopE{σ ε:Type}{b:Code}{step:σ→Option (σ ⊕ ε)}{x:σ}{e:ε}{Q:Exit→TS→Prop}(hr:run step x=some e)(I:σ→TS)(J:ε→Exit×TS)
 (hB:∀ x y,step x=some y→TX C P b (I x) (fun ex st=>match y with|.inl x'=>ex = .normal∧Wk st (I x')|.inr e=>ex=(J e).1∧Wk st (J e).2)) (hne:∀ e,(J e).1 ≠ .normal) (hq:Q (J e).1 (J e).2) {s:TS} (hw:Wk s (I x)):TX C P (.loop b) s Q:=by
 refine TX.weak hw (TX.post ((TX.loop hr I (fun e ex st=>ex=(J e).1∧Wk st (J e).2) (fun x x' h=>hB x _ h) (fun x e h=>?_)).mono ?_))
 ·exact (hB x _ h).mono fun ex st hh=>⟨by rw[hh.1];exact hne e,hh⟩
 ·rintro ex st ⟨rfl,hh⟩
  exact⟨_,hh,hq⟩
end
end Go.Rex
namespace Go.Rex
open Go.RowKit
section
variable {C:Ctx} {P:Program} {ops:Array Oper} {rest:List Oper} {tm tm2:List TV} {hp hp2:List TB} {Q:TS→Prop} {o:Oper}
variable {dst:Option Tmp} {ty:TypeId} {pos:String} {aft:Array Edge} {gd:Option (Nat×Bool)} {p q:TV} {ms:List Nat} {i:Nat} {np:List Nat} {c:Nat}
theorem TO.mv{x:Operand}(hw:twant ops tm { dst:=dst,op:=.move x,type:=ty,pos:=pos,after:=aft,guard:=gd }=some true)(hv:tev tm x=p)(ht:tput tm dst p=tm2)(hq:TO C P ops rest ⟨tm2,hp⟩ Q):TO C P ops ({ dst:=dst,op:=.move x,type:=ty,pos:=pos,after:=aft,guard:=gd }::rest) ⟨tm,hp⟩ Q:=
 TO.pop1 hw (by subst hv;rfl) ht hq
theorem TD.mv{x:Operand}(hw:twant ops tm { dst:=dst,op:=.move x,type:=ty,pos:=pos,after:=aft,guard:=gd }=some true)(hv:tev tm x=p)(ht:tput tm dst p=tm2)(hq:TD C P ops ms rest (i+1) np c ⟨tm2,hp⟩ Q):TD C P ops ms ({ dst:=dst,op:=.move x,type:=ty,pos:=pos,after:=aft,guard:=gd }::rest) i np c ⟨tm,hp⟩ Q:=
 TD.pop1 hw (by subst hv;rfl) ht hq
theorem TO.asg{x:Operand}(hw:twant ops tm { dst:=dst,op:=.assign x,type:=ty,pos:=pos,after:=aft,guard:=gd }=some true)(hv:tev tm x=p)(ht:tput tm dst p=tm2)(hq:TO C P ops rest ⟨tm2,hp⟩ Q):TO C P ops ({ dst:=dst,op:=.assign x,type:=ty,pos:=pos,after:=aft,guard:=gd }::rest) ⟨tm,hp⟩ Q:=
 TO.pop1 hw (by subst hv;rfl) ht hq
theorem TD.asg{x:Operand}(hw:twant ops tm { dst:=dst,op:=.assign x,type:=ty,pos:=pos,after:=aft,guard:=gd }=some true)(hv:tev tm x=p)(ht:tput tm dst p=tm2)(hq:TD C P ops ms rest (i+1) np c ⟨tm2,hp⟩ Q):TD C P ops ms ({ dst:=dst,op:=.assign x,type:=ty,pos:=pos,after:=aft,guard:=gd }::rest) i np c ⟨tm,hp⟩ Q:=
 TD.pop1 hw (by subst hv;rfl) ht hq
theorem TO.bin{b:BinOp}{t u:TypeId}{x y:Operand}{a d r:Value}(hw:twant ops tm { dst:=dst,op:=.binOp b t x y u,type:=ty,pos:=pos,after:=aft,guard:=gd }=some true)(hx:tev tm x = .v a)(hy:tev tm y = .v d)(hv:bE b a d=some r)(ht:tput tm dst (.v r)=tm2)(hq:TO C P ops rest ⟨tm2,hp⟩ Q):TO C P ops ({ dst:=dst,op:=.binOp b t x y u,type:=ty,pos:=pos,after:=aft,guard:=gd }::rest) ⟨tm,hp⟩ Q:=
 TO.pop1 hw (by simp only[tpop,hx,hy,tbin,hv,Option.map_some,orT]) ht hq
theorem TD.bin{b:BinOp}{t u:TypeId}{x y:Operand}{a d r:Value}(hw:twant ops tm { dst:=dst,op:=.binOp b t x y u,type:=ty,pos:=pos,after:=aft,guard:=gd }=some true)(hx:tev tm x = .v a)(hy:tev tm y = .v d)(hv:bE b a d=some r)(ht:tput tm dst (.v r)=tm2)(hq:TD C P ops ms rest (i+1) np c ⟨tm2,hp⟩ Q):TD C P ops ms ({ dst:=dst,op:=.binOp b t x y u,type:=ty,pos:=pos,after:=aft,guard:=gd }::rest) i np c ⟨tm,hp⟩ Q:=
 TD.pop1 hw (by simp only[tpop,hx,hy,tbin,hv,Option.map_some,orT]) ht hq
theorem TO.ext{x:Operand}{n:Nat}{l:List TV}(hw:twant ops tm { dst:=dst,op:=.extract x n,type:=ty,pos:=pos,after:=aft,guard:=gd }=some true)(hx:tev tm x = .tuple l)(hv:l[n]?=some p)(ht:tput tm dst p=tm2)(hq:TO C P ops rest ⟨tm2,hp⟩ Q):TO C P ops ({ dst:=dst,op:=.extract x n,type:=ty,pos:=pos,after:=aft,guard:=gd }::rest) ⟨tm,hp⟩ Q:=
 TO.pop1 hw (by simp only[tpop,hx,hv]) ht hq
theorem TO.fa{t:TypeId}{x:Operand}{f:Nat}(hw:twant ops tm { dst:=dst,op:=.fieldAddr t x f,type:=ty,pos:=pos,after:=aft,guard:=gd }=some true)(hx:tev tm x=q)(hv:aE P t q f=some p)(ht:tput tm dst p=tm2)(hq:TO C P ops rest ⟨tm2,hp⟩ Q):TO C P ops ({ dst:=dst,op:=.fieldAddr t x f,type:=ty,pos:=pos,after:=aft,guard:=gd }::rest) ⟨tm,hp⟩ Q:=
 TO.pop1 hw (by simp only[tpop,hx,hv]) ht hq
theorem TD.fa{t:TypeId}{x:Operand}{f:Nat}(hw:twant ops tm { dst:=dst,op:=.fieldAddr t x f,type:=ty,pos:=pos,after:=aft,guard:=gd }=some true)(hx:tev tm x=q)(hv:aE P t q f=some p)(ht:tput tm dst p=tm2)(hq:TD C P ops ms rest (i+1) np c ⟨tm2,hp⟩ Q):TD C P ops ms ({ dst:=dst,op:=.fieldAddr t x f,type:=ty,pos:=pos,after:=aft,guard:=gd }::rest) i np c ⟨tm,hp⟩ Q:=
 TD.pop1 hw (by simp only[tpop,hx,hv]) ht hq
theorem TO.ia{t:TypeId}{x y:Operand}{q2:TV}(hw:twant ops tm { dst:=dst,op:=.indexAddr t x y,type:=ty,pos:=pos,after:=aft,guard:=gd }=some true)(hx:tev tm x=q)(hy:tev tm y=q2)(hv:aD P hp t q q2=some p)(ht:tput tm dst p=tm2)(hq:TO C P ops rest ⟨tm2,hp⟩ Q):TO C P ops ({ dst:=dst,op:=.indexAddr t x y,type:=ty,pos:=pos,after:=aft,guard:=gd }::rest) ⟨tm,hp⟩ Q:=
 TO.pop1 hw (by simp only[tpop,hx,hy,hv]) ht hq
theorem TD.ia{t:TypeId}{x y:Operand}{q2:TV}(hw:twant ops tm { dst:=dst,op:=.indexAddr t x y,type:=ty,pos:=pos,after:=aft,guard:=gd }=some true)(hx:tev tm x=q)(hy:tev tm y=q2)(hv:aD P hp t q q2=some p)(ht:tput tm dst p=tm2)(hq:TD C P ops ms rest (i+1) np c ⟨tm2,hp⟩ Q):TD C P ops ms ({ dst:=dst,op:=.indexAddr t x y,type:=ty,pos:=pos,after:=aft,guard:=gd }::rest) i np c ⟨tm,hp⟩ Q:=
 TD.pop1 hw (by simp only[tpop,hx,hy,hv]) ht hq
theorem TO.pk{x y z:Operand}(hw:twant ops tm { dst:=dst,op:=.pick x y z,type:=ty,pos:=pos,after:=aft,guard:=gd }=some true)(hv:tpick (tev tm x) (tev tm y) (tev tm z)=some p)(ht:tput tm dst p=tm2)(hq:TO C P ops rest ⟨tm2,hp⟩ Q):TO C P ops ({ dst:=dst,op:=.pick x y z,type:=ty,pos:=pos,after:=aft,guard:=gd }::rest) ⟨tm,hp⟩ Q:=
 TO.pop1 hw (by simp only[tpop,hv]) ht hq
theorem TO.len{x:Operand}{t:TypeId}{ts:List TypeId}(hw:twant ops tm { dst:=dst,op:=.call { callee:=.builtin .len,args:=#[x],argTypes:=⟨t::ts⟩ },type:=ty,pos:=pos,after:=aft,guard:=gd }=some true)(hx:tev tm x=q)(hv:tlen P (some t) q=some p)(ht:tput tm dst p=tm2)(hq:TO C P ops rest ⟨tm2,hp⟩ Q):TO C P ops ({ dst:=dst,op:=.call { callee:=.builtin .len,args:=#[x],argTypes:=⟨t::ts⟩ },type:=ty,pos:=pos,after:=aft,guard:=gd }::rest) ⟨tm,hp⟩ Q:=
 TO.pop1 hw (by simp only[tpop,if_true,hx,List.getElem?_toArray,List.getElem?_cons_zero,hv,orT]) ht hq
theorem TO.bld{t:TypeId}{ps:Array (Nat×Operand)}{l:List (Nat×TV)}(hw:twant ops tm { dst:=dst,op:=.build t ps,type:=ty,pos:=pos,after:=aft,guard:=gd }=some true)(hx:ps.toList.map (fun q=>(q.1,tev tm q.2))=l)(hv:tbuild P t l=some p)(ht:tput tm dst p=tm2)(hq:TO C P ops rest ⟨tm2,hp⟩ Q):TO C P ops ({ dst:=dst,op:=.build t ps,type:=ty,pos:=pos,after:=aft,guard:=gd }::rest) ⟨tm,hp⟩ Q:=
 TO.pop1 hw (by simp only[tpop,hx,hv]) ht hq
theorem TD.bld{t:TypeId}{ps:Array (Nat×Operand)}{l:List (Nat×TV)}(hw:twant ops tm { dst:=dst,op:=.build t ps,type:=ty,pos:=pos,after:=aft,guard:=gd }=some true)(hx:ps.toList.map (fun q=>(q.1,tev tm q.2))=l)(hv:tbuild P t l=some p)(ht:tput tm dst p=tm2)(hq:TD C P ops ms rest (i+1) np c ⟨tm2,hp⟩ Q):TD C P ops ms ({ dst:=dst,op:=.build t ps,type:=ty,pos:=pos,after:=aft,guard:=gd }::rest) i np c ⟨tm,hp⟩ Q:=
 TD.pop1 hw (by simp only[tpop,hx,hv]) ht hq
theorem TO.ld{t:TypeId}{a:Operand}(hw:twant ops tm { dst:=dst,op:=.load t a,type:=ty,pos:=pos,after:=aft,guard:=gd }=some true)(hx:tev tm a=p)(hv:tload P hp t p=some q)(ht:tput tm dst q=tm2)(hh2:hp=hp2)(hq:TO C P ops rest ⟨tm2,hp2⟩ Q):TO C P ops ({ dst:=dst,op:=.load t a,type:=ty,pos:=pos,after:=aft,guard:=gd }::rest) ⟨tm,hp⟩ Q:=by
 subst ht hh2
 exact TO.g hw (OpG.load (by rw[show tev (TS.mk tm hp).tm a=p from hx];exact hv)) hq
theorem TD.ld{t:TypeId}{a:Operand}(hw:twant ops tm { dst:=dst,op:=.load t a,type:=ty,pos:=pos,after:=aft,guard:=gd }=some true)(hx:tev tm a=p)(hv:tload P hp t p=some q)(ht:tput tm dst q=tm2)(hh2:hp=hp2)(hq:TD C P ops ms rest (i+1) (i::np) 0 ⟨tm2,hp2⟩ Q):TD C P ops ms ({ dst:=dst,op:=.load t a,type:=ty,pos:=pos,after:=aft,guard:=gd }::rest) i np 0 ⟨tm,hp⟩ Q:=by
 subst ht hh2
 exact TD.g hw (OpG.load (by rw[show tev (TS.mk tm hp).tm a=p from hx];exact hv)) hq
theorem TO.al{e:TypeId}{z:List Value}{zt:List TV}(hw:twant ops tm { dst:=dst,op:=.alloc e,type:=ty,pos:=pos,after:=aft,guard:=gd }=some true)(hv:eG P e=some z)(hz:z.map TV.v=zt)(ht:tput tm dst (.lptr hp.length 0 0)=tm2)(hh2:(hp++[.var zt])=hp2)(hq:TO C P ops rest ⟨tm2,hp2⟩ Q):TO C P ops ({ dst:=dst,op:=.alloc e,type:=ty,pos:=pos,after:=aft,guard:=gd }::rest) ⟨tm,hp⟩ Q:=by
 subst ht hh2
 exact TO.g hw (by subst hz;exact OpG.alloc hv) hq
theorem TO.bf{e:TypeId}{x:Operand}{l:List TV}(hw:twant ops tm { dst:=dst,op:=.box e x,type:=ty,pos:=pos,after:=aft,guard:=gd }=some true)(hx:tev tm x=p)(hj:dH p=false)(hl:tcells p=l)(hlf:l.all (lf 4)=true)(ht:tput tm dst (.fptr true l 0)=tm2)(hh2:hp=hp2)(hq:TO C P ops rest ⟨tm2,hp2⟩ Q):TO C P ops ({ dst:=dst,op:=.box e x,type:=ty,pos:=pos,after:=aft,guard:=gd }::rest) ⟨tm,hp⟩ Q:=by
 subst ht hh2
 exact TO.g hw (by subst hl;exact OpG.boxF hx hj hlf) hq
theorem Ch(hsl0:True){α:Type}{x y:Operand}{t0 t1 e:TypeId}{tys:List TypeId}{n len es:Nat}{xs ys:List α}{f:α→List TV}{z:List Value}{new:List (List TV)}{xy:List α}(hx:tev tm x = .lsl n 0 len)(hb:hp[n]?=some (.rows es (xs.map f)))(hlen:len=xs.length)(hy:tev tm y = .list es new)(hnew:new=ys.map f)(hsl:cK P t0=some e)(hni:fN P (some t1)=true)(hz:eG P e=some z)(hes:z.length=es)(hap:wM (lH P e) xs ys=some xy)(hff:∀ a,(f a).length=es∧(f a).all tone=true∧(f a).all (lf 4)=true):OpW C P { dst:=dst,op:=.call { callee:=.builtin .append,args:=#[x,y],argTypes:=⟨t0::t1::tys⟩ },type:=ty,pos:=pos,after:=aft,guard:=gd } ⟨tm,hp⟩ ⟨tput (tm.map (kill n 4)) dst (.lsl n 0 xy.length),(hp.map (fP n)).set n (.rows es (xy.map f))⟩:=by
 unfold wM at hap
 split at hap
 ·rename_i hl
  obtain rfl:=a6 hap
  subst hnew
  have:=OpW.append (C:=C) (P:=P) (s:=⟨tm,hp⟩) (dst:=dst) (ty:=ty) (pos:=pos) (aft:=aft) (gd:=gd) (x:=x) (y:=y) (t0:=t0) (t1:=t1) (e:=e) (tys:=tys) (n:=n) (len:=len) (es:=es) (rows:=xs.map f) (new:=ys.map f) (z:=z) hx hb (by simp[hlen]) hy hsl hni hz hes (by simpa [Bo] using hl)
   (fun r hr=>by obtain⟨a,_,rfl⟩:=List.mem_map.1 hr;exact (hff a).1) (fun r hr=>by obtain⟨a,_,rfl⟩:=List.mem_map.1 hr;exact (hff a).2.1) (fun r hr=>by obtain⟨a,_,rfl⟩:=List.mem_map.1 hr;exact (hff a).2.2)
  simpa using this
 ·cases hap
theorem TO.ap{α:Type}{x y:Operand}{t0 t1 e:TypeId}{tys:List TypeId}{n len es:Nat}{xs ys:List α}{f:α→List TV}{z:List Value}{new:List (List TV)}{xy:List α}(hw:twant ops tm { dst:=dst,op:=.call { callee:=.builtin .append,args:=#[x,y],argTypes:=⟨t0::t1::tys⟩ },type:=ty,pos:=pos,after:=aft,guard:=gd }=some true)(hx:tev tm x = .lsl n 0 len)(hb:hp[n]?=some (.rows es (xs.map f)))(hlen:len=xs.length)(hy:tev tm y = .list es new)(hnew:new=ys.map f)(hsl:cK P t0=some e)(hni:fN P (some t1)=true)(hz:eG P e=some z)(hes:z.length=es)(hap:wM (lH P e) xs ys=some xy)(hff:∀ a,(f a).length=es∧(f a).all tone=true∧(f a).all (lf 4)=true)(ht:tput (tm.map (kill n 4)) dst (.lsl n 0 xy.length)=tm2)(hh2:(hp.map (fP n)).set n (.rows es (xy.map f))=hp2)(hq:TO C P ops rest ⟨tm2,hp2⟩ Q):TO C P ops ({ dst:=dst,op:=.call { callee:=.builtin .append,args:=#[x,y],argTypes:=⟨t0::t1::tys⟩ },type:=ty,pos:=pos,after:=aft,guard:=gd }::rest) ⟨tm,hp⟩ Q:=by
 subst ht hh2
 exact TO.w hw (Ch trivial hx hb hlen hy hnew hsl hni hz hes hap hff) hq
theorem TO.cal{fo:Operand}{g:FuncId}{args:Array Operand}{tys:Array TypeId}{first caps as:List TV}{th:List TB}(hw:twant ops tm { dst:=dst,op:=.call { callee:=.value fo,args:=args,argTypes:=tys },type:=ty,pos:=pos,after:=aft,guard:=gd }=some true)(hf:tev tm fo = .func g first caps)(hg:dP P g=true)(hsp:Spec C g as ⟨[p],th⟩)(has:first++(args.toList.map (tev tm)++caps)=as)(hl:as.all (lf 4)=true)(hth:th.all pR=true)(ht:tput tm dst (shift hp.length 4 p)=tm2)(hh2:hp++th=hp2)(hq:TO C P ops rest ⟨tm2,hp2⟩ Q):TO C P ops ({ dst:=dst,op:=.call { callee:=.value fo,args:=args,argTypes:=tys },type:=ty,pos:=pos,after:=aft,guard:=gd }::rest) ⟨tm,hp⟩ Q:=by
 subst ht hh2
 exact TO.g hw (OpG.call (s:=⟨tm,hp⟩) hf hg has hl hsp hth) hq
theorem TD.cal{fo:Operand}{g:FuncId}{args:Array Operand}{tys:Array TypeId}{first caps as:List TV}{th:List TB}(hw:twant ops tm { dst:=dst,op:=.call { callee:=.value fo,args:=args,argTypes:=tys },type:=ty,pos:=pos,after:=aft,guard:=gd }=some true)(hf:tev tm fo = .func g first caps)(hg:dP P g=true)(hsp:Spec C g as ⟨[p],th⟩)(has:first++(args.toList.map (tev tm)++caps)=as)(hl:as.all (lf 4)=true)(hth:th.all pR=true)(ht:tput tm dst (shift hp.length 4 p)=tm2)(hh2:hp++th=hp2)(hq:TD C P ops ms rest (i+1) (i::np) 0 ⟨tm2,hp2⟩ Q):TD C P ops ms ({ dst:=dst,op:=.call { callee:=.value fo,args:=args,argTypes:=tys },type:=ty,pos:=pos,after:=aft,guard:=gd }::rest) i np 0 ⟨tm,hp⟩ Q:=by
 subst ht hh2
 exact TD.g hw (OpG.call (s:=⟨tm,hp⟩) hf hg has hl hsp hth) hq
theorem TO.frz(n:Nat){l:List Oper}{b:TB}(hb:hp[n]?=some b)(hl:lfB b=true)(ht:tm.map (frz n b 4)=tm2)(hh2:(hp.map (vD n b)).set n .dead=hp2)(hq:TO C P ops l ⟨tm2,hp2⟩ Q):TO C P ops l ⟨tm,hp⟩ Q:=by
 subst ht hh2
 exact TO.weak (Wk.freeze n hb hl) hq
end
end Go.Rex
namespace Go.Rex
open Go.RowKit
section
variable {P:Program} {tm:List TV} {hp:List TB}
variable {dst:Option Tmp} {ty:TypeId} {pos:String} {aft:Array Edge} {gd:Option (Nat×Bool)} {x y:Operand} {t u:TypeId} {tys:List TypeId}
theorem kD{o:Oper}{v:Value}(ha:o.op.operands.toList.all (fun x=>(er 3 (tev tm x)).isSome)=true)(hv:Rex.pop P (erased tm) o=some v)(hi:jN 3 v=true):tgen P tm o=some (inj 3 v):=by
 unfold tgen
 rw[b8 ha,hv]
 simp only
 rw[b8 hi]
theorem gL{a:Value}(h:tev tm x = .v a):erased tm x=a:=by unfold erased;rw[h];rfl
theorem lQ{a:Value}(h:tev tm x = .v a):(er 3 (tev tm x)).isSome=true:=by rw[h];rfl
theorem jF{b:Bool}(h:tev tm x = .v (.bool b)):tpop P hp tm { dst:=dst,op:=.unOp .not t x,type:=ty,pos:=pos,after:=aft,guard:=gd }=some (.v (.bool (!b))):=by
 have:tgen P tm { dst:=dst,op:=.unOp .not t x,type:=ty,pos:=pos,after:=aft,guard:=gd }=some (inj 3 (.bool (!b))):=
  kD (by simp[Op.operands,lQ h]) (by simp only[Rex.pop,Rex.pop0,zG,gL h]) rfl
 exact this
theorem Ad{k:IntKind}{n:Int}(h:tev tm x = .v (.int k n)):tpop P hp tm { dst:=dst,op:=.unOp .neg t x,type:=ty,pos:=pos,after:=aft,guard:=gd }=some (.v (.int k (k.wrap (0-n)))):=by
 have:tgen P tm { dst:=dst,op:=.unOp .neg t x,type:=ty,pos:=pos,after:=aft,guard:=gd }=some (inj 3 (.int k (k.wrap (0-n)))):=
  kD (by simp[Op.operands,lQ h]) (by simp only[Rex.pop,Rex.pop0,yJ,gL h]) rfl
 exact this
theorem vM{k k':IntKind}{a b:Int}(h:tev tm x = .v (.int k a))(g:tev tm y = .v (.int k' b)):tpop P hp tm { dst:=dst,op:=.call { callee:=.builtin .max,args:=#[x,y],argTypes:=⟨tys⟩ },type:=ty,pos:=pos,after:=aft,guard:=gd }=some (.v (.int k (if b>a then b else a))):=by
 have:tgen P tm { dst:=dst,op:=.call { callee:=.builtin .max,args:=#[x,y],argTypes:=⟨tys⟩ },type:=ty,pos:=pos,after:=aft,guard:=gd }=some (inj 3 (.int k (if b>a then b else a))):=
  kD (by simpa [Op.operands,Call.operands] using ⟨lQ h,lQ g⟩) (by
   simp only[Rex.pop,Rex.pop0,bpop];rw[d5 (by decide),xH,gL h,gL g]) rfl
 exact this
theorem vL{k k':IntKind}{a b:Int}(h:tev tm x = .v (.int k a))(g:tev tm y = .v (.int k' b)):tpop P hp tm { dst:=dst,op:=.call { callee:=.builtin .min,args:=#[x,y],argTypes:=⟨tys⟩ },type:=ty,pos:=pos,after:=aft,guard:=gd }=some (.v (.int k (if b<a then b else a))):=by
 have:tgen P tm { dst:=dst,op:=.call { callee:=.builtin .min,args:=#[x,y],argTypes:=⟨tys⟩ },type:=ty,pos:=pos,after:=aft,guard:=gd }=some (inj 3 (.int k (if b<a then b else a))):=
  kD (by simpa [Op.operands,Call.operands] using ⟨lQ h,lQ g⟩) (by
   simp only[Rex.pop,Rex.pop0,bpop];rw[d5 (by decide),xP,gL h,gL g]) rfl
 exact this
theorem xE{o:Oper}{v:Value}(hp0:Rex.pop0 P (erased tm) o=eU P (erased tm) o)(hsel:∀ cs b,o.op ≠ .select cs b)(ha:o.op.operands.toList.all (fun x=>(er 3 (tev tm x)).isSome)=true)(hc:o.op.operands.toList.all (fun x=>aR (erased tm x))=true)
 (hv:prun P (execOp (erased tm) o)=some (.value v)) (hi:jN 3 v=true) (hcv:aP v=true):tgen P tm o=some (inj 3 v):=by
 refine kD ha (vW ?_) hi
 rw[hp0]
 unfold eU
 split
 ·rename_i cs b e;exact absurd e (hsel _ _)
 ·rw[b8 hc,hv]
  simp only
  rw[b8 hcv]
theorem aG{α β:Type}{s:Sem α}{f:α→Sem β}:prun P (s >>= f)=(prun P s).bind fun a=>prun P (f a):=by
 induction s with
 | pure a=>rfl
 | program k ih=>exact ih _
 | mark m k ih=>exact ih
 | _=>rfl
theorem pU{α:Type}{a:α}:prun P (pure a:Sem α)=some a:=rfl
theorem dS{t:TypeId}{d:TypeDesc}(h:P.underlying t=some d):prun P (underlying t)=some d:=by
 unfold underlying
 rw[aG]
 show prun P (match P.underlying t with | some d => pure d | none => stuck "no such type") = some d
 rw[h]
 rfl
end
end Go.Rex
namespace Go.Rex
open Go.RowKit
section
variable {C:Ctx} {P:Program} {Fz:Nat→Prop} {h h0:List Blk} {L:Nat→LI} {s:TS} {tm:List Value}
variable {dst:Option Tmp} {ty:TypeId} {pos:String} {aft:Array Edge} {gd:Option (Nat×Bool)}
end
end Go.Rex
namespace Go.Rex
open Go.RowKit
section
variable {C:Ctx} {P:Program} {ops:Array Oper} {rest:List Oper} {tm tm2:List TV} {hp hp2:List TB} {Q:TS→Prop} {o:Oper}
variable {dst:Option Tmp} {ty:TypeId} {pos:String} {aft:Array Edge} {gd:Option (Nat×Bool)} {p q:TV} {ms:List Nat} {i:Nat} {np:List Nat} {c:Nat}
theorem stV{t:TypeId}{a x:Operand}{n ob:Nat}{row row2 l:List TV}(ha:tev tm a = .lptr n 0 ob)(hx:tev tm x=p)(hj:dH p=false)(hl:tcells p=l)(hb:hp[n]?=some (.var row))(ht:okT P t=true)(hlen:l.length=P.cellsOf t)(hone:l.all tone=true)(hfit:Nat.ble (ob+l.length) row.length=true)(hv:tsplice row ob l=row2) :
 OpW C P { dst:=none,op:=.store t a x,type:=ty,pos:=pos,after:=aft,guard:=gd } ⟨tm,hp⟩ ⟨tm,hp.set n (.var row2)⟩:=by
 subst hl hv
 refine OpW.store (s:=⟨tm,hp⟩) ?_
 rw[show tev (TS.mk tm hp).tm a=_ from ha,show tev (TS.mk tm hp).tm x=p from hx]
 simp only[tstore]
 rw[b8 ⟨hj,ht,hlen,hone⟩,hb]
 simp only
 rw[b8 ⟨trivial,Nat.le_of_ble_eq_true hfit⟩]
theorem TO.sv{t:TypeId}{a x:Operand}{n ob:Nat}{row row2 l:List TV}(hw:twant ops tm { dst:=none,op:=.store t a x,type:=ty,pos:=pos,after:=aft,guard:=gd }=some true)(ha:tev tm a = .lptr n 0 ob)(hx:tev tm x=p)(hj:dH p=false)(hl:tcells p=l)(hb:hp[n]?=some (.var row))(ht:okT P t=true)(hlen:l.length=P.cellsOf t)(hone:l.all tone=true)(hfit:Nat.ble (ob+l.length) row.length=true)(hv:tsplice row ob l=row2)
 (hh2:hp.set n (.var row2)=hp2) (hq:TO C P ops rest ⟨tm,hp2⟩ Q):TO C P ops ({ dst:=none,op:=.store t a x,type:=ty,pos:=pos,after:=aft,guard:=gd }::rest) ⟨tm,hp⟩ Q:=by
 subst hh2;exact TO.w hw (stV ha hx hj hl hb ht hlen hone hfit hv) hq
theorem TD.sv{t:TypeId}{a x:Operand}{n ob:Nat}{row row2 l:List TV}(hw:twant ops tm { dst:=none,op:=.store t a x,type:=ty,pos:=pos,after:=aft,guard:=gd }=some true)(ha:tev tm a = .lptr n 0 ob)(hx:tev tm x=p)(hj:dH p=false)(hl:tcells p=l)(hb:hp[n]?=some (.var row))(ht:okT P t=true)(hlen:l.length=P.cellsOf t)(hone:l.all tone=true)(hfit:Nat.ble (ob+l.length) row.length=true)(hv:tsplice row ob l=row2)
 (hnp:okW ops ms i ⟨tm,hp⟩ n np=true) (hh2:hp.set n (.var row2)=hp2) (hq:TD C P ops ms rest (i+1) (i::np) 1 ⟨tm,hp2⟩ Q):TD C P ops ms ({ dst:=none,op:=.store t a x,type:=ty,pos:=pos,after:=aft,guard:=gd }::rest) i np c ⟨tm,hp⟩ Q:=by
 subst hh2;exact TD.wF (s:=⟨tm,hp⟩) hw ha (stV ha hx hj hl hb ht hlen hone hfit hv) hnp hq
end
section
variable {C:Ctx} {P:Program} {ops:Array Oper} {rest:List Oper} {tm tm2:List TV} {hp hp2:List TB} {Q:TS→Prop} {o:Oper}
variable {dst:Option Tmp} {ty:TypeId} {pos:String} {aft:Array Edge} {gd:Option (Nat×Bool)} {p q:TV} {ms:List Nat} {i:Nat} {np:List Nat} {c:Nat}
end
theorem z1:(∀ tm t,tev tm (.tmp t)=tnth tm t)∧(∀ tm k n,tev tm (.const (.int k n)) = .v (.int k n))∧(∀ tm b,tev tm (.const (.bool b)) = .v (.bool b))∧(∀ tm s,tev tm (.const (.string s)) = .v (.string s))∧(∀ tm k b,tev tm (.const (.float k b)) = .v (.float k b)) ∧
 (∀ tm k a b,tev tm (.const (.complex k a b)) = .v (.complex k a b))∧(∀ tm,tev tm (.const (.slice none 0 0)) = .v (.slice none 0 0))∧(∀ tm,tev tm (.const .nilFunc) = .v .nilFunc)∧(∀ tm,tev tm (.const .nilIface) = .v .nilIface)∧(∀ tm,tev tm (.const (.pointer none)) = .v (.pointer none)) ∧
 (∀ tm f,tev tm (.func f) = .func f [] [])∧(∀ a l,tnth (a::l) 0=a)∧(∀ a l n,tnth (a::l) (n+1)=tnth l n)∧(∀ tm p,tput tm none p=tm)∧(∀ tm d p,tput tm (some d) p=tm.set d p):=
 ⟨fun _ _=>rfl,fun _ _ _=>rfl,fun _ _=>rfl,fun _ _=>rfl,fun _ _ _=>rfl,fun _ _ _ _=>rfl,fun _=>rfl,fun _=>rfl,fun _=>rfl,fun _=>rfl,fun _ _=>rfl,fun _ _=>rfl,fun _ _ _=>rfl,fun _ _=>rfl,fun _ _ _=>rfl⟩
theorem z2:(∀ k a b,bE .add (.int k a) (.int k b)=some (.int k (k.wrap (a+b))))∧(∀ k a b,bE .sub (.int k a) (.int k b)=some (.int k (k.wrap (a-b))))∧(∀ k a b,bE .mul (.int k a) (.int k b)=some (.int k (k.wrap (a*b)))) ∧
 (∀ k a b,bE .lss (.int k a) (.int k b)=some (.bool (decide (a<b))))∧(∀ k a b,bE .leq (.int k a) (.int k b)=some (.bool (decide (a≤b))))∧(∀ k a b,bE .gtr (.int k a) (.int k b)=some (.bool (decide (a>b))))∧(∀ k a b,bE .geq (.int k a) (.int k b)=some (.bool (decide (a≥b)))) ∧
 (∀ k a b,bE .eql (.int k a) (.int k b)=some (.bool (decide (a=b))))∧(∀ k a b,bE .neq (.int k a) (.int k b)=some (.bool (decide (a≠b))))∧(∀ k a b,bE .quo (.int k a) (.int k b)=if b=0 then none else some (.int k (k.wrap (a.tdiv b))))∧(∀ k a b,bE .rem (.int k a) (.int k b)=if b=0 then none else some (.int k (a.tmod b))):=by
 refine⟨?_,?_,?_,?_,?_,?_,?_,?_,?_,?_,?_⟩<;>(intro k a b;simp only[bE,if_true])
end Go.Rex
namespace Go.Rex
open Go.RowKit
section
variable {C:Ctx} {P:Program} {ops:Array Oper} {rest:List Oper} {tm tm2:List TV} {hp hp2:List TB} {Q:TS→Prop} {o:Oper}
variable {dst:Option Tmp} {ty:TypeId} {pos:String} {aft:Array Edge} {gd:Option (Nat×Bool)} {p q:TV} {ms:List Nat} {i:Nat} {np:List Nat} {c:Nat}
theorem TO.here{l:List Oper}{s:TS}(h:TO C P ops l s Q):TO C P ops l s Q:=h
theorem TD.here{l:List Oper}{s:TS}(h:TD C P ops ms l i np c s Q):TD C P ops ms l i np c s Q:=h
theorem boG{α:Type}{f:α→List TV}{xs:List α}{t:TypeId}{n es:Nat}{ps:Array (Nat×Operand)}{l:List (Nat×TV)}{rows:List (List TV)}(hx:ps.toList.map (fun q=>(q.1,tev tm q.2))=l)(hv:tslice P t n l=some (es,rows))(hr:rows=xs.map f)(hn:n=xs.length) :
 OpG C P { dst:=dst,op:=.buildSlice t n ps,type:=ty,pos:=pos,after:=aft,guard:=gd } ⟨tm,hp⟩ ⟨tput tm dst (.lsl hp.length 0 xs.length),hp++[.rows es (xs.map f)]⟩:=by
 subst hr hn
 exact OpG.buildOwn (s:=⟨tm,hp⟩) (by simp only[hx];exact hv)
theorem TO.bl{α:Type}(f:α→List TV)(xs:List α){t:TypeId}{n es:Nat}{ps:Array (Nat×Operand)}{l:List (Nat×TV)}{rows:List (List TV)}(hw:twant ops tm { dst:=dst,op:=.buildSlice t n ps,type:=ty,pos:=pos,after:=aft,guard:=gd }=some true)(hx:ps.toList.map (fun q=>(q.1,tev tm q.2))=l)(hv:tslice P t n l=some (es,rows))(hr:rows=xs.map f)(hn:n=xs.length)
 (ht:tput tm dst (.lsl hp.length 0 xs.length)=tm2) (hh2:hp++[.rows es (xs.map f)]=hp2) (hq:TO C P ops rest ⟨tm2,hp2⟩ Q):TO C P ops ({ dst:=dst,op:=.buildSlice t n ps,type:=ty,pos:=pos,after:=aft,guard:=gd }::rest) ⟨tm,hp⟩ Q:=by
 subst ht hh2;exact TO.g hw (boG hx hv hr hn) hq
end
end Go.Rex
namespace Go.Rex
open Go.RowKit
theorem z3:(∀(α:Type) (a b:α) (l:List α),(a::l).set 0 b=b::l)∧(∀(α:Type) (a b:α) (l:List α) (n:Nat),(a::l).set (n+1) b=a::l.set n b)∧(∀(α:Type) (a:α) (l:List α),(a::l)[0]?=some a)∧(∀(α:Type) (a:α) (l:List α) (n:Nat),(a::l)[n+1]?=l[n]?) ∧
 (∀(α β:Type) (f:α→β) (a:α) (l:List α),(a::l).map f=f a::l.map f)∧(∀(α β:Type) (f:α→β),([]:List α).map f=[])∧(∀(α:Type) (a:α) (l m:List α),(a::l)++m=a::(l++m))∧(∀(α:Type) (l:List α),[]++l=l)∧(∀(α:Type) (a:α) (l:List α),(a::l).length=l.length+1)∧(∀(α:Type),([]:List α).length=0) ∧
 (∀(α:Type) (l:List α),l.drop 0=l)∧(∀(α:Type) (a:α) (l:List α) (n:Nat),(a::l).drop (n+1)=l.drop n)∧(∀(α:Type) (n:Nat),([]:List α).drop n=[])∧(∀(α:Type) (l:List α),l.take 0=[])∧(∀(α:Type) (a:α) (l:List α) (n:Nat),(a::l).take (n+1)=a::l.take n)∧(∀(α:Type) (n:Nat),([]:List α).take n=[]) ∧
 (∀(α β:Type) (f:α→β) (a:α),(some a).map f=some (f a))∧(∀(α β:Type) (f:α→β) (l:List α),(l.map f).length=l.length):=
 ⟨fun _ _ _ _=>rfl,fun _ _ _ _ _=>rfl,fun _ _ _=>rfl,fun _ _ _ _=>rfl,fun _ _ _ _ _=>rfl,fun _ _ _=>rfl,fun _ _ _ _=>rfl,fun _ _=>rfl,fun _ _ _=>rfl,fun _=>rfl,fun _ _=>rfl,fun _ _ _ _=>rfl,fun _ n=>by cases n<;>rfl,fun _ _=>rfl,fun _ _ _ _=>rfl,fun _ n=>by cases n<;>rfl,fun _ _ _ _=>rfl,fun _ _ _ _=>j0 _⟩
theorem z4:(∀ l,tcells (.agg l)=l)∧(∀ x,tcells (.v x)=[.v x])∧(∀ a b,tcells (.list a b)=[.list a b])∧(∀ a b c,tcells (.func a b c)=[.func a b c])∧(∀ v a b,tcells (.fptr v a b)=[.fptr v a b])∧(∀ a b c,tcells (.lptr a b c)=[.lptr a b c])∧(∀ a b c,tcells (.lsl a b c)=[.lsl a b c]) ∧
 (∀ l,dH (.agg l)=false)∧(∀ x,dH (.v x)=false)∧(∀ a b,dH (.list a b)=false)∧(∀ a b c,dH (.func a b c)=false)∧(∀ v a b,dH (.fptr v a b)=false)∧(∀ a b c,dH (.lptr a b c)=false)∧(∀ a b c,dH (.lsl a b c)=false) ∧
 (∀ a b,tpick (.v (.bool true)) a b=some a)∧(∀ a b,tpick (.v (.bool false)) a b=some b)∧(∀ ops tm dst op ty pos aft,twant ops tm { dst:=dst,op:=op,type:=ty,pos:=pos,after:=aft,guard:=none }=some true)∧(∀(c:List TV) o l,tsplice c o l=c.take o++l++c.drop (o+l.length)) ∧
 (∀ tm,tput tm none=fun _=>tm):=
 ⟨fun _=>rfl,fun _=>rfl,fun _ _=>rfl,fun _ _ _=>rfl,fun _ _ _=>rfl,fun _ _ _=>rfl,fun _ _ _=>rfl,fun _=>rfl,fun _=>rfl,fun _ _=>rfl,fun _ _ _=>rfl,fun _ _ _=>rfl,fun _ _ _=>rfl,fun _ _ _=>rfl,fun _ _=>rfl,fun _ _=>rfl,fun _ _ _ _ _ _ _=>rfl,fun _ _ _=>rfl,fun _=>rfl⟩
end Go.Rex
namespace Go.Rex
theorem z5:(∀ r,tidx r 0=r[0]?)∧(∀ r,tidx r 1=r[1]?)∧(∀ r,tidx r 2=r[2]?)∧(∀ r,tidx r 3=r[3]?)∧(∀ r,tidx r 4=r[4]?)∧(∀ r,tidx r 5=r[5]?)∧(∀ r,tidx r 6=r[6]?)∧(∀ r,tidx r 7=r[7]?)∧(∀ r,tidx r 8=r[8]?)∧(∀ r,tidx r 9=r[9]?):=by
 refine⟨?_,?_,?_,?_,?_,?_,?_,?_,?_,?_⟩<;>(intro r;rfl)
example:(0:Int)<((2:Nat):Int):=by simp only[Int.cast_ofNat_Int,Int.reduceLT]
theorem tml{α β:Type}{f:α→β}{xs:List α}:(xs.map f).take xs.length=xs.map f:=f9 (by simp)
end Go.Rex
namespace Go.Rex
open Go.RowKit
section
variable {C:Ctx} {P:Program} {ops:Array Oper} {rest:List Oper} {tm tm2:List TV} {hp hp2:List TB} {Q:TS→Prop} {o:Oper}
variable {dst:Option Tmp} {ty:TypeId} {pos:String} {aft:Array Edge} {gd:Option (Nat×Bool)} {p q:TV} {ms:List Nat} {i:Nat} {np:List Nat} {c:Nat}
theorem tmlc{α β:Type}{f:α→β}{xs:List α}{n:Nat}(h:xs.length=n):(xs.map f).take n=xs.map f:=by subst h;exact tml
variable {x y:Operand} {t u:TypeId}
variable {fo:Operand} {g:FuncId} {args:Array Operand} {tyA:Array TypeId} {F:Array Value→Sem Value}
end
end Go.Rex
namespace Go.Rex
open Go.RowKit
section
variable {P:Program} {tm:List TV} {hp:List TB}
variable {dst:Option Tmp} {ty:TypeId} {pos:String} {aft:Array Edge} {gd:Option (Nat×Bool)} {x y:Operand} {t u:TypeId}
theorem uL{g:Bool}(h:jG P t=some g):prun P (isAgg t)=some g:=by
 unfold jG at h
 unfold isAgg
 rw[aG]
 split at h
 ·rename_i hu;rw[dS hu];exact h
 ·rename_i hu;rw[dS hu];exact h
 ·rename_i d h1 h2 hu
  rw[dS hu,d9]
  obtain rfl:=a6 h
  split
  ·exact absurd rfl (h1 _)
  ·exact absurd rfl (h2 _ _)
  ·rfl
 ·cases h
theorem cA{cs:Array Value}{off:Nat}{v:Value}(h:jG P t=some false)(hg:cs[off]?=some v):prun P (part t cs off)=some v:=by
 unfold part
 rw[aG,uL h,d9]
 simp only[Bool.false_eq_true,if_false,hg]
 rfl
theorem mD{d:Nat}{k:IntKind}{a b:Int}(ht:P.underlying t=some (.int k)):prun P (Op.equalIn (d+1) t (.int k a) (.int k b))=some (a==b):=by
 unfold Op.equalIn
 rw[aG,dS ht]
 simp
 rfl
inductive EqF (P:Program) (d:Nat) (X Y:Array Value):List Field→List Bool→Prop
 | nil:EqF P d X Y [] []
 | cons {f : Field} {fs : List Field} {b : Bool} {bs : List Bool} {u v : Value} (hn : f.name ≠ "_") (hu : prun P (part f.type X f.offset) = some u) (hv : prun P (part f.type Y f.offset) = some v) (he : prun P (Op.equalIn d f.type u v) = some b) (hr : EqF P d X Y fs bs) : EqF P d X Y (f :: fs) (b :: bs)
theorem vH{d:Nat}{X Y:Array Value}:∀(fs:List Field) (bs:List Bool),EqF P d X Y fs bs →
 prun P (forIn fs ((none, ()) : Option Bool × Unit) fun f _ => if f.name ≠ "_" then do
  if !(← Op.equalIn d f.type (← part f.type X f.offset) (← part f.type Y f.offset)) then pure (.done (some false,())) else pure (.yield (none,()))
  else pure (.yield (none,())))=some (if bs.all id then (none,()) else (some false,()))
 | [],[],.nil=>rfl
 | f::fs,b::bs,.cons hn hu hv he hr=>by
  rw[List.forIn_cons,aG]
  simp only[hn,ne_eq,not_false_eq_true,if_true]
  rw[aG,hu,d9,aG,hv,d9,aG,he,d9]
  cases b with
  | false=>rfl
  | true =>
   simp only[Bool.not_true,Bool.false_eq_true,if_false,pU,Option.bind_some,List.all_cons,id,Bool.true_and]
   exact vH fs bs hr
theorem wJ{d:Nat}{fields:Array Field}{X Y:Array Value}{bs:List Bool}(ht:P.underlying t=some (.struct fields))(hs:P.stoodInHeld t=false)(hf:EqF P d X Y fields.toList bs):prun P (Op.equalIn (d+1) t (.agg X) (.agg Y))=some (bs.all id):=by
 unfold Op.equalIn
 rw[aG,dS ht]
 simp only[Option.bind_some]
 rw[aG,show prun P program=some P from rfl,d9]
 simp only[hs,Bool.false_eq_true,if_false]
 have:=vH fields.toList bs hf
 rw[aG,← Array.forIn_toList,this,d9]
 cases bs.all id<;>rfl
theorem xJ{b:BinOp}{X Y:Array Value}(hg:P.eqGuardType P.depth t=false):prun P (eqGuard b t x y (.agg X) (.agg Y))=some ():=by
 unfold eqGuard
 cases b<;>first|rfl|(simp only[Bool.not_true,Bool.false_eq_true,if_false];rw[aG,show prun P program=some P from rfl,d9,aG,show prun P program=some P from rfl,d9];simp only[hg,Bool.not_false,if_true];rfl)
theorem yX{a b:Value}{r:Bool}(h:prun P (Op.equalIn (9999+1) t a b)=some r):prun P (Op.equal t a b)=some r:=h
theorem vS{b:BinOp}{p q:TV}{X Y:Array Value}{r:Bool}(h:tev tm x=p)(g:tev tm y=q)(hX:er 3 p=some (.agg X))(hY:er 3 q=some (.agg Y))(cX:aR (.agg X)=true)(cY:aR (.agg Y)=true)(hn:tbin b p q=none)(hg:P.eqGuardType P.depth t=false)
 (he:prun P (Op.equal t (.agg X) (.agg Y))=some r) (hb:b = .eql∨b = .neq) :
 tpop P hp tm { dst:=dst,op:=.binOp b t x y u,type:=ty,pos:=pos,after:=aft,guard:=gd }=some (.v (.bool (if b = .eql then r else !r))):=by
 have ex:erased tm x = .agg X:=by unfold erased;rw[h,hX];rfl
 have ey:erased tm y = .agg Y:=by unfold erased;rw[g,hY];rfl
 have sx:(er 3 (tev tm x)).isSome=true:=by rw[h,hX];rfl
 have sy:(er 3 (tev tm y)).isSome=true:=by rw[g,hY];rfl
 have h1:tgen P tm { dst:=dst,op:=.binOp b t x y u,type:=ty,pos:=pos,after:=aft,guard:=gd }=some (inj 3 (.bool (if b = .eql then r else !r))):=by
  refine xE ?_ (fun cs b e=>by cases e) (by simpa [Op.operands] using ⟨sx,sy⟩) (by simpa [Op.operands,ex,ey] using ⟨cX,cY⟩) ?_ rfl rfl
  ·simp only[Rex.pop0,ex,ey]
   rcases hb with rfl|rfl<;>rfl
  ·show prun P ((eqGuard b t x y (erased tm x) (erased tm y) >>= fun _=>binOp b t (erased tm x) (erased tm y)) >>= fun r=>(pure (Next.value r):Sem Next))=_
   rw[aG,ex,ey,aG,xJ hg,d9]
   rcases hb with rfl|rfl
   ·simp only[binOp,if_true]
    rw[aG,he]
    rfl
   ·simp only[binOp]
    rw[aG,he]
    rfl
 simp only[tpop,h,g,hn,orT]
 exact h1
theorem oQ{b:BinOp}{p q:TV}{X Y:Array Value}{r:Bool}(h:tev tm x=p)(g:tev tm y=q)(hX:er 3 p=some (.agg X))(hY:er 3 q=some (.agg Y))(cX:aR (.agg X)=true)(cY:aR (.agg Y)=true)(hn:tbin b p q=none)(hg:P.eqGuardType P.depth t=false)
 (he:prun P (Op.equal t (.agg X) (.agg Y))=some r) (hb:b = .eql) :
 tpop P hp tm { dst:=dst,op:=.binOp b t x y u,type:=ty,pos:=pos,after:=aft,guard:=gd }=some (.v (.bool r)):=by
 subst hb
 exact vS h g hX hY cX cY hn hg he (.inl rfl)
theorem eZ{b:BinOp}{p q:TV}{X Y:Array Value}{r:Bool}(h:tev tm x=p)(g:tev tm y=q)(hX:er 3 p=some (.agg X))(hY:er 3 q=some (.agg Y))(cX:aR (.agg X)=true)(cY:aR (.agg Y)=true)(hn:tbin b p q=none)(hg:P.eqGuardType P.depth t=false)
 (he:prun P (Op.equal t (.agg X) (.agg Y))=some r) (hb:b = .neq) :
 tpop P hp tm { dst:=dst,op:=.binOp b t x y u,type:=ty,pos:=pos,after:=aft,guard:=gd }=some (.v (.bool (!r))):=by
 subst hb
 exact vS h g hX hY cX cY hn hg he (.inr rfl)
end
end Go.Rex
namespace Go.Rex
open Go.RowKit
class Mv (p:Prop) (q:outParam Prop):Prop where
 mv:q→p
theorem mv{p q:Prop}[i:Mv p q](h:q):p:=i.mv h
section
variable {C:Ctx} {P:Program} {s:TS} {Q:Exit→TS→Prop} {next:TS→Prop}
instance {x y:Code}:Mv (TX C P (.seq x y) s Q) (TX C P x s (tQ (fun s=>TX C P y s Q) Q)):=⟨TX.seq⟩
instance {id:Nat} {b:Code}:Mv (TX C P (.block id b) s Q) (TX C P b s (gE id Q)):=⟨TX.block⟩
instance:Mv (TX C P .skip s Q) (Q .normal s):=⟨TX.skip⟩
instance {id:Nat}:Mv (TX C P (.exit id) s Q) (Q (.exit id) s):=⟨TX.exit⟩
instance:Mv (TX C P .ret s Q) (Q .ret s):=⟨TX.ret⟩
instance:Mv (tQ next Q .normal s) (next s):=⟨Av⟩
instance {id:Nat}:Mv (tQ next Q (.exit id) s) (Q (.exit id) s):=⟨Bj⟩
instance:Mv (tQ next Q .ret s) (Q .ret s):=⟨Aq⟩
instance {id:Nat}:Mv (gE id Q .normal s) (Q .normal s):=⟨zC⟩
instance {id:Nat}:Mv (gE id Q .ret s) (Q .ret s):=⟨yS⟩
instance {id:Nat}:Mv (gE id Q (.exit id) s) (Q .normal s):=⟨xZ⟩
end
theorem k1{a:Bool}(h:a=true):a=true:=h
theorem k2{a:Option Bool}(h:a=some true):a=some true:=h
def an{p q:Prop}:=@And.intro p q
def z6:=And.intro @List.toList_toArray.{0} <| And.intro @ite_true.{1} <| And.intro @ite_false.{1} <| And.intro @true_and <| And.intro @and_true <| And.intro @and_self <| And.intro @Bool.false_eq_true <| And.intro @decide_true @decide_false
def z7:=And.intro @List.getElem?_toArray.{0} <| And.intro @List.getElem?_cons_succ.{0} <| And.intro @List.getElem?_cons_zero.{0} @Option.bind_some.{0,0}
def zy:=And.intro z1 <| And.intro z2 z3
def zz:=And.intro z1 <| And.intro z2 <| And.intro z3 <| And.intro z4 z6
theorem wr{tm tm':List TV}{hp hp':List TB}(fl:List (Option Nat))(hok:mX fl=true)(hB:RB fl hp hp' fl)(hT:RNs fl tm tm':=by (repeat (first|exact RNs.nil|refine RNs.cons .Z ?_|refine RNs.cons (.keep rfl rfl) ?_|refine RNs.cons (.lsl rfl rfl) ?_|refine RNs.cons (.lsl rfl (by simp only[List.length_set])) ?_|refine RNs.cons (.lptr rfl) ?_|refine RNs.cons (.nil rfl) ?_|refine RNs.cons .nl ?_|refine RNs.cons (.tuple' ?_) ?_|refine RNs.cons (.agg' ?_) ?_))):Wk ⟨tm,hp⟩ ⟨tm',hp'⟩:=Wk.ren fl hok hB hT
theorem rv{fl:List (Option Nat)}{hp:List TB}{n:Nat}{row row':List TV}{hp':List TB}{l:List (Option Nat)}(h:RB fl hp hp' l)(hb:hp[n]?=some (.var row))(hr:RNs fl row row':=by (repeat (first|exact RNs.nil|refine RNs.cons .Z ?_|refine RNs.cons (.keep rfl rfl) ?_|refine RNs.cons (.lsl rfl rfl) ?_|refine RNs.cons (.lsl rfl (by simp only[List.length_set])) ?_|refine RNs.cons (.lptr rfl) ?_|refine RNs.cons (.nil rfl) ?_|refine RNs.cons .nl ?_|refine RNs.cons (.tuple' ?_) ?_|refine RNs.cons (.agg' ?_) ?_))):RB fl hp (.var row'::hp') (some n::l):=.var h hb hr
section
variable {C:Ctx} {P:Program} {ops:Array Oper} {rest:List Oper} {tm tm2:List TV} {hp:List TB} {Q:TS→Prop}
variable {dst:Option Tmp} {ty:TypeId} {pos:String} {aft:Array Edge} {gd:Option (Nat×Bool)} {ms:List Nat} {i:Nat} {np:List Nat} {c:Nat}
theorem OpG.sliceA{s:TS}{t e:TypeId}{x:Operand}{n o es:Nat}{row:List TV}{rows:List (List TV)}(hx:tev s.tm x = .fptr true row o)(ha:dL P t=some (n,e))(ho:okT P e=true)(hes:P.cellsOf e=es)
 (hw:(rows.all fun r=>r.length==es)=true) (hf:rows.flatten=(row.drop o).take (n*es)) (hn:rows.length=n) (hle:o+n*es≤row.length) :
 OpG C P { dst:=dst,op:=.slice t x none none none,type:=ty,pos:=pos,after:=aft,guard:=gd } s ⟨tput s.tm dst (.list es rows),s.hp⟩:=by
 intro h0 Fz L tm h hs
 have hv:=bQ hs.fz hs.tmr x
 rw[hx] at hv
 generalize hq:ev tm x=v at hv
 have hu:P.underlying t=some (.array n e):=by
  unfold dL at ha
  split at ha
  ·rename_i hu;obtain⟨rfl,rfl⟩:=Prod.mk.inj (a6 ha);exact hu
  ·cases ha
 cases hv with
 | fptr _ _ _ _ nb base eb cs hn' hb hv hle' hh =>
  obtain rfl:=hv rfl
  have hw':∀ r∈rows,r.length=es:=fun r hr=>by simpa using a8.1 hw r hr
  refine⟨?_,.slice (some ⟨nb,base+o,none⟩) n n,h,?_,Ext.refl _,Fz,L,Grow.refl _ _,?_⟩
  ·have e:Rex.pop P (ev tm) { dst:=dst,op:=.slice t x none none none,type:=ty,pos:=pos,after:=aft,guard:=gd }=eU P (ev tm) { dst:=dst,op:=.slice t x none none none,type:=ty,pos:=pos,after:=aft,guard:=gd }:=uM rfl
   rw[e]
   unfold eU
   simp only
   rw[d5]
   have hcl:aP (ev tm x)=false:=by rw[hq];rfl
   simp[Op.operands,mB hcl]
  ·simp only[xop,hop,hq,Option.map_none,hP,hu,hb,bnd]
   rw[b8 ⟨ho,f0 _,a9 _,.inl trivial⟩]
   simp
  ·refine hs.put dst ?_
   subst hn
   refine .list L es rows nb (base+o) rows.length cs 0 hn' hb (.inr rfl) hw' (a9 _) (by omega) fun j p y h1 h2=>?_
   rw[hf,i0,g7] at h1
   split at h1
   ·exact hh (o+j) p y h1 (by rw[← e7];exact h2)
   ·cases h1
theorem TO.sa{α:Type}(f:α→List TV)(xs:List α){t e:TypeId}{x:Operand}{n o es:Nat}{row:List TV}(hw:twant ops tm { dst:=dst,op:=.slice t x none none none,type:=ty,pos:=pos,after:=aft,guard:=gd }=some true)(hx:tev tm x = .fptr true row o)(ha:dL P t=some (n,e))(ho:okT P e=true)(hes:P.cellsOf e=es)
 (hr:((xs.map f).all fun r=>r.length==es)=true) (hf:(xs.map f).flatten=(row.drop o).take (n*es)) (hn:(xs.map f).length=n) (hle:decide (o+n*es≤row.length)=true) (ht:tput tm dst (.list es (xs.map f))=tm2) (hq:TO C P ops rest ⟨tm2,hp⟩ Q):TO C P ops ({ dst:=dst,op:=.slice t x none none none,type:=ty,pos:=pos,after:=aft,guard:=gd }::rest) ⟨tm,hp⟩ Q:=by
 subst ht;exact TO.g hw (OpG.sliceA (s:=⟨tm,hp⟩) hx ha ho hes hr hf hn (of_decide_eq_true hle)) hq
theorem TD.sa{α:Type}(f:α→List TV)(xs:List α){t e:TypeId}{x:Operand}{n o es:Nat}{row:List TV}(hw:twant ops tm { dst:=dst,op:=.slice t x none none none,type:=ty,pos:=pos,after:=aft,guard:=gd }=some true)(hx:tev tm x = .fptr true row o)(ha:dL P t=some (n,e))(ho:okT P e=true)(hes:P.cellsOf e=es)
 (hr:((xs.map f).all fun r=>r.length==es)=true) (hf:(xs.map f).flatten=(row.drop o).take (n*es)) (hn:(xs.map f).length=n) (hle:decide (o+n*es≤row.length)=true) (ht:tput tm dst (.list es (xs.map f))=tm2) (hq:TD C P ops ms rest (i+1) (i::np) 0 ⟨tm2,hp⟩ Q):TD C P ops ms ({ dst:=dst,op:=.slice t x none none none,type:=ty,pos:=pos,after:=aft,guard:=gd }::rest) i np 0 ⟨tm,hp⟩ Q:=by
 subst ht;exact TD.g hw (OpG.sliceA (s:=⟨tm,hp⟩) hx ha ho hes hr hf hn (of_decide_eq_true hle)) hq
theorem bmG{α:Type}{f:α→List TV}{xs:List α}{t:TypeId}{n es:Nat}{ps:Array (Nat×Operand)}{l:List (Nat×TV)}{rows:List (List TV)}(hx:ps.toList.map (fun q=>(q.1,tev tm q.2))=l)(hv:tslice P t n l=some (es,rows))(hr:rows=xs.map f) :
 OpG C P { dst:=dst,op:=.buildSlice t n ps,type:=ty,pos:=pos,after:=aft,guard:=gd } ⟨tm,hp⟩ ⟨tput tm dst (.list es (xs.map f)),hp⟩:=by
 subst hr
 exact OpG.buildSlice (s:=⟨tm,hp⟩) (by simp only[hx];exact hv)
theorem TO.bm{α:Type}(f:α→List TV)(xs:List α){t:TypeId}{n es:Nat}{ps:Array (Nat×Operand)}{l:List (Nat×TV)}{rows:List (List TV)}(hw:twant ops tm { dst:=dst,op:=.buildSlice t n ps,type:=ty,pos:=pos,after:=aft,guard:=gd }=some true)(hx:ps.toList.map (fun q=>(q.1,tev tm q.2))=l)(hv:tslice P t n l=some (es,rows))(hr:rows=xs.map f)
 (ht:tput tm dst (.list es (xs.map f))=tm2) (hq:TO C P ops rest ⟨tm2,hp⟩ Q):TO C P ops ({ dst:=dst,op:=.buildSlice t n ps,type:=ty,pos:=pos,after:=aft,guard:=gd }::rest) ⟨tm,hp⟩ Q:=by
 subst ht;exact TO.g hw (bmG hx hv hr) hq
theorem TD.bm{α:Type}(f:α→List TV)(xs:List α){t:TypeId}{n es:Nat}{ps:Array (Nat×Operand)}{l:List (Nat×TV)}{rows:List (List TV)}(hw:twant ops tm { dst:=dst,op:=.buildSlice t n ps,type:=ty,pos:=pos,after:=aft,guard:=gd }=some true)(hx:ps.toList.map (fun q=>(q.1,tev tm q.2))=l)(hv:tslice P t n l=some (es,rows))(hr:rows=xs.map f)
 (ht:tput tm dst (.list es (xs.map f))=tm2) (hq:TD C P ops ms rest (i+1) (i::np) 0 ⟨tm2,hp⟩ Q):TD C P ops ms ({ dst:=dst,op:=.buildSlice t n ps,type:=ty,pos:=pos,after:=aft,guard:=gd }::rest) i np 0 ⟨tm,hp⟩ Q:=by
 subst ht;exact TD.g hw (bmG hx hv hr) hq
end
end Go.Rex
namespace Go.Rex
open Go.RowKit
section
variable {C:Ctx} {P:Program} {ops:Array Oper} {rest:List Oper} {tm tm2:List TV} {hp hp2:List TB} {Q:TS→Prop} {o:Oper}
variable {dst:Option Tmp} {ty:TypeId} {pos:String} {aft:Array Edge} {gd:Option (Nat×Bool)} {p q:TV} {ms:List Nat} {i:Nat} {np:List Nat} {c:Nat}
end
inductive EqI (P:Program) (d:Nat) (X Y:Array Value) (e n:Nat):Nat→List Bool→Prop
 | nil (i:Nat):EqI P d X Y e n i []
 | cons {i:Nat} {b:Bool} {bs:List Bool} {u v:Value} (hu:prun P (part e X (i*n))=some u) (hv:prun P (part e Y (i*n))=some v) (he:prun P (Op.equalIn d e u v)=some b) (hr:EqI P d X Y e n (i+1) bs):EqI P d X Y e n i (b::bs)
theorem tS{P:Program}{d:Nat}{X Y:Array Value}{e n:Nat}:∀(bs:List Bool) (i:Nat),EqI P d X Y e n i bs →
 prun P (forIn (List.range' i bs.length 1) ((none,()):Option Bool×Unit) fun i _=>do
  if !(← Op.equalIn d e (← part e X (i*n)) (← part e Y (i*n))) then pure (.done (some false,())) else pure (.yield (none,())))=some (if bs.all id then (none,()) else (some false,()))
 | [],_,_=>rfl
 | b::bs,i,.cons hu hv he hr=>by
  rw[List.length_cons,List.range'_succ,List.forIn_cons,aG]
  rw[aG,hu,d9,aG,hv,d9,aG,he,d9]
  cases b with
  | false=>rfl
  | true =>
   simp only[Bool.not_true,Bool.false_eq_true,if_false,pU,Option.bind_some,List.all_cons,id,Bool.true_and]
   exact tS bs (i+1) hr
theorem sX{P:Program}{t:TypeId}{d len e n:Nat}{X Y:Array Value}{bs:List Bool}(ht:P.underlying t=some (.array len e))(hs:prun P (sizeOf e)=some n)(hf:EqI P d X Y e n 0 bs)(hl:bs.length=len):prun P (Op.equalIn (d+1) t (.agg X) (.agg Y))=some (bs.all id):=by
 subst hl
 unfold Op.equalIn
 rw[aG,dS ht]
 simp only[Option.bind_some]
 rw[aG,hs,d9]
 simp only[Std.Legacy.Range.forIn_eq_forIn_range',Std.Legacy.Range.size,Nat.sub_zero,Nat.add_sub_cancel,Nat.div_one]
 rw[aG,tS bs 0 hf,d9]
 cases bs.all id<;>rfl
section
variable {P:Program} {tm:List TV} {hp:List TB} {dst:Option Tmp} {ty:TypeId} {pos:String} {aft:Array Edge} {gd:Option (Nat×Bool)}
end
section
variable {P:Program} {tm:List TV} {hp:List TB} {dst:Option Tmp} {ty:TypeId} {pos:String} {aft:Array Edge} {gd:Option (Nat×Bool)}
end
end Go.Rex
namespace Go.Rex
open Go.RowKit
def cS:Code→Bool
 | .seq x y=>cS x&&cS y
 | .cond _ x y=>cS x&&cS y
 | .block _ b=>cS b
 | .loop b=>cS b
 | .rangeFunc ..=>false
 | _=>true
def Keeps(h h':List Blk):Prop:=h.length≤h'.length∧∀ m:Nat,h[m]?=some Blk.dfr→h'[m]?=some Blk.dfr
section
variable {P:Program} {C:Ctx}
structure CKeeps(C:Ctx):Prop where
 call:∀ {f args h v h' w},C.call f args h=some (v,h',w)→Keeps h h'
 round:∀ {l args h v h' w},C.round l args h=some (v,h',w)→Keeps h h'
end
end Go.Rex
namespace Go.Rex
open Go.RowKit
section
variable {Fz Fz':Nat→Prop} {h0 h h':List Blk} {L:Nat→LI} {s s':TS} {tm:List Value}
end
section
variable {C:Ctx} {P:Program} {s s':TS} {Q Q':Exit→TS→Prop}
end
end Go.Rex
namespace Go.Rex
open Go.RowKit
structure Out(X:Type) where
 lo:Nat
 base:Nat
 R:X→(Nat→Prop)→List Blk→Prop
 hlo:lo≤base
 stay:∀ {x:X} {Fz Fz':Nat→Prop} {h h':List Blk},R x Fz h→Ext h h'→Grow h Fz Fz' h h'→(FZ Fz' h')→R x Fz' h'
theorem vF{wr:Option Nat}{k j:Nat}(h:wge wr k=true)(hj:j≤k):wge wr j=true:=by
 cases wr with
 | none=>rfl
 | some n=>simp[wge] at h ⊢;omega
theorem nY{a b:Option Nat}{k:Nat}(h:wge (wmin a b) k=true):wge a k=true∧wge b k=true:=by
 cases a<;>cases b<;>simp_all [wge,wmin]<;>omega
section
variable {E X:Type} {C:Ctx} {P:Program} {O:Out X}
variable {tm tm':List TV} {s s':TS} {x:X} {Q Q':Exit→List TV→X→Prop} {c:Code}
structure Back(o:Oper)(f:Operand)(args:List Operand)(dst:Option Tmp):Prop where
 eq:∃(tys:Array TypeId) (ty:TypeId) (pos:String) (aft:Array Edge) (gd:Option (Nat×Bool)),o={ dst:=dst,op:=.call { callee:=.value f,args:=⟨args⟩,argTypes:=tys },type:=ty,pos:=pos,after:=aft,guard:=gd }
section
variable {nexty:List TV→X→Prop}
end
end
end Go.Rex
namespace Go.Rex
open Go.RowKit
def odsts:List Oper→List Nat
 | []=>[]
 | o::l=>match o.dst with
  | some d=>d::odsts l
  | none=>odsts l
def cdsts:Code→List Nat
 | .seq x y=>cdsts x++cdsts y
 | .cond _ x y=>cdsts x++cdsts y
 | .block _ b=>cdsts b
 | .loop b=>cdsts b
 | .region _ ops _=>odsts ops.toList
 | _=>[]
section
variable {P:Program} {C:Ctx}
theorem dM{tm:List Value}{dst:Option Tmp}{v:Value}{i:Nat}(hi:dst≠some i):(aN tm dst v)[i]?=tm[i]?:=by
 cases dst with
 | none=>rfl
 | some d=>simp only[aN];rw[d6 (by rintro rfl;exact hi rfl)]
theorem jX{o:Oper}{l:List Oper}{i:Nat}(h:i ∉ odsts (o::l)):o.dst≠some i∧i ∉ odsts l:=by
 unfold odsts at h
 cases hd:o.dst with
 | none=>rw[hd] at h;exact⟨by simp,h⟩
 | some d=>rw[hd] at h;simp at h;exact⟨by simp;exact fun e=>h.1 e.symm,h.2⟩
theorem fG{ops:Array Oper}{i:Nat}:∀(l:List Oper) {tm tm':List Value} {h h':List Blk} {w:Option Nat},bL C P ops l tm h=some (tm',h',w)→i ∉ odsts l→tm'[i]?=tm[i]?
 | [],tm,tm',h,h',w,hr,_=>by simp only[bL,Option.some.injEq,Prod.mk.injEq] at hr;rw[← hr.1]
 | o::l,tm,tm',h,h',w,hr,hi=>by
  obtain⟨h1,h2⟩:=jX hi
  simp only[bL] at hr
  split at hr
  ·split at hr
   ·rw[fG l hr h2,dM h1]
   ·split at hr
    ·rw[b9] at hr
     obtain⟨⟨t2,h3,w3⟩,a,e⟩:=hr
     simp only[Prod.mk.injEq] at e
     obtain⟨rfl,-⟩:=e
     rw[fG l a h2,dM h1]
    ·cases hr
  ·rw[fG l hr h2,dM h1]
theorem oT{ops:Array Oper}{m i:Nat}{o:Oper}{s s':Dr}{j:Nat}(hw:bP C P ops m i o s=some s')(hj:o.dst≠some j):s'.tm[j]?=s.tm[j]?:=by
 unfold bP at hw
 split at hw
 ·split at hw
  ·obtain rfl:=a6 hw;exact dM hj
  ·unfold fA at hw
   repeat' split at hw
   all_goals first
    | cases hw;done
    | (obtain rfl:=a6 hw;exact dM hj)
 ·obtain rfl:=a6 hw;exact dM hj
theorem jP{ops:Array Oper}{ms:List Nat}{j:Nat}:∀(l:List Oper) {i:Nat} {s s':Dr},aV C P ops ms l i s=some s'→j ∉ odsts l→s'.tm[j]?=s.tm[j]?
 | [],i,s,s',h,_=>by simp only[aV] at h;obtain rfl:=a6 h;rfl
 | o::l,i,s,s',h,hj=>by
  obtain⟨h1,h2⟩:=jX hj
  simp only[aV] at h
  split at h
  ·rename_i s1 hs;rw[jP l h h2,oT hs h1]
  ·cases h
theorem oJ{ops:Array Oper}{ms:List Nat}{m i:Nat}{o:Oper}{s s':Fr}{j:Nat}(hw:bN C P ops ms m i o s=some s')(hj:o.dst≠some j):s'.tm[j]?=s.tm[j]?:=by
 unfold bN at hw
 split at hw
 ·split at hw
  ·obtain rfl:=a6 hw;exact dM hj
  ·unfold dQ at hw
   repeat' split at hw
   all_goals first
    | cases hw;done
    | (obtain rfl:=a6 hw;exact dM hj)
 ·obtain rfl:=a6 hw;exact dM hj
theorem jM{ops:Array Oper}{ms:List Nat}{j:Nat}:∀(l:List Oper) {i:Nat} {s s':Fr},aU C P ops ms l i s=some s'→j ∉ odsts l→s'.tm[j]?=s.tm[j]?
 | [],i,s,s',h,_=>by simp only[aU] at h;obtain rfl:=a6 h;rfl
 | o::l,i,s,s',h,hj=>by
  obtain⟨h1,h2⟩:=jX hj
  simp only[aU] at h
  split at h
  ·rename_i s1 hs;rw[jM l h h2,oJ hs h1]
  ·cases h
theorem dE{ro:Option Nat}{i:Nat}:∀(k:Nat) (c:Code) {a a':AS} {h h':List Blk} {e:Exit} {w:Option Nat},exec C P ro k c a h=some (e,a',h',w)→cS c=true→i ∉ cdsts c→a'.tm[i]?=a.tm[i]?
 | 0,c,a,a',h,h',e,w,hx,_,_=>by simp[exec] at hx
 | k+1,c,a,a',h,h',e,w,hx,hn,hi=>by
  cases c with
  | seq x y =>
   simp only[cS,Bool.and_eq_true] at hn
   simp only[cdsts,List.mem_append,not_or] at hi
   simp only[exec] at hx
   rcases hq:exec C P ro k x a h with _|⟨e1,a1,h1,w1⟩
   ·rw[hq] at hx;cases hx
   ·rw[hq] at hx
    have i1:=dE k x hq hn.1 hi.1
    cases e1 with
    | normal =>
     simp only at hx
     rw[b9] at hx
     obtain⟨⟨e2,a2,h2,w2⟩,hy,ee⟩:=hx
     simp only[Prod.mk.injEq] at ee
     obtain⟨-,rfl,-⟩:=ee
     rw[dE k y hy hn.2 hi.2,i1]
    | _=>simp only[Option.some.injEq,Prod.mk.injEq] at hx;obtain⟨-,rfl,-⟩:=hx;exact i1
  | cond g x y =>
   simp only[cS,Bool.and_eq_true] at hn
   simp only[cdsts,List.mem_append,not_or] at hi
   simp only[exec] at hx
   split at hx
   ·split at hx
    ·split at hx
     ·exact dE k x hx hn.1 hi.1
     ·exact dE k y hx hn.2 hi.2
    ·cases hx
   ·cases hx
  | block id b =>
   simp only[cS] at hn
   simp only[cdsts] at hi
   simp only[exec] at hx
   rcases hq:exec C P ro k b a h with _|⟨e1,a1,h1,w1⟩
   ·rw[hq] at hx;cases hx
   ·rw[hq] at hx
    have i1:=dE k b hq hn hi
    cases e1 with
    | exit id' =>
     simp only at hx
     split at hx<;>(simp only[Option.some.injEq,Prod.mk.injEq] at hx;obtain⟨-,rfl,-⟩:=hx;exact i1)
    | _=>simp only[Option.some.injEq,Prod.mk.injEq] at hx;obtain⟨-,rfl,-⟩:=hx;exact i1
  | loop b =>
   have hn':cS b=true:=by simpa only[cS] using hn
   have hi':i ∉ cdsts b:=by simpa only[cdsts] using hi
   simp only[exec] at hx
   rcases hq:exec C P ro k b a h with _|⟨e1,a1,h1,w1⟩
   ·rw[hq] at hx;cases hx
   ·rw[hq] at hx
    have i1:=dE k b hq hn' hi'
    cases e1 with
    | normal =>
     simp only at hx
     rw[b9] at hx
     obtain⟨⟨e2,a2,h2,w2⟩,hy,ee⟩:=hx
     simp only[Prod.mk.injEq] at ee
     obtain⟨-,rfl,-⟩:=ee
     rw[dE k (.loop b) hy hn hi,i1]
    | _=>simp only[Option.some.injEq,Prod.mk.injEq] at hx;obtain⟨-,rfl,-⟩:=hx;exact i1
  | region id ops d =>
   simp only[cdsts] at hi
   simp only[exec,mH] at hx
   repeat' split at hx
   all_goals first
    | cases hx;done
    | skip
   all_goals (rw[b9] at hx;obtain⟨⟨t2,h2,w2⟩,ha,ee⟩:=hx;simp only[Prod.mk.injEq] at ee;obtain⟨-,rfl,-⟩:=ee)
   ·unfold cG at ha
    split at ha
    ·unfold dY at ha
     split at ha
     ·rw[b9] at ha
      obtain⟨s,hs,ee⟩:=ha
      simp only[Prod.mk.injEq] at ee
      obtain⟨rfl,-⟩:=ee
      exact jM _ hs hi
     ·cases ha
    ·unfold dK at ha
     split at ha
     ·rw[b9] at ha
      obtain⟨s,hs,ee⟩:=ha
      simp only[Prod.mk.injEq] at ee
      obtain⟨rfl,-⟩:=ee
      exact jP _ hs hi
     ·cases ha
   ·exact fG _ ha hi
  | rangeFunc g ps as b=>simp[cS] at hn
  | _=>first
   | (simp only[exec,Option.some.injEq,Prod.mk.injEq] at hx;obtain⟨-,rfl,-⟩:=hx;rfl)
   | simp[exec] at hx
end
end Go.Rex
namespace Go.Rex
open Go.RowKit
section
variable {Fz Fz':Nat→Prop} {h0 h h':List Blk} {L:Nat→LI} {s s':TS} {tm:List Value}
end
section
variable {P:Program}
variable {s:TS} {Q:Exit→TS→Prop}
end
end Go.Rex
namespace Go.Rex
open Go.RowKit
section
variable {C:Ctx} {P:Program} {tm tm2:List TV} {hp:List TB} {ops:Array Oper} {rest:List Oper} {Q:TS→Prop}
variable {dst:Option Tmp} {ty:TypeId} {pos:String} {aft:Array Edge} {gd:Option (Nat×Bool)} {x y:Operand} {t u:TypeId}
open Classical in
end
end Go.Rex
namespace Go.Rex
open Go.RowKit
section
variable {C:Ctx} {P:Program} {Fz:Nat→Prop} {h h0:List Blk} {L:Nat→LI} {s:TS} {tm:List Value}
variable {dst:Option Tmp} {ty:TypeId} {pos:String} {aft:Array Edge} {gd:Option (Nat×Bool)}
end
section
variable {C:Ctx} {P:Program} {ops:Array Oper} {rest:List Oper} {tm tm2:List TV} {hp hp2:List TB} {Q:TS→Prop} {o:Oper}
variable {dst:Option Tmp} {ty:TypeId} {pos:String} {aft:Array Edge} {gd:Option (Nat×Bool)} {p q:TV} {ms:List Nat} {i:Nat} {np:List Nat} {c:Nat}
end
section
variable {C:Ctx} {P:Program} {tm tm2:List TV} {hp hp2:List TB} {Q:Exit→TS→Prop} {c:Code}
end
end Go.Rex
namespace Go.Rex
open Go.RowKit
def tD(P:Program)(g:FuncId)(res:List Blk→Value×List Blk)(k:Nat):Nat→Ctx
 | 0=>⟨fun _ _ _=>none,fun _ _ _=>none⟩
 | d+1=>⟨fun f args h=>if f=g then (match args with|[]=>some ((res h).1,(res h).2,none)|_=>none) else cC (tD P g res k d) P k f args h,gG (tD P g res k d) P k⟩
def Ak(P:Program)(g:FuncId)(res:List Blk→Value×List Blk):Prop:=
 ∀(h:List Blk) (B lo:Nat) (D:Nat→Prop) (m:NMap) (w:World),Rel B lo D m h w→lo≤h.length→Calls P g ⟨[]⟩ w (Good B lo D m h w (res h).1 (res h).2)
theorem nG{P:Program}(hm:P.follows .mixedOrders=true){g:FuncId}{res:List Blk→Value×List Blk}(hres:Ak P g res)(k:Nat):∀ d,CtxOk P (tD P g res k d)
 | 0=>⟨fun h=>by simp[tD] at h,fun h=>by simp[tD] at h⟩
 | d+1 =>
  have hD:gR P (tD P g res k d):=fun {_ _ _ _ _ _ _} hv {_ _ _ _ _ _ _ _ _} hr hlo hA hw hQ=>lT (nG hm hres k d) hm hv hr hlo hA hw hQ
  ⟨fun {f args h v h' wr} hv {B lo D m w args'} hr hlo hw hargs=>by
   simp only[tD] at hv
   split at hv
   ·rename_i hf
    subst hf
    split at hv
    ·obtain⟨rfl,rfl,rfl⟩:(res h).1=v∧(res h).2=h'∧none=wr:=by simpa using hv
     obtain rfl:args'=[]:=by have:=hargs.len;simpa using this
     exact hres _ _ _ _ _ _ hr hlo
    ·cases hv
   ·exact fZ (nG hm hres k d) hD hv hr hlo hw hargs,fun h=>iQ (nG hm hres k d) hD h⟩
def Az(P:Program)(g:FuncId)(res:List Blk→Value×List Blk)(k d:Nat)(f:FuncId)(args:List Value)(h:List Blk):AOut:=(tD P g res k d).call f args h
theorem zN{P:Program}(hm:P.follows .mixedOrders=true){g:FuncId}{res:List Blk→Value×List Blk}(hres:Ak P g res){k d:Nat}{f:FuncId}(hv:nS (Az P g res k d f [] GH)=true):AwT P f:=by
 intro w hgw hgs
 unfold nS at hv
 split at hv
 ·rename_i h' hx
  refine ((nG hm hres k d).call hx (Rel.start w hgw hgs) (a9 _) (fun n h=>by cases h) VRs.nil).mono ?_
  rintro e w' ⟨v',m',rfl,hp,hvr⟩
  cases hvr
  exact⟨rfl,hp.below⟩
 ·cases hv
def Olds(h h':List Blk)(w:Option Nat):Prop:=h.length≤h'.length∧∀ m:Nat,m<h.length→wge w (m+1)=true→h'[m]?=h[m]?
theorem Olds.refl(h:List Blk)(w:Option Nat):Olds h h w:=⟨a9 _,fun _ _ _=>rfl⟩
theorem Olds.trans{a b c:List Blk}{w w':Option Nat}(x:Olds a b w)(y:Olds b c w'):Olds a c (wmin w w'):=
 ⟨e6 x.1 y.1,fun m h hw=>(y.2 m (d7 h x.1) (nY hw).2).trans (x.2 m h (nY hw).1)⟩
theorem Olds.app(h t:List Blk)(w:Option Nat):Olds h (h++t) w:=⟨by simp,fun m hm _=>b4 hm⟩
theorem Olds.set{h:List Blk}{n:Nat}{b:Blk}:Olds h (h.set n b) (some n):=
 ⟨by simp,fun m _ hw=>by rw[vZ] at hw;have:=of_decide_eq_true hw;exact d6 (by omega)⟩
theorem gA{h h':List Blk}{n o:Nat}{vs:List Value}(hw:aS h n o vs=some h'):Olds h h' (some n):=by
 unfold aS at hw
 split at hw
 ·rename_i es c hn
  split at hw
  ·obtain rfl:=a6 hw
   exact Olds.set
  ·cases hw
 ·rename_i t es c hn
  split at hw
  ·obtain rfl:=a6 hw
   exact Olds.set
  ·cases hw
 ·cases hw
section
variable {P:Program} {C:Ctx}
theorem sQ{t:TypeId}{h h':List Blk}{n o:Nat}{v:Value}(hw:dJ P t h n o v=some h'):Olds h h' (some n):=by
 unfold dJ at hw
 split at hw
 ·split at hw
  ·exact gA hw
  ·cases hw
 ·cases hw
theorem qT{i:TypeInfo}{t1:Option TypeId}{s x v:Value}{h h':List Blk}{w:Option Nat}(hw:fX P i t1 s x h=some (v,h',w)):Olds h h' w:=by
 unfold fX at hw
 repeat' split at hw
 all_goals first
  | cases hw;done
  | (simp only[Option.some.injEq,Prod.mk.injEq] at hw;obtain⟨-,rfl,-⟩:=hw;exact Olds.app _ _ _)
theorem qJ{tys:Array TypeId}{s x v:Value}{h h':List Blk}{w:Option Nat}(hw:cQ P tys s x h=some (v,h',w)):Olds h h' w:=by
 unfold cQ at hw
 repeat' split at hw
 all_goals first
  | cases hw;done
  | exact qT hw
  | (simp only[Option.some.injEq,Prod.mk.injEq] at hw;obtain⟨-,rfl,rfl⟩:=hw;first|exact Olds.refl _ _|exact Olds.app _ _ _|skip)
  | (rw[b9] at hw;obtain⟨a,ha,e⟩:=hw;simp only[Prod.mk.injEq] at e;obtain⟨-,rfl,rfl⟩:=e;exact gA ha)
 all_goals exact Olds.set.trans (Olds.app _ _ .none)
theorem vC{tys:Array TypeId}{s x v:Value}{h h':List Blk}{w:Option Nat}(hw:tR P tys s x h=some (v,h',w)):Olds h h' w:=by
 unfold tR at hw
 repeat' split at hw
 all_goals first
  | cases hw;done
  | (simp only[Option.some.injEq,Prod.mk.injEq] at hw;obtain⟨-,rfl,-⟩:=hw;exact Olds.refl _ _)
  | (rw[b9] at hw;obtain⟨a,ha,e⟩:=hw;simp only[Prod.mk.injEq] at e;obtain⟨-,rfl,rfl⟩:=e;first|exact gA ha|exact Olds.refl _ _)
theorem lP{r:Option (Value×List Blk)}{v:Value}{h h':List Blk}{w:Option Nat}(hr:∀ v h',r=some (v,h')→Olds h h' .none)(hw:lG r=some (v,h',w)):Olds h h' w:=by
 unfold lG at hw
 rw[b9] at hw
 obtain⟨⟨v1,h1⟩,ha,e⟩:=hw
 simp only[Prod.mk.injEq] at e
 obtain⟨-,rfl,rfl⟩:=e
 exact hr _ _ ha
theorem lR{t:TypeId}{len:Nat}{ps:Array (Nat×Value)}{h h':List Blk}{v:Value}(hw:cF P t len ps h=some (v,h')):Olds h h' .none:=by
 unfold cF at hw
 repeat' split at hw
 all_goals first
  | cases hw;done
  | skip
 rw[Option.bind_eq_some_iff] at hw
 obtain⟨c,-,hw⟩:=hw
 split at hw
 ·simp only[Option.some.injEq,Prod.mk.injEq] at hw
  obtain⟨-,rfl⟩:=hw
  exact Olds.app _ _ _
 ·cases hw
theorem mZ{t:TypeId}{l c v:Value}{h h':List Blk}(hw:eH P t l c h=some (v,h')):Olds h h' .none:=by
 unfold eH at hw
 repeat' split at hw
 all_goals first
  | cases hw;done
  | (simp only[Option.some.injEq,Prod.mk.injEq] at hw;obtain⟨-,rfl⟩:=hw;exact Olds.app _ _ _)
theorem kV{t:TypeId}{x k u:Value}{h h':List Blk}{n:Nat}(hw:bA P t x k u h=some (h',n)):Olds h h' (some n):=by
 unfold bA at hw
 split at hw
 ·split at hw
  ·split at hw
   ·split at hw
    ·rename_i hn
     skip
     repeat' split at hw
     all_goals first
      | cases hw;done
      | (simp only[Option.some.injEq,Prod.mk.injEq] at hw;obtain⟨rfl,rfl⟩:=hw;exact Olds.set)
    ·cases hw
   ·cases hw
  ·cases hw
 ·cases hw
theorem oU{src dst:TypeId}{x:Value}{h h':List Blk}{v:Value}(hw:gS P src dst x h=some (v,h')):Olds h h' .none:=by
 unfold gS at hw
 repeat' split at hw
 all_goals first
  | cases hw;done
  | (simp only[Option.some.injEq,Prod.mk.injEq] at hw;obtain⟨-,rfl⟩:=hw;exact Olds.app _ _ _)
theorem uH{src dst:TypeId}{x:Value}{h h':List Blk}{v:Value}(hw:tT P src dst x h=some (v,h')):Olds h h' .none:=by
 unfold tT at hw
 split at hw
 ·rename_i r h1
  obtain rfl:=a6 hw
  exact oU h1
 ·split at hw
  ·simp only[Option.some.injEq,Prod.mk.injEq] at hw
   obtain⟨-,rfl⟩:=hw
   exact Olds.refl _ _
  ·rw[b9] at hw
   obtain⟨a,ha,e⟩:=hw
   simp only[Prod.mk.injEq] at e
   obtain⟨-,rfl⟩:=e
   exact Olds.refl _ _
theorem rF{tys:Array TypeId}{s x v:Value}{h h':List Blk}{w:Option Nat}(hw:iB P tys s x h=some (v,h',w)):Olds h h' w:=by
 unfold iB at hw
 split at hw
 ·rename_i r hr
  obtain rfl:=a6 hw
  exact qJ hr
 ·unfold iZ at hw
  repeat' split at hw
  all_goals first
   | cases hw;done
   | skip
  simp only[Option.some.injEq,Prod.mk.injEq] at hw
  obtain⟨-,rfl,rfl⟩:=hw
  exact Olds.set.trans (Olds.app _ _ .none)
theorem sT{ts:Array TypeId}{x y v:Value}{h h':List Blk}{w:Option Nat}(hw:oR P ts x y h=some (v,h',w)):Olds h h' w:=by
 unfold oR at hw
 split at hw
 ·simp only[Option.some.injEq,Prod.mk.injEq] at hw;obtain⟨-,rfl,rfl⟩:=hw;exact Olds.refl _ _
 ·split at hw
  ·split at hw
   ·split at hw
    ·simp only[Option.some.injEq,Prod.mk.injEq] at hw;obtain⟨-,rfl,rfl⟩:=hw;exact Olds.set
    ·cases hw
   ·cases hw
  ·cases hw
 ·cases hw
theorem wE{g:FuncId}{fd:Func}{args:List Value}{v:Value}{h h':List Blk}{w:Option Nat}(hw:zH P g fd args h=some (v,h',w)):Olds h h' w:=by
 unfold zH at hw
 split at hw
 ·simp only[Option.some.injEq,Prod.mk.injEq] at hw;obtain⟨-,rfl,rfl⟩:=hw;exact Olds.refl _ _
 ·unfold Aa at hw
  repeat' split at hw
  all_goals first
   | cases hw;done
   | (simp only[Option.some.injEq,Prod.mk.injEq] at hw;obtain⟨-,rfl,rfl⟩:=hw;first|exact Olds.refl _ _|exact Olds.app _ _ _)
theorem zM{ρ:Operand→Value}{o:Oper}{h h':List Blk}{v:Value}{w:Option Nat}(hw:hop P ρ o h=some (v,h',w)):Olds h h' w:=by
 unfold hop at hw
 split at hw
 ·repeat' split at hw
  all_goals first
   | cases hw;done
   | (simp only[Option.some.injEq,Prod.mk.injEq] at hw;obtain⟨-,rfl,-⟩:=hw;exact Olds.app _ _ _)
 ·simp only[Option.some.injEq,Prod.mk.injEq] at hw;obtain⟨-,rfl,-⟩:=hw;exact Olds.app _ _ _
 ·exact lP (fun _ _=>lR) hw
 ·exact lP (fun _ _=>mZ) hw
 ·split at hw
  ·rw[b9] at hw;obtain⟨a,ha,e⟩:=hw;simp only[Prod.mk.injEq] at e;obtain⟨-,rfl,rfl⟩:=e;exact Olds.refl _ _
  ·cases hw
 ·split at hw
  ·rw[b9] at hw;obtain⟨a,ha,e⟩:=hw;simp only[Prod.mk.injEq] at e;obtain⟨-,rfl,rfl⟩:=e;exact sQ ha
  ·cases hw
 ·unfold bhop at hw
  repeat' split at hw
  all_goals first
   | cases hw;done
   | exact rF hw
   | exact vC hw
   | exact sT hw
   | (rw[b9] at hw;obtain⟨a,ha,e⟩:=hw;simp only[Prod.mk.injEq] at e;obtain⟨-,rfl,rfl⟩:=e;exact Olds.refl _ _)
 ·repeat' split at hw
  all_goals first
   | cases hw;done
   | (simp only[Option.some.injEq,Prod.mk.injEq] at hw;obtain⟨-,rfl,rfl⟩:=hw;exact Olds.refl _ _)
   | (rw[b9] at hw;obtain⟨a,ha,e⟩:=hw;simp only[Prod.mk.injEq] at e;obtain⟨-,rfl,rfl⟩:=e;exact Olds.refl _ _)
 ·rw[b9] at hw;obtain⟨a,ha,e⟩:=hw;simp only[Prod.mk.injEq] at e;obtain⟨-,rfl,rfl⟩:=e;exact Olds.refl _ _
 ·split at hw
  ·simp only[Option.some.injEq,Prod.mk.injEq] at hw;obtain⟨-,rfl,-⟩:=hw;exact Olds.app _ _ _
  ·cases hw
 ·rw[b9] at hw;obtain⟨a,ha,e⟩:=hw;simp only[Prod.mk.injEq] at e;obtain⟨-,rfl,rfl⟩:=e;exact Olds.refl _ _
 ·rw[b9] at hw;obtain⟨⟨a,b⟩,ha,e⟩:=hw;simp only[Prod.mk.injEq] at e;obtain⟨-,rfl,rfl⟩:=e;exact kV ha
 ·rw[b9] at hw;obtain⟨⟨a,b⟩,ha,e⟩:=hw;simp only[Prod.mk.injEq] at e;obtain⟨-,rfl,rfl⟩:=e;exact kV ha
 ·exact lP (fun _ _=>uH) hw
 ·cases hw
structure COlds(C:Ctx):Prop where
 call:∀ {f args h v h' w},C.call f args h=some (v,h',w)→Olds h h' w
 round:∀ {l args h v h' w},C.round l args h=some (v,h',w)→Olds h h' w
theorem iH(hC:COlds C){ρ:Operand→Value}{o:Oper}{h h':List Blk}{v:Value}{w:Option Nat}(hw:xop C P ρ o h=some (v,h',w)):Olds h h' w:=by
 unfold xop at hw
 split at hw
 ·rename_i r hr
  obtain rfl:=a6 hw
  exact zM hr
 ·split at hw
  ·unfold xcall at hw
   repeat' split at hw
   all_goals first
    | cases hw;done
    | exact hC.call hw
    | exact hC.round hw
    | exact wE hw
    | (rw[b9] at hw;obtain⟨a,ha,e⟩:=hw;simp only[Prod.mk.injEq] at e;obtain⟨-,rfl,rfl⟩:=e;exact Olds.refl _ _)
  ·cases hw
theorem fY(hC:COlds C){ops:Array Oper}:∀(l:List Oper) {tm tm':List Value} {h h':List Blk} {w:Option Nat},bL C P ops l tm h=some (tm',h',w)→Olds h h' w
 | [],tm,tm',h,h',w,hw=>by
  simp only[bL,Option.some.injEq,Prod.mk.injEq] at hw
  obtain⟨-,rfl,-⟩:=hw
  exact Olds.refl _ _
 | o::l,tm,tm',h,h',w,hw=>by
  simp only[bL] at hw
  split at hw
  ·split at hw
   ·exact fY hC l hw
   ·split at hw
    ·rename_i hx
     rw[b9] at hw;obtain⟨⟨a,b,c⟩,ha,e⟩:=hw;simp only[Prod.mk.injEq] at e;obtain⟨-,rfl,rfl⟩:=e
     exact (iH hC hx).trans (fY hC l ha)
    ·cases hw
  ·exact fY hC l hw
theorem pG(hC:COlds C){ops:Array Oper}{m i:Nat}{o:Oper}{s s':Dr}(hw:bP C P ops m i o s=some s'){h:List Blk}(h0:Olds h s.h s.wr):Olds h s'.h s'.wr:=by
 unfold bP at hw
 split at hw
 ·split at hw
  ·obtain rfl:=a6 hw;exact h0
  ·unfold fA at hw
   split at hw
   ·rename_i hx
    split at hw
    ·split at hw
     ·obtain rfl:=a6 hw;exact h0
     ·obtain rfl:=a6 hw
      exact⟨by simp;have:=h0.1;omega,fun m hm hw=>by simp only;rw[b4 (d7 hm h0.1)];exact h0.2 m hm hw⟩
    ·split at hw
     ·obtain rfl:=a6 hw;exact h0.trans (iH hC hx)
     ·cases hw
   ·cases hw
 ·obtain rfl:=a6 hw;exact h0
theorem kU(hC:COlds C){ops:Array Oper}{ms:List Nat}{h:List Blk}:∀(l:List Oper) {i:Nat} {s s':Dr},aV C P ops ms l i s=some s'→Olds h s.h s.wr→Olds h s'.h s'.wr
 | [],i,s,s',hw,h0=>by
  simp only[aV,Option.some.injEq] at hw
  subst hw
  exact h0
 | o::l,i,s,s',hw,h0=>by
  simp only[aV] at hw
  split at hw
  ·rename_i h1
   exact kU hC l hw (pG hC h1 h0)
  ·cases hw
theorem oW(hC:COlds C){ops:Array Oper}{ms:List Nat}{m i:Nat}{o:Oper}{s s':Fr}(hw:bN C P ops ms m i o s=some s'){h:List Blk}(h0:Olds h s.h s.wr):Olds h s'.h s'.wr:=by
 unfold bN at hw
 split at hw
 ·split at hw
  ·obtain rfl:=a6 hw;exact h0
  ·unfold dQ at hw
   split at hw
   ·rename_i hx
    split at hw
    ·split at hw
     ·rename_i ht
      obtain rfl:=a6 hw
      obtain⟨e1,t,e2,-⟩:=uW ht (Free.xop_hop ht hx)
      subst e2
      exact⟨by simp;have:=h0.1;omega,fun m hm hw=>by simp only;rw[b4 (d7 hm h0.1)];exact h0.2 m hm hw⟩
     ·rename_i n ht
      split at hw
      ·obtain rfl:=a6 hw
       obtain⟨nb,e2,-⟩:=uF ht (Free.xop_hop ht hx)
       subst e2
       exact⟨by simp;have:=h0.1;omega,fun m hm hw=>by simp only;rw[b4 (d7 hm h0.1)];exact h0.2 m hm hw⟩
      ·cases hw
     ·split at hw
      ·obtain rfl:=a6 hw;exact h0.trans (iH hC hx)
      ·cases hw
     ·split at hw
      ·obtain rfl:=a6 hw;exact h0.trans (iH hC hx)
      ·cases hw
     ·split at hw
      ·obtain rfl:=a6 hw
       exact⟨by simp;have:=h0.1;omega,fun m hm hw=>by simp only;rw[b4 (d7 hm h0.1)];exact h0.2 m hm hw⟩
      ·split at hw
       ·obtain rfl:=a6 hw;exact h0.trans (iH hC hx)
       ·cases hw
    ·cases hw
   ·cases hw
 ·obtain rfl:=a6 hw;exact h0
theorem kZ(hC:COlds C){ops:Array Oper}{ms:List Nat}{h:List Blk}:∀(l:List Oper) {i:Nat} {s s':Fr},aU C P ops ms l i s=some s'→Olds h s.h s.wr→Olds h s'.h s'.wr
 | [],i,s,s',hw,h0=>by
  simp only[aU,Option.some.injEq] at hw
  subst hw
  exact h0
 | o::l,i,s,s',hw,h0=>by
  simp only[aU] at hw
  split at hw
  ·rename_i h1
   exact kZ hC l hw (oW hC h1 h0)
  ·cases hw
theorem qK(hC:COlds C){ops:Array Oper}{tm tm':List Value}{h h':List Blk}{w:Option Nat}(hw:cG C P ops tm h=some (tm',h',w)):Olds h h' w:=by
 unfold cG at hw
 split at hw
 ·unfold dY at hw
  split at hw
  ·rw[b9] at hw;obtain⟨a,ha,e⟩:=hw;simp only[Prod.mk.injEq] at e;obtain⟨-,rfl,rfl⟩:=e
   exact kZ hC _ ha (Olds.refl _ _)
  ·cases hw
 ·unfold dK at hw
  split at hw
  ·rw[b9] at hw;obtain⟨a,ha,e⟩:=hw;simp only[Prod.mk.injEq] at e;obtain⟨-,rfl,rfl⟩:=e
   exact kU hC _ ha (Olds.refl _ _)
  ·cases hw
theorem pK(hC:COlds C){ro:Option Nat}{g:Operand}{ps:Array Tmp}{as body:Code}{a a':AS}{h h':List Blk}{e:Exit}{w:Option Nat}(hw:eT C P ro g ps as body a h=some (e,a',h',w)):Olds h h' w:=by
 unfold eT at hw
 repeat' split at hw
 all_goals first
  | cases hw;done
  | skip
 rename_i h1 d mark hs _ v h2 w2 hc
 have h01:Olds h h1 .none:=by
  unfold jZ at hs
  split at hs
  ·simp only[Option.some.injEq,Prod.mk.injEq] at hs
   obtain⟨rfl,-,-⟩:=hs
   exact Olds.app _ _ _
  ·split at hs
   ·simp only[Option.some.injEq,Prod.mk.injEq] at hs
    obtain⟨rfl,-,-⟩:=hs
    exact Olds.refl _ _
   ·cases hs
 have k2:Olds h h2 w2:=(h01.trans ((Olds.app h1 _ .none).trans (hC.call hc)))
 have k3:Olds h (h2.set h1.length .dead) w2:=⟨by simp;exact k2.1,fun m hm hw=>by rw[d6 (by have:=h01.1;omega)];exact k2.2 m hm hw⟩
 unfold lA at hw
 split at hw
 ·repeat' split at hw
  all_goals first
   | cases hw;done
   | (simp only[Option.some.injEq,Prod.mk.injEq] at hw;obtain⟨-,-,rfl,rfl⟩:=hw;exact k3)
 ·cases hw
theorem cU(hC:COlds C){ro:Option Nat}:∀(k:Nat) (c:Code) {a a':AS} {h h':List Blk} {e:Exit} {w:Option Nat},exec C P ro k c a h=some (e,a',h',w)→Olds h h' w
 | 0,_,_,_,_,_,_,_,hw=>by simp[exec] at hw
 | k+1,c,a,a',h,h',e,w,hw=>by
  cases c with
  | skip=>simp only[exec,Option.some.injEq,Prod.mk.injEq] at hw;obtain⟨-,-,rfl,-⟩:=hw;exact Olds.refl _ _
  | label _=>simp only[exec,Option.some.injEq,Prod.mk.injEq] at hw;obtain⟨-,-,rfl,-⟩:=hw;exact Olds.refl _ _
  | exit _=>simp only[exec,Option.some.injEq,Prod.mk.injEq] at hw;obtain⟨-,-,rfl,-⟩:=hw;exact Olds.refl _ _
  | ret=>simp only[exec,Option.some.injEq,Prod.mk.injEq] at hw;obtain⟨-,-,rfl,-⟩:=hw;exact Olds.refl _ _
  | seq x y =>
   simp only[exec] at hw
   split at hw
   ·cases hw
   ·rename_i e1 a1 h1 w1 hx
    have i1:=cU hC k x hx
    split at hw
    ·rw[b9] at hw;obtain⟨⟨e2,a2,h2,w2⟩,ha,ee⟩:=hw;simp only[Prod.mk.injEq] at ee;obtain⟨-,-,rfl,rfl⟩:=ee
     exact i1.trans (cU hC k y ha)
    ·simp only[Option.some.injEq,Prod.mk.injEq] at hw;obtain⟨-,-,rfl,rfl⟩:=hw;exact i1
  | cond g x y =>
   simp only[exec] at hw
   repeat' split at hw
   all_goals first
    | cases hw;done
    | exact cU hC k _ hw
  | block id b =>
   simp only[exec] at hw
   split at hw
   ·cases hw
   ·rename_i e1 a1 h1 w1 hx
    have i1:=cU hC k b hx
    repeat' split at hw
    all_goals (simp only[Option.some.injEq,Prod.mk.injEq] at hw;obtain⟨-,-,rfl,rfl⟩:=hw;exact i1)
  | loop b =>
   simp only[exec] at hw
   split at hw
   ·cases hw
   ·rename_i e1 a1 h1 w1 hx
    have i1:=cU hC k b hx
    split at hw
    ·rw[b9] at hw;obtain⟨⟨e2,a2,h2,w2⟩,ha,ee⟩:=hw;simp only[Prod.mk.injEq] at ee;obtain⟨-,-,rfl,rfl⟩:=ee
     exact i1.trans (cU hC k (.loop b) ha)
    ·simp only[Option.some.injEq,Prod.mk.injEq] at hw;obtain⟨-,-,rfl,rfl⟩:=hw;exact i1
  | region id ops d =>
   simp only[exec,mH] at hw
   repeat' split at hw
   all_goals first
    | cases hw;done
    | skip
   all_goals (rw[b9] at hw;obtain⟨⟨t2,h2,w2⟩,ha,ee⟩:=hw;simp only[Prod.mk.injEq] at ee;obtain⟨-,-,rfl,rfl⟩:=ee;first|exact qK hC ha|exact fY hC _ ha)
  | rangeFunc g ps as b=>simp only[exec] at hw;exact pK hC hw
  | _=>simp[exec] at hw
theorem iG:∀(ds:List Nat) {h h':List Blk} {w:Option Nat},aK ds h=some (h',w)→Olds h h' w
 | [],h,h',w,hw=>by
  simp only[aK,Option.some.injEq,Prod.mk.injEq] at hw
  obtain⟨rfl,-⟩:=hw
  exact Olds.refl _ _
 | n::ds,h,h',w,hw=>by
  simp only[aK] at hw
  split at hw
  ·rw[b9] at hw;obtain⟨⟨h2,w2⟩,ha,ee⟩:=hw;simp only[Prod.mk.injEq] at ee;obtain⟨rfl,rfl⟩:=ee
   exact Olds.set.trans (iG ds ha)
  ·cases hw
theorem sC(hC:COlds C){k:Nat}{f:FuncId}{args:List Value}{h h':List Blk}{v:Value}{w:Option Nat}(hw:cC C P k f args h=some (v,h',w)):Olds h h' w:=by
 unfold cC at hw
 have key:∀ {fd:Func} {a1:AS} {h1:List Blk} {w1:Option Nat},Olds h h1 w1→cW P fd h.length h a1 h1 w1=some (v,h',w)→Olds h h' w:=by
  intro fd a1 h1 w1 x hr
  unfold cW at hr
  split at hr
  ·rename_i h2 w2 ht
   have k2:=x.trans (iG _ ht)
   repeat' split at hr
   all_goals first
    | cases hr;done
    | (simp only[Option.some.injEq,Prod.mk.injEq] at hr;obtain⟨-,rfl,rfl⟩:=hr;first|exact Olds.refl _ _|exact k2|(rename_i hge;exact⟨k2.1,fun m hm _=>k2.2 m hm (vF hge (by omega))⟩))
  ·cases hr
 split at hw
 ·cases hw
 ·split at hw
  ·cases hw
  ·split at hw
   ·rename_i hx
    have i1:=cU hC k _ hx
    split at hw
    ·exact key i1 hw
    ·exact key i1 hw
    ·cases hw
   ·cases hw
theorem pB(hC:COlds C){k l:Nat}{args:List Value}{h h':List Blk}{v:Value}{w:Option Nat}(hw:gG C P k l args h=some (v,h',w)):Olds h h' w:=by
 unfold gG at hw
 have key:∀ {j:Option Code} {h1:List Blk} {w1 w2:Option Nat},Olds h h1 (wmin (some l) w1)→wmin (some l) w1=wmin (some l) w2→fJ l j h1 w2=some (v,h',w)→Olds h h' w:=by
  intro j h1 w1 w2 x ew hr
  unfold fJ at hr
  split at hr
  ·simp only[Option.some.injEq,Prod.mk.injEq] at hr
   obtain⟨-,rfl,rfl⟩:=hr
   rw[← ew]
   exact⟨by simp;exact x.1,fun m hm hw=>by
    have h1:=nY hw
    rw[vZ] at h1
    have:=of_decide_eq_true h1.1
    rw[d6 (by omega)];exact x.2 m hm hw⟩
  ·cases hr
 split at hw
 ·split at hw
  ·split at hw
   ·rename_i hx
    have i1:=cU hC k _ hx
    split at hw
    ·split at hw
     ·split at hw
      ·split at hw
       ·rename_i hy
        have i3:=i1.trans (Olds.set.trans (cU hC k _ hy))
        have e:∀(a b:Option Nat),wmin a (wmin (some l) b)=wmin (some l) (wmin a b):=by
         intro a b;cases a<;>cases b<;>simp[wmin]<;>omega
        rw[e] at i3
        split at hw
        ·exact key i3 rfl hw
        ·exact key i3 rfl hw
        ·exact key i3 rfl hw
        ·cases hw
       ·cases hw
      ·cases hw
     ·cases hw
    ·cases hw
   ·cases hw
  ·cases hw
 ·cases hw
theorem kP(k:Nat):∀ d,COlds (ctx P k d)
 | 0=>by
  refine⟨fun h=>?_,fun h=>?_⟩
  ·exact (nomatch (show none=some _ from h))
  ·exact (nomatch (show none=some _ from h))
 | d+1=>⟨fun h=>sC (kP k d) h,fun h=>pB (kP k d) h⟩
theorem zD:COlds (lim P):=by
 refine⟨fun h=>?_,fun h=>?_⟩
 ·rw[lim_call] at h
  obtain⟨N,hk⟩:=h
  exact (kP N N).call (hk N N (a9 _) (a9 _))
 ·rw[lim_round] at h
  obtain⟨N,hk⟩:=h
  exact (kP N N).round (hk N N (a9 _) (a9 _))
end
end Go.Rex
namespace Go.Rex
open Go.RowKit
section
variable {C:Ctx} {P:Program} {h0 h h':List Blk} {Fz Fz':Nat→Prop} {L L':Nat→LI} {s s':TS} {tm:List Value}
def SpecO(C:Ctx)(f:FuncId)(args:List TV)(B:List TB)(p:TV)(B':List TB):Prop:=
 ∀ h0 Fz L h vs,St h0 Fz L ⟨args,B⟩ vs h→∃ v h' wr,C.call f vs h=some (v,h',wr)∧((wr=none∧Ext h h')∨∃ nm,wr=some nm∧h0.length≤nm∧nm<h.length∧h.length≤h'.length) ∧
  (∀ n,Fz n→h'[n]?=h[n]?)∧Ext h0 h'∧(∀ F hh M,VL F hh M p v)∧∀ n b,B'[n]?=some b→BR h0.length Fz h' L n b
theorem Olds.ext{h h':List Blk}{w:Option Nat}(x:Olds h h' w)(hw:wge w h.length=true):Ext h h':=by
 refine⟨h'.drop h.length,?_⟩
 apply i7
 intro m
 by_cases hm:m<h.length
 ·rw[b4 hm,x.2 m hm (vF hw (by omega))]
 ·rw[b7 (by omega),g7]
  congr 1;omega
def dA:TB→Bool
 | .rows ..=>true
 | .var row=>row.all (lf 4)
 | _=>false
theorem mM{b:TB}(h:dA b=true):b.live=true:=by cases b with|rows es rows=>rfl|var row=>rfl|_=>cases h
theorem BR.move{lo n:Nat}{b:TB}(hb:BR lo Fz h L n b)(hc:qY b=true)(hr:b.live=true→dA b=true)(hL:L' n=L n∨(∃ row,b = .var row)∧(L' n).ok=true∧(L' n).nm=(L n).nm)(hn:∀ nm,(L n).nm=some nm→¬ Fz nm→¬ Fz' nm∧h'[nm]?=h[nm]?):BR lo Fz' h' L' n b:=by
 cases b with
 | dead=>trivial
 | tbl row=>cases hr rfl
 | var row =>
  obtain⟨q1,nm,cs,e1,e2,e3,e4,e5⟩:=hb
  obtain⟨k1,k2⟩:(L' n).ok=true∧(L' n).nm=(L n).nm:=by
   rcases hL with hL|⟨-,k1,k2⟩
   ·rw[hL];exact⟨q1,rfl⟩
   ·exact⟨k1,k2⟩
  obtain⟨a1,a2⟩:=hn nm e1 e3
  have hl:row.all (lf 4)=true:=hr rfl
  have hc:row.all (cl 4)=true:=hc
  refine⟨k1,nm,cs,k2.trans e1,e2,a1,a2.trans e4,e5.len,fun i p x hp hx=>?_⟩
  exact VL.toNo (L:=L) 4 (a8.1 hl p (b6 hp)) (VL.ofCl 4 (a8.1 hc p (b6 hp)) (e5.at' i p x hp hx))
 | rows es rows =>
  have hL:L' n=L n:=by
   rcases hL with hL|⟨⟨row,e⟩,-⟩
   ·exact hL
   ·cases e
  obtain⟨q1,q2,q3,q4,q5⟩:=hb
  unfold BR
  rw[hL]
  refine⟨q1,q2,q3,q4,?_⟩
  rcases q5 with q5|⟨nm,cs,e1,e2,e3,e4,e5⟩
  ·exact .inl q5
  ·obtain⟨a1,a2⟩:=hn nm e1 e3
   refine .inr ⟨nm,cs,e1,e2,a1,a2.trans e4,e5.len,fun i p x hp hx=>VL.ofCl 4 ?_ (e5.at' i p x hp hx)⟩
   have hm:=b6 hp
   simp only[List.mem_flatten] at hm
   obtain⟨r,hr,hpr⟩:=hm
   simp only[qY] at hc
   exact a8.1 (a8.1 hc r hr) p hpr
theorem BR.seat{lo k j:Nat}{b:TB}(hb:BR lo Fz h L k b)(hr:b.live=true→dA b=true)(e:L' j=L k):BR lo Fz h L' j b:=by
 cases b with
 | dead=>trivial
 | tbl row=>cases hr rfl
 | var row =>
  have hl:row.all (lf 4)=true:=hr rfl
  obtain⟨q1,nm,cs,e1,e2,e3,e4,e5⟩:=hb
  exact⟨by rw[e];exact q1,nm,cs,by rw[e];exact e1,e2,e3,e4,e5.len,fun i p x hp hx=>VL.toNo (L:=L) 4 (a8.1 hl p (b6 hp)) (e5.at' i p x hp hx)⟩
 | rows es rows=>unfold BR at hb ⊢;rw[e];exact hb
def sA(B:List TB)(n:Nat):Bool:=match B[n]? with
 | some (.var _)=>true
 | _=>false
def stays(args:List TV)(B:List TB)(c:Code)(tm:List TV)(n:Nat):Bool:=(List.range args.length).any fun i=>match args[i]?,tm[i]? with
 | some (.lsl m 0 _),some (.lsl m' 0 _)=>m==n&&m'==n&&!(cdsts c).contains i
 | some (.lptr m 0 0),some (.lptr m' 0 0)=>m==n&&m'==n&&sA B n&&!(cdsts c).contains i
 | _,_=>false
theorem Bi{n len len2 nm:Nat}{x:Value}(h1:VL Fz h L (.lsl n 0 len) x)(h2:VL Fz' h' L' (.lsl n 0 len2) x)(hm:(L n).nm=some nm):(L' n).nm=(L n).nm:=by
 cases h1 with
 | lslnil _ _ ok hn=>rw[hn] at hm;cases hm
 | lsl _ _ _ _ nm ok hn hle =>
  generalize hx:Value.slice (some ⟨nm,0*(L n).es,none⟩) len ((L n).tot-0)=x at h2
  cases h2 with
  | lslnil=>cases hx
  | lsl _ _ _ _ nm' ok' hn' hle' =>
   injection hx with a1 a2 a3
   injection a1 with a1
   injection a1 with a1
   subst a1
   exact hn'.trans hn.symm
theorem zS{n r o r2 o2:Nat}{x:Value}(h1:VL Fz h L (.lptr n r o) x)(h2:VL Fz' h' L' (.lptr n r2 o2) x):(L' n).nm=(L n).nm:=by
 cases h1 with
 | lptr _ _ _ _ nm ok hn =>
  generalize hx:Value.pointer (some ⟨nm,r*(L n).es+o,none⟩)=x at h2
  cases h2 with
  | lptr _ _ _ _ nm' ok' hn' =>
   injection hx with a1
   injection a1 with a1
   injection a1 with a1
   subst a1
   exact hn'.trans hn.symm
theorem yF{n len len2:Nat}{x:Value}{b b':TB}{es es':Nat}{rows rows':List (List TV)}(h1:VL Fz h L (.lsl n 0 len) x)(h2:VL Fz' h' L' (.lsl n 0 len2) x)(eb:b = .rows es rows)(eb':b' = .rows es' rows')(hb:BR h0.length Fz h L n b)(hb':BR h0.length Fz' h' L' n b')(he:es=es'):L' n=L n:=by
 subst eb eb' he
 obtain⟨q1,q2,q3,q4,q5⟩:=hb
 obtain⟨r1,r2,r3,r4,r5⟩:=hb'
 have key:(L' n).nm=(L n).nm∧(L' n).tot=(L n).tot:=by
  cases h1 with
  | lslnil _ _ ok hn =>
   cases h2 with
   | lslnil _ _ ok' hn' =>
    refine⟨hn'.trans hn.symm,?_⟩
    rcases q5 with q5|⟨nm,cs,e1,_⟩
    ·rcases r5 with r5|⟨nm,cs,e1,_⟩
     ·rw[q3,r3,q5.2,r5.2]
     ·rw[hn'] at e1;cases e1
    ·rw[hn] at e1;cases e1
  | lsl _ _ _ _ nm ok hn hle =>
   generalize hx:Value.slice (some ⟨nm,0*(L n).es,none⟩) len ((L n).tot-0)=x at h2
   cases h2 with
   | lslnil=>cases hx
   | lsl _ _ _ _ nm' ok' hn' hle' =>
    injection hx with a1 a2 a3
    injection a1 with a1
    injection a1 with a1
    subst a1
    exact⟨hn'.trans hn.symm,by omega⟩
 have:∀ a b:LI,a.ok=b.ok→a.nm=b.nm→a.es=b.es→a.tot=b.tot→a=b:=by
  rintro⟨_,_,_,_⟩ ⟨_,_,_,_⟩ rfl rfl rfl rfl;rfl
 exact this _ _ (r1.trans q1.symm) key.1 (r2.trans q2.symm) key.2
def zQ:TB→TB→Bool
 | .rows es _,.rows es' _=>es==es'
 | .var _,.var _=>true
 | _,_=>false
theorem SpecO.fn{f:FuncId}{fd:Func}{c:Code}{args:List TV}{B B':List TB}{p:TV}(hf:P.funcs[f]?=some fd)(hb:fd.body=some c)(hnr:cS c=true){tm0:List TV}(htm:args++List.replicate (fd.ntmps-args.length) TV.Z=tm0)
 (hx:TX (lim P) P c ⟨tm0,B⟩ (fun e s=>(e = .normal∨e = .ret)∧∃ ps,eL P s.hp s.tm fd.results.toList=some ps∧yW ps=p∧s.hp.take B.length=B'∧(List.range B.length).all (stays args B c s.tm)=true))
 (hp:lf 4 p=true) (hpc:cl 4 p=true) (hir:B'.all dA=true) (hcl:B'.all qY=true) (hlen:B'.length=B.length) (hes:∀(n:Nat) (b b':TB),B[n]?=some b→B'[n]?=some b'→zQ b b'=true):SpecO (lim P) f args B p B':=by
 intro h0 Fz L h vs hs0
 subst htm
 have hargs:=hs0.tmr
 have hs:St h0 Fz L ⟨args++List.replicate (fd.ntmps-args.length) TV.Z,B⟩ (vs++List.replicate (fd.ntmps-vs.length) undef) h:=by
  refine⟨?_,hs0.blk,hs0.dom,hs0.inj,hs0.fz,hs0.ext⟩
  refine VLs.append hargs ?_
  rw[show args.length=vs.length from hargs.len.symm]
  exact VLs.replicate (.Z L undef) _
 obtain⟨K,e,a1,h1,w1,hexec,hw,hdf,s1,F1,L1,⟨he,ps,hps,hpp,htake,hst⟩,g1,hs1⟩:=hx h0 Fz L _ h hs
 obtain⟨vs1,hres,hvs1⟩:=eM (P:=P) hs1 _ ps hps
 have hv1:VL F1 h1 L1 p (bR vs1):=hpp ▸ wD hvs1
 have hv:∀ F hh M,VL F hh M p (bR vs1):=fun F hh M=>VL.toNo (L:=L1) 4 hp (hv1.ofCl 4 hpc)
 have hold:=cU zD K c hexec
 have hat:∀ n b',B'[n]?=some b'→n<B.length∧s1.hp[n]?=some b':=fun n b' hb'=>by
  have hl:=(a7.1 hb').1
  rw[hlen] at hl
  rw[← htake,i0,b8 hl] at hb'
  exact⟨hl,hb'⟩
 have hL:∀ n b',B'[n]?=some b'→(∃ es' rows',b' = .rows es' rows'∧L1 n=L n)∨(∃ row',b' = .var row')∧(L n).ok=true∧(L1 n).nm=(L n).nm:=by
  intro n b' hb'
  obtain⟨hn,hb1⟩:=hat n b' hb'
  have hbn:B[n]?=some B[n]:=b5 hn
  have hee:=hes n _ b' hbn hb'
  have hsn:=a8.1 hst n (by simpa using hn)
  unfold stays at hsn
  obtain⟨i,hi,hii⟩:=List.any_eq_true.1 hsn
  have hilt:i<args.length:=by simpa using hi
  have hivs:i<vs.length:=by rw[show vs.length=args.length from hargs.len];exact hilt
  have e0:(vs++List.replicate (fd.ntmps-vs.length) undef)[i]?=some vs[i]:=by rw[b4 hivs];exact b5 hivs
  have hsl:(cdsts c).contains i=false→a1.tm[i]?=some vs[i]:=fun hc=>(dE K c hexec hnr (fun hm=>by
   have:=List.elem_eq_true_of_mem hm
   rw[List.contains_eq_mem] at hc
   simp[hm] at hc)).trans e0
  have hBn:=hs.blk n _ hbn
  generalize hBe:B[n]=b at hbn hee hBn
  split at hii
  ·rename_i m len m' len' ha ht
   simp only[Bool.and_eq_true,beq_iff_eq,Bool.not_eq_true'] at hii
   obtain⟨⟨e1,e2⟩,hc⟩:=hii
   rw[e1] at ha
   rw[e2] at ht
   have v0:VL Fz h L (.lsl n 0 len) vs[i]:=hargs.at' i _ _ ha (b5 hivs)
   have v1:VL F1 h1 L1 (.lsl n 0 len') vs[i]:=hs1.tmr.at' i _ _ ht (hsl hc)
   cases b with
   | dead=>cases hee
   | tbl _=>cases hee
   | var row =>
    cases b' with
    | dead=>cases hee
    | tbl _=>cases hee
    | rows _ _=>cases hee
    | var row' =>
     obtain⟨q1,nm,cs,q2,-⟩:=hBn
     exact .inr ⟨⟨row',rfl⟩,q1,Bi v0 v1 q2⟩
   | rows es rows =>
    cases b' with
    | dead=>cases hee
    | var _=>cases hee
    | tbl _=>cases hee
    | rows es' rows' =>
     have hee:es=es':=by simpa [zQ] using hee
     exact .inl ⟨_,_,rfl,yF v0 v1 rfl rfl hBn (hs1.blk n _ hb1) hee⟩
  ·rename_i m m' ha ht
   simp only[Bool.and_eq_true,beq_iff_eq,Bool.not_eq_true'] at hii
   obtain⟨⟨⟨e1,e2⟩,hv⟩,hc⟩:=hii
   rw[e1] at ha
   rw[e2] at ht
   have v0:VL Fz h L (.lptr n 0 0) vs[i]:=hargs.at' i _ _ ha (b5 hivs)
   have v1:VL F1 h1 L1 (.lptr n 0 0) vs[i]:=hs1.tmr.at' i _ _ ht (hsl hc)
   unfold sA at hv
   rw[hbn] at hv
   cases b with
   | dead=>cases hv
   | tbl _=>cases hv
   | rows _ _=>cases hv
   | var row =>
    cases b' with
    | dead=>cases hee
    | tbl _=>cases hee
    | rows _ _=>cases hee
    | var row'=>exact .inr ⟨⟨row',rfl⟩,hBn.1,zS v0 v1⟩
  ·cases hii
 have hBR:∀ h2:List Blk,(∀ nm,nm<h.length→(∃ n b',B'[n]?=some b'∧(L n).nm=some nm)→h2[nm]?=h1[nm]?)→∀ n b,B'[n]?=some b→BR h0.length Fz h2 L n b:=by
  intro h2 hh n b' hb'
  obtain⟨hn,hb1⟩:=hat n b' hb'
  have hbn:B[n]?=some B[n]:=b5 hn
  have hnm:(L1 n).nm=(L n).nm:=by
   rcases hL n b' hb' with⟨_,_,_,e⟩|⟨-,-,e⟩
   ·rw[e]
   ·exact e
  have hlv:B[n].live=true:=by
   have:=hes n _ b' hbn hb'
   generalize B[n]=b at *
   cases b with
   | dead=>cases this
   | _=>rfl
  refine BR.move (hs1.blk n _ hb1) (a8.1 hcl _ (b6 hb')) (fun _=>a8.1 hir _ (b6 hb')) ?_ (fun nm e1 e2=>?_)
  ·rcases hL n b' hb' with⟨_,_,_,e⟩|⟨e,e1,e2⟩
   ·exact .inl e.symm
   ·exact .inr ⟨e,e1,e2.symm⟩
  ·rw[hnm] at e1
   exact⟨fun hF=>e2 (g1.fz nm hF),hh nm (hs.lowB n _ nm hbn hlv e1).1 ⟨n,_,hb',e1⟩⟩
 have hm:wmin w1 none=w1:=by cases w1<;>rfl
 by_cases hg:wge w1 h.length=true
 ·by_cases hcc:aP (bR vs1)=true
  ·refine⟨bR vs1,h,none,eR (K:=K) ?_,.inl ⟨rfl,Ext.refl _⟩,fun _ _=>rfl,hs.ext,hv,hBR h (fun nm hl _=>(hold.2 nm hl (vF hg (by omega))).symm)⟩
   unfold cC
   simp only[hf,hb,hexec]
   have hend:cW P fd h.length h a1 h1 w1=some (bR vs1,h,none):=by
    simp only[cW,hdf,aK,hres,hcc,if_true,hm,hg]
   rcases he with rfl|rfl<;>exact hend
  ·refine⟨bR vs1,h1,none,eR (K:=K) ?_,.inl ⟨rfl,hold.ext hg⟩,g1.same,hs1.ext,hv,hBR h1 (fun nm _ _=>rfl)⟩
   unfold cC
   simp only[hf,hb,hexec]
   have hend:cW P fd h.length h a1 h1 w1=some (bR vs1,h1,none):=by
    simp[cW,hdf,aK,hres,hcc,hm,hg]
   rcases he with rfl|rfl<;>exact hend
 ·obtain ⟨nm, rfl, hlt⟩ : ∃ nm, w1 = some nm ∧ nm < h.length := by
    cases w1 with
    | none=>exact absurd rfl hg
    | some nm=>rw[vZ] at hg;exact⟨nm,rfl,by simpa using hg⟩
  refine⟨bR vs1,h1,some nm,eR (K:=K) ?_,.inr ⟨nm,rfl,by rw[vZ] at hw;simpa using hw,hlt,hold.1⟩,g1.same,hs1.ext,hv,hBR h1 (fun nm _ _=>rfl)⟩
  unfold cC
  simp only[hf,hb,hexec]
  have hend:cW P fd h.length h a1 h1 (some nm)=some (bR vs1,h1,some nm):=by
   have hg':wge (some nm) h.length=false:=by simpa using hg
   by_cases hcc:aP (bR vs1)=true<;>simp[cW,hdf,aK,hres,hcc,hm,hg']
  rcases he with rfl|rfl<;>exact hend
end
end Go.Rex
