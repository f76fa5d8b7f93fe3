/- An executor of the program's functions on trees of values,proved sound. -/
import Derived.Test.YtbodidihhbejmaaRexG8
import Derived.KernelRfl
import Derived.Test.YtbodidihhbejmaaRexG7
set_option linter.unusedSimpArgs false
set_option linter.unusedVariables false
set_option linter.defProp false
namespace Go.Rex
open Go.RowKit
section
inductive RN (fl:List (Option Nat)):TV→TV→Prop
 | Z {p:TV}:RN fl p .Z
 | keep {p q:TV} (e:p=q) (h:lf 4 q=true):RN fl p q
 | lsl {n o len j len':Nat} (h:fl[j]?=some (some n)) (e:len=len'):RN fl (.lsl n o len) (.lsl j o len')
 | lptr {n r o j:Nat} (h:fl[j]?=some (some n)):RN fl (.lptr n r o) (.lptr j r o)
 | nil {j:Nat} (h:fl[j]?=some none):RN fl (.v (.slice none 0 0)) (.lsl j 0 0)
 | nl {es:Nat}:RN fl (.v (.slice none 0 0)) (.list es [])
 | agg {l l':List TV} (hl:l'.length=l.length) (h:∀(i:Nat) p q,l[i]?=some p→l'[i]?=some q→RN fl p q):RN fl (.agg l) (.agg l')
 | tuple {l l':List TV} (hl:l'.length=l.length) (h:∀(i:Nat) p q,l[i]?=some p→l'[i]?=some q→RN fl p q):RN fl (.tuple l) (.tuple l')
structure RNs(fl:List (Option Nat))(l l':List TV):Prop where
 len:l'.length=l.length
 at':∀(i:Nat) p q,l[i]?=some p→l'[i]?=some q→RN fl p q
theorem RNs.nil{fl:List (Option Nat)}:RNs fl [] []:=⟨rfl,fun i p q h=>by simp at h⟩
theorem RNs.cons{fl:List (Option Nat)}{p q:TV}{l l':List TV}(h:RN fl p q)(hs:RNs fl l l'):RNs fl (p::l) (q::l'):=by
 refine⟨by simp[hs.len],fun i p q hp hq=>?_⟩
 cases i with
 | zero=>simp at hp hq;subst hp hq;exact h
 | succ i=>simp at hp hq;exact hs.at' i _ _ hp hq
theorem RN.agg'{fl:List (Option Nat)}{l l':List TV}(h:RNs fl l l'):RN fl (.agg l) (.agg l'):=.agg h.len h.at'
theorem RN.tuple'{fl:List (Option Nat)}{l l':List TV}(h:RNs fl l l'):RN fl (.tuple l) (.tuple l'):=.tuple h.len h.at'
variable {Fz:Nat→Prop} {h:List Blk} {L L':Nat→LI}
theorem RN.vl{fl:List (Option Nat)}(hL:∀ j n,fl[j]?=some (some n)→L' j=L n)(hV:∀ j,fl[j]?=some none→(L' j).ok=true∧(L' j).nm=none){p q:TV}(hr:RN fl p q):∀ {x:Value},VL Fz h L p x→VL Fz h L' q x:=by
 induction hr with
 | Z=>intro x _;exact .Z L' x
 | keep e hl=>intro x hp;subst e;exact VL.toNo 4 hl hp
 | lsl hj e =>
  intro x hp
  subst e
  have e:=hL _ _ hj
  cases hp with
  | lslnil _ _ ok hn=>rw[← e] at ok hn;exact .lslnil L' _ ok hn
  | lsl _ _ _ _ nm ok hn hle=>rw[← e] at ok hn hle ⊢;exact .lsl L' _ _ _ nm ok hn hle
 | lptr hj =>
  intro x hp
  have e:=hL _ _ hj
  cases hp with
  | lptr _ _ _ _ nm ok hn=>rw[← e] at ok hn ⊢;exact .lptr L' _ _ _ nm ok hn
 | nil hj =>
  intro x hp
  obtain rfl:=hp.bool_inv
  exact .lslnil L' _ (hV _ hj).1 (hV _ hj).2
 | nl =>
  intro x hp
  obtain rfl:=hp.bool_inv
  exact .nillist L' _
 | @agg l l' hl hh ih =>
  intro x hp
  cases hp with
  | agg _ _ l2 hl2 ha =>
   refine .agg L' l' l2 (by omega) fun i p y h1 h2=>?_
   have hlt:=(List.getElem?_eq_some_iff.1 h1).1
   have h0:l[i]?=some l[i]:=List.getElem?_eq_getElem (by omega)
   exact ih i _ _ h0 h1 (ha i _ _ h0 h2)
 | @tuple l l' hl hh ih =>
  intro x hp
  cases hp with
  | tuple _ _ l2 hl2 ha =>
   refine .tuple L' l' l2 (by omega) fun i p y h1 h2=>?_
   have hlt:=(List.getElem?_eq_some_iff.1 h1).1
   have h0:l[i]?=some l[i]:=List.getElem?_eq_getElem (by omega)
   exact ih i _ _ h0 h1 (ha i _ _ h0 h2)
def sM:List (Option Nat)→Bool
 | []=>true
 | none::l=>sM l
 | some n::l=>l.all (fun x=>x != some n)&&sM l
theorem rP:∀ {fl:List (Option Nat)},sM fl=true→∀(i j n:Nat),fl[i]?=some (some n)→fl[j]?=some (some n)→i=j
 | [],_,i,j,n,h,_=>by simp at h
 | none::l,hr,i,j,n,h1,h2=>by
  cases i with
  | zero=>simp at h1
  | succ i=>cases j with
   | zero=>simp at h2
   | succ j=>rw[rP (fl:=l) (by simpa [sM] using hr) i j n (by simpa using h1) (by simpa using h2)]
 | some m::l,hr,i,j,n,h1,h2=>by
  simp only[sM,Bool.and_eq_true] at hr
  have hne:∀ k,l[k]?≠some (some m):=fun k hk=>by
   have:=List.all_eq_true.1 hr.1 _ (List.mem_of_getElem? hk)
   simp at this
  cases i with
  | zero=>cases j with
   | zero=>rfl
   | succ j=>simp at h1;subst h1;exact absurd (by simpa using h2) (hne j)
  | succ i=>cases j with
   | zero=>simp at h2;subst h2;exact absurd (by simpa using h1) (hne i)
   | succ j=>rw[rP (fl:=l) hr.2 i j n (by simpa using h1) (by simpa using h2)]
inductive RB (fl:List (Option Nat)) (hp:List TB):List TB→List (Option Nat)→Prop
 | nil:RB fl hp [] []
 | virt {es:Nat} {hp':List TB} {l:List (Option Nat)} (h:RB fl hp hp' l):RB fl hp (.rows es []::hp') (none::l)
 | rows {n es:Nat} {rows rows':List (List TV)} {hp':List TB} {l:List (Option Nat)} (h:RB fl hp hp' l) (hb:hp[n]?=some (.rows es rows)) (e:rows=rows'):RB fl hp (.rows es rows'::hp') (some n::l)
 | var {n:Nat} {row row':List TV} {hp':List TB} {l:List (Option Nat)} (h:RB fl hp hp' l) (hb:hp[n]?=some (.var row)) (hr:RNs fl row row'):RB fl hp (.var row'::hp') (some n::l)
theorem RB.at{fl:List (Option Nat)}{hp hp':List TB}{l:List (Option Nat)}(hb:RB fl hp hp' l):hp'.length=l.length∧∀(j:Nat) (b:TB),hp'[j]?=some b→(l[j]?=some none∧∃ es,b = .rows es [])∨∃ n,l[j]?=some (some n)∧((∃ es rows,b = .rows es rows∧hp[n]?=some b)∨∃ row row',b = .var row'∧hp[n]?=some (.var row)∧RNs fl row row'):=by
 induction hb with
 | nil=>exact⟨rfl,fun j b h=>by simp at h⟩
 | virt h ih =>
  refine⟨by simp[ih.1],fun j b hj=>?_⟩
  cases j with
  | zero=>simp at hj;subst hj;exact .inl ⟨rfl,_,rfl⟩
  | succ j=>exact ih.2 j b (by simpa using hj)
 | rows h hb e ih =>
  subst e
  refine⟨by simp[ih.1],fun j b hj=>?_⟩
  cases j with
  | zero=>simp at hj;subst hj;exact .inr ⟨_,rfl,.inl ⟨_,_,rfl,hb⟩⟩
  | succ j=>exact ih.2 j b (by simpa using hj)
 | var h hb hr ih =>
  refine⟨by simp[ih.1],fun j b hj=>?_⟩
  cases j with
  | zero=>simp at hj;subst hj;exact .inr ⟨_,rfl,.inr ⟨_,_,rfl,hb,hr⟩⟩
  | succ j=>exact ih.2 j b (by simpa using hj)
theorem Wk.ren{tm tm':List TV}{hp hp':List TB}(fl:List (Option Nat))(hok:sM fl=true)(hB:RB fl hp hp' fl)(hT:RNs fl tm tm'):Wk ⟨tm,hp⟩ ⟨tm',hp'⟩:=by
 intro h0 Fz L vm h hs
 obtain⟨hlen,hat⟩:=hB.at
 have esOf':∀ j:Nat,∃ es:Nat,fl[j]?=some none→hp'[j]?=some (TB.rows es []):=by
  intro j
  cases hb:hp'[j]? with
  | none =>
   refine⟨0,fun hf=>?_⟩
   have h1:=(List.getElem?_eq_some_iff.1 hf).1
   rw[List.getElem?_eq_none_iff] at hb
   omega
  | some b =>
   rcases hat j b hb with⟨_,es,rfl⟩|⟨n,h1,_⟩
   ·exact⟨es,fun _=>rfl⟩
   ·exact⟨0,fun hf=>by rw[h1] at hf;cases hf⟩
 let es:Nat→Nat:=fun j=>Classical.choose (esOf' j)
 have hes:∀ j:Nat,fl[j]?=some none→hp'[j]?=some (TB.rows (es j) []):=fun j=>Classical.choose_spec (esOf' j)
 let L':Nat→LI:=fun j=>match fl[j]? with
  | some (some n)=>L n
  | some none=>⟨true,none,es j,0⟩
  | none=>⟨false,none,0,0⟩
 have hL:∀ j n:Nat,fl[j]?=some (some n)→L' j=L n:=fun j n hj=>by simp only[L',hj]
 have hV':∀ j:Nat,fl[j]?=some none→L' j=⟨true,none,es j,0⟩:=fun j hj=>by simp only[L',hj]
 have hV:∀ j:Nat,fl[j]?=some none→(L' j).ok=true∧(L' j).nm=none:=fun j hj=>by rw[hV' j hj];exact⟨rfl,rfl⟩
 have hN:∀ j:Nat,fl[j]?=none→(L' j).ok=false:=fun j hj=>by simp only[L',hj]
 clear_value L'
 have hmap:∀(l l':List TV) (x:List Value),RNs fl l l'→VLs Fz h L l x→VLs Fz h L' l' x:=by
  intro l l' x hr hx
  refine⟨by have:=hr.len;have:=hx.len;omega,fun i q y hq hy=>?_⟩
  have hlt:=(List.getElem?_eq_some_iff.1 hq).1
  have hll:=hr.len
  have h0:l[i]?=some l[i]:=List.getElem?_eq_getElem (by omega)
  exact (hr.at' i _ _ h0 hq).vl hL hV (hx.at' i _ _ h0 hy)
 refine⟨Fz,L',Grow.refl _ _,⟨hmap _ _ _ hT hs.tmr,?_,?_,?_,hs.fz,hs.ext⟩⟩
 ·intro j b hb
  rcases hat j b hb with⟨hj,es',rfl⟩|⟨n,hj,h1⟩
  ·have:=hes j hj
   rw[hb] at this
   injection this with this
   injection this with this _
   refine⟨(hV j hj).1,by rw[hV' j hj];exact this.symm,by rw[hV' j hj];rfl,by simp,.inl ⟨(hV j hj).2,rfl⟩⟩
  ·rcases h1 with⟨es',rows,rfl,hn⟩|⟨row,row',rfl,hn,hr⟩
   ·have:=hs.blk n _ hn
    unfold BR at this ⊢
    rw[hL j n hj]
    exact this
   ·obtain⟨q1,nm,cs,e1,e2,e3,e4,e5⟩:=hs.blk n _ hn
    unfold BR
    rw[hL j n hj]
    exact⟨q1,nm,cs,e1,e2,e3,e4,hmap _ _ _ hr e5⟩
 ·intro j hj
  show j<hp'.length
  rcases Nat.lt_or_ge j fl.length with hlt|hge
  ·omega
  ·rw[hN j (List.getElem?_eq_none_iff.2 hge)] at hj;cases hj
 ·intro j j' b b' nm hb hb' l1 l2 e1 e2
  have f:∀(j:Nat) (b:TB),hp'[j]?=some b→b.live=true→(L' j).nm=some nm→∃(n:Nat) (b0:TB),fl[j]?=some (some n)∧hp[n]?=some b0∧b0.live=true∧(L n).nm=some nm:=by
   intro j b hb hl he
   rcases hat j b hb with⟨hj,es',rfl⟩|⟨n,hj,h1⟩
   ·rw[(hV j hj).2] at he;cases he
   ·rw[hL j n hj] at he
    rcases h1 with⟨es',rows,rfl,hn⟩|⟨row,row',rfl,hn,hr⟩
    ·exact⟨n,_,hj,hn,rfl,he⟩
    ·exact⟨n,_,hj,hn,rfl,he⟩
  obtain⟨n,b0,g1,g2,g3,g4⟩:=f j b hb l1 e1
  obtain⟨n',b0',k1,k2,k3,k4⟩:=f j' b' hb' l2 e2
  obtain rfl:=hs.inj n n' b0 b0' nm g2 k2 g3 k3 g4 k4
  exact rP hok j j' n g1 k1
end
section
variable {C:Ctx} {P:Program} {ops:Array Oper} {rest:List Oper} {tm tm2:List TV} {hp hp2:List TB} {Q:TS→Prop} {o:Oper}
variable {dst:Option Tmp} {ty:TypeId} {pos:String} {aft:Array Edge} {gd:Option (Nat×Bool)}
def bR{α:Type}(xs:List α)(i:Int):Option α:=if 0≤i then xs[i.toNat]? else none
def mkI{α:Type}(bytes:Nat)(n:Int)(z:α):Option (List α):=if 0≤n∧n<2^63∧(bytes:Int)*n≤2^48 then some (List.replicate n.toNat z) else none
def iP{α:Type}(bytes:Nat)(xs ys:List α):Option (List α):=if xs.length+ys.length≤2^40∧(xs.length+ys.length)*bytes≤140737488355328 then some (xs++ys) else none
theorem cV{α:Type}{xs:List α}{i:Int}{x:α}(h:bR xs i=some x):0≤i∧i<xs.length:=by
 unfold bR at h
 split at h
 ·have:=(List.getElem?_eq_some_iff.1 h).1;omega
 ·cases h
theorem dE{α:Type}{xs:List α}{i:Int}{x:α}(h:bR xs i=some x):xs[i.toNat]?=some x:=by
 unfold bR at h
 split at h
 ·exact h
 ·cases h
theorem cR{α:Type}{xs:List α}{f:α→List TV}{i:Int}{x:α}(h:bR xs i=some x):tidx (xs.map f) i=some (f x):=by
 unfold tidx
 rw[if_pos (cV h).1,List.getElem?_map,dE h]
 rfl
theorem TO.pop1{p:TV}(hw:twant ops tm o=some true)(hv:tpop P hp tm o=some p)(ht:tput tm o.dst p=tm2)(hq:TO C P ops rest ⟨tm2,hp⟩ Q):TO C P ops (o::rest) ⟨tm,hp⟩ Q:=by
 subst ht;exact TO.p hw (OpP.of hv) hq
theorem TO.skip1(hw:twant ops tm o=some false)(ht:tput tm o.dst (.tuple [])=tm2)(hq:TO C P ops rest ⟨tm2,hp⟩ Q):TO C P ops (o::rest) ⟨tm,hp⟩ Q:=by
 subst ht;exact TO.skip hw hq
variable {ms:List Nat} {i:Nat} {np:List Nat} {c:Nat}
theorem TD.pop1{p:TV}(hw:twant ops tm o=some true)(hv:tpop P hp tm o=some p)(ht:tput tm o.dst p=tm2)(hq:TD C P ops ms rest (i+1) np c ⟨tm2,hp⟩ Q):TD C P ops ms (o::rest) i np c ⟨tm,hp⟩ Q:=by
 subst ht;exact TD.p hw (OpP.of hv) hq
theorem TD.skip1(hw:twant ops tm o=some false)(ht:tput tm o.dst (.tuple [])=tm2)(hq:TD C P ops ms rest (i+1) np c ⟨tm2,hp⟩ Q):TD C P ops ms (o::rest) i np c ⟨tm,hp⟩ Q:=by
 subst ht;exact TD.skip hw hq
theorem TX.loopE{σ ε:Type}{b:Code}{step:σ→Option (σ ⊕ ε)}{x:σ}{e:ε}{Q:Exit→TS→Prop}(hr:run step x=some e)(I:σ→TS)(J:ε→Exit×TS)
 (hB:∀ x y,step x=some y→TX C P b (I x) (fun ex st=>match y with|.inl x'=>ex = .normal∧Wk st (I x')|.inr e=>ex=(J e).1∧Wk st (J e).2)) (hne:∀ e,(J e).1 ≠ .normal) (hq:Q (J e).1 (J e).2) {s:TS} (hw:Wk s (I x)):TX C P (.loop b) s Q:=by
 refine TX.weak hw (TX.post ((TX.loop hr I (fun e ex st=>ex=(J e).1∧Wk st (J e).2) (fun x x' h=>hB x _ h) (fun x e h=>?_)).mono ?_))
 ·exact (hB x _ h).mono fun ex st hh=>⟨by rw[hh.1];exact hne e,hh⟩
 ·rintro ex st ⟨rfl,hh⟩
  exact⟨_,hh,hq⟩
end
end Go.Rex
namespace Go.Rex
open Go.RowKit
section
variable {C:Ctx} {P:Program} {ops:Array Oper} {rest:List Oper} {tm tm2:List TV} {hp hp2:List TB} {Q:TS→Prop} {o:Oper}
variable {dst:Option Tmp} {ty:TypeId} {pos:String} {aft:Array Edge} {gd:Option (Nat×Bool)} {p q:TV} {ms:List Nat} {i:Nat} {np:List Nat} {c:Nat}
theorem TO.mv{x:Operand}(hw:twant ops tm { dst:=dst,op:=.move x,type:=ty,pos:=pos,after:=aft,guard:=gd }=some true)(hv:tev tm x=p)(ht:tput tm dst p=tm2)(hq:TO C P ops rest ⟨tm2,hp⟩ Q):TO C P ops ({ dst:=dst,op:=.move x,type:=ty,pos:=pos,after:=aft,guard:=gd }::rest) ⟨tm,hp⟩ Q:=
 TO.pop1 hw (by subst hv;rfl) ht hq
theorem TD.mv{x:Operand}(hw:twant ops tm { dst:=dst,op:=.move x,type:=ty,pos:=pos,after:=aft,guard:=gd }=some true)(hv:tev tm x=p)(ht:tput tm dst p=tm2)(hq:TD C P ops ms rest (i+1) np c ⟨tm2,hp⟩ Q):TD C P ops ms ({ dst:=dst,op:=.move x,type:=ty,pos:=pos,after:=aft,guard:=gd }::rest) i np c ⟨tm,hp⟩ Q:=
 TD.pop1 hw (by subst hv;rfl) ht hq
theorem TO.asg{x:Operand}(hw:twant ops tm { dst:=dst,op:=.assign x,type:=ty,pos:=pos,after:=aft,guard:=gd }=some true)(hv:tev tm x=p)(ht:tput tm dst p=tm2)(hq:TO C P ops rest ⟨tm2,hp⟩ Q):TO C P ops ({ dst:=dst,op:=.assign x,type:=ty,pos:=pos,after:=aft,guard:=gd }::rest) ⟨tm,hp⟩ Q:=
 TO.pop1 hw (by subst hv;rfl) ht hq
theorem TD.asg{x:Operand}(hw:twant ops tm { dst:=dst,op:=.assign x,type:=ty,pos:=pos,after:=aft,guard:=gd }=some true)(hv:tev tm x=p)(ht:tput tm dst p=tm2)(hq:TD C P ops ms rest (i+1) np c ⟨tm2,hp⟩ Q):TD C P ops ms ({ dst:=dst,op:=.assign x,type:=ty,pos:=pos,after:=aft,guard:=gd }::rest) i np c ⟨tm,hp⟩ Q:=
 TD.pop1 hw (by subst hv;rfl) ht hq
theorem TO.bin{b:BinOp}{t u:TypeId}{x y:Operand}{a d r:Value}(hw:twant ops tm { dst:=dst,op:=.binOp b t x y u,type:=ty,pos:=pos,after:=aft,guard:=gd }=some true)(hx:tev tm x = .v a)(hy:tev tm y = .v d)(hv:bM b a d=some r)(ht:tput tm dst (.v r)=tm2)(hq:TO C P ops rest ⟨tm2,hp⟩ Q):TO C P ops ({ dst:=dst,op:=.binOp b t x y u,type:=ty,pos:=pos,after:=aft,guard:=gd }::rest) ⟨tm,hp⟩ Q:=
 TO.pop1 hw (by simp only[tpop,hx,hy,tbin,hv,Option.map_some,orT]) ht hq
theorem TD.bin{b:BinOp}{t u:TypeId}{x y:Operand}{a d r:Value}(hw:twant ops tm { dst:=dst,op:=.binOp b t x y u,type:=ty,pos:=pos,after:=aft,guard:=gd }=some true)(hx:tev tm x = .v a)(hy:tev tm y = .v d)(hv:bM b a d=some r)(ht:tput tm dst (.v r)=tm2)(hq:TD C P ops ms rest (i+1) np c ⟨tm2,hp⟩ Q):TD C P ops ms ({ dst:=dst,op:=.binOp b t x y u,type:=ty,pos:=pos,after:=aft,guard:=gd }::rest) i np c ⟨tm,hp⟩ Q:=
 TD.pop1 hw (by simp only[tpop,hx,hy,tbin,hv,Option.map_some,orT]) ht hq
theorem TO.ext{x:Operand}{n:Nat}{l:List TV}(hw:twant ops tm { dst:=dst,op:=.extract x n,type:=ty,pos:=pos,after:=aft,guard:=gd }=some true)(hx:tev tm x = .tuple l)(hv:l[n]?=some p)(ht:tput tm dst p=tm2)(hq:TO C P ops rest ⟨tm2,hp⟩ Q):TO C P ops ({ dst:=dst,op:=.extract x n,type:=ty,pos:=pos,after:=aft,guard:=gd }::rest) ⟨tm,hp⟩ Q:=
 TO.pop1 hw (by simp only[tpop,hx,hv]) ht hq
theorem TO.fa{t:TypeId}{x:Operand}{f:Nat}(hw:twant ops tm { dst:=dst,op:=.fieldAddr t x f,type:=ty,pos:=pos,after:=aft,guard:=gd }=some true)(hx:tev tm x=q)(hv:aK P t q f=some p)(ht:tput tm dst p=tm2)(hq:TO C P ops rest ⟨tm2,hp⟩ Q):TO C P ops ({ dst:=dst,op:=.fieldAddr t x f,type:=ty,pos:=pos,after:=aft,guard:=gd }::rest) ⟨tm,hp⟩ Q:=
 TO.pop1 hw (by simp only[tpop,hx,hv]) ht hq
theorem TD.fa{t:TypeId}{x:Operand}{f:Nat}(hw:twant ops tm { dst:=dst,op:=.fieldAddr t x f,type:=ty,pos:=pos,after:=aft,guard:=gd }=some true)(hx:tev tm x=q)(hv:aK P t q f=some p)(ht:tput tm dst p=tm2)(hq:TD C P ops ms rest (i+1) np c ⟨tm2,hp⟩ Q):TD C P ops ms ({ dst:=dst,op:=.fieldAddr t x f,type:=ty,pos:=pos,after:=aft,guard:=gd }::rest) i np c ⟨tm,hp⟩ Q:=
 TD.pop1 hw (by simp only[tpop,hx,hv]) ht hq
theorem TO.ia{t:TypeId}{x y:Operand}{q2:TV}(hw:twant ops tm { dst:=dst,op:=.indexAddr t x y,type:=ty,pos:=pos,after:=aft,guard:=gd }=some true)(hx:tev tm x=q)(hy:tev tm y=q2)(hv:aB P hp t q q2=some p)(ht:tput tm dst p=tm2)(hq:TO C P ops rest ⟨tm2,hp⟩ Q):TO C P ops ({ dst:=dst,op:=.indexAddr t x y,type:=ty,pos:=pos,after:=aft,guard:=gd }::rest) ⟨tm,hp⟩ Q:=
 TO.pop1 hw (by simp only[tpop,hx,hy,hv]) ht hq
theorem TD.ia{t:TypeId}{x y:Operand}{q2:TV}(hw:twant ops tm { dst:=dst,op:=.indexAddr t x y,type:=ty,pos:=pos,after:=aft,guard:=gd }=some true)(hx:tev tm x=q)(hy:tev tm y=q2)(hv:aB P hp t q q2=some p)(ht:tput tm dst p=tm2)(hq:TD C P ops ms rest (i+1) np c ⟨tm2,hp⟩ Q):TD C P ops ms ({ dst:=dst,op:=.indexAddr t x y,type:=ty,pos:=pos,after:=aft,guard:=gd }::rest) i np c ⟨tm,hp⟩ Q:=
 TD.pop1 hw (by simp only[tpop,hx,hy,hv]) ht hq
theorem TO.pk{x y z:Operand}(hw:twant ops tm { dst:=dst,op:=.pick x y z,type:=ty,pos:=pos,after:=aft,guard:=gd }=some true)(hv:tpick (tev tm x) (tev tm y) (tev tm z)=some p)(ht:tput tm dst p=tm2)(hq:TO C P ops rest ⟨tm2,hp⟩ Q):TO C P ops ({ dst:=dst,op:=.pick x y z,type:=ty,pos:=pos,after:=aft,guard:=gd }::rest) ⟨tm,hp⟩ Q:=
 TO.pop1 hw (by simp only[tpop,hv]) ht hq
theorem TO.len{x:Operand}{t:TypeId}{ts:List TypeId}(hw:twant ops tm { dst:=dst,op:=.call { callee:=.builtin .len,args:=#[x],argTypes:=⟨t::ts⟩ },type:=ty,pos:=pos,after:=aft,guard:=gd }=some true)(hx:tev tm x=q)(hv:tlen P (some t) q=some p)(ht:tput tm dst p=tm2)(hq:TO C P ops rest ⟨tm2,hp⟩ Q):TO C P ops ({ dst:=dst,op:=.call { callee:=.builtin .len,args:=#[x],argTypes:=⟨t::ts⟩ },type:=ty,pos:=pos,after:=aft,guard:=gd }::rest) ⟨tm,hp⟩ Q:=
 TO.pop1 hw (by simp only[tpop,if_true,hx,List.getElem?_toArray,List.getElem?_cons_zero,hv,orT]) ht hq
theorem TD.len{x:Operand}{t:TypeId}{ts:List TypeId}(hw:twant ops tm { dst:=dst,op:=.call { callee:=.builtin .len,args:=#[x],argTypes:=⟨t::ts⟩ },type:=ty,pos:=pos,after:=aft,guard:=gd }=some true)(hx:tev tm x=q)(hv:tlen P (some t) q=some p)(ht:tput tm dst p=tm2)(hq:TD C P ops ms rest (i+1) np c ⟨tm2,hp⟩ Q):TD C P ops ms ({ dst:=dst,op:=.call { callee:=.builtin .len,args:=#[x],argTypes:=⟨t::ts⟩ },type:=ty,pos:=pos,after:=aft,guard:=gd }::rest) i np c ⟨tm,hp⟩ Q:=
 TD.pop1 hw (by simp only[tpop,if_true,hx,List.getElem?_toArray,List.getElem?_cons_zero,hv,orT]) ht hq
theorem TO.bld{t:TypeId}{ps:Array (Nat×Operand)}{l:List (Nat×TV)}(hw:twant ops tm { dst:=dst,op:=.build t ps,type:=ty,pos:=pos,after:=aft,guard:=gd }=some true)(hx:ps.toList.map (fun q=>(q.1,tev tm q.2))=l)(hv:tbuild P t l=some p)(ht:tput tm dst p=tm2)(hq:TO C P ops rest ⟨tm2,hp⟩ Q):TO C P ops ({ dst:=dst,op:=.build t ps,type:=ty,pos:=pos,after:=aft,guard:=gd }::rest) ⟨tm,hp⟩ Q:=
 TO.pop1 hw (by simp only[tpop,hx,hv]) ht hq
theorem TD.bld{t:TypeId}{ps:Array (Nat×Operand)}{l:List (Nat×TV)}(hw:twant ops tm { dst:=dst,op:=.build t ps,type:=ty,pos:=pos,after:=aft,guard:=gd }=some true)(hx:ps.toList.map (fun q=>(q.1,tev tm q.2))=l)(hv:tbuild P t l=some p)(ht:tput tm dst p=tm2)(hq:TD C P ops ms rest (i+1) np c ⟨tm2,hp⟩ Q):TD C P ops ms ({ dst:=dst,op:=.build t ps,type:=ty,pos:=pos,after:=aft,guard:=gd }::rest) i np c ⟨tm,hp⟩ Q:=
 TD.pop1 hw (by simp only[tpop,hx,hv]) ht hq
theorem TO.mf{f:FuncId}{a b:Array Operand}{l1 l2:List TV}(hw:twant ops tm { dst:=dst,op:=.makeFunc (.func f) a b,type:=ty,pos:=pos,after:=aft,guard:=gd }=some true)(hx:a.toList.map (tev tm)=l1)(hy:b.toList.map (tev tm)=l2)(hv:(l1.all (lf 4)&&l2.all (lf 4))=true)(ht:tput tm dst (.func f l1 l2)=tm2)(hq:TO C P ops rest ⟨tm2,hp⟩ Q):TO C P ops ({ dst:=dst,op:=.makeFunc (.func f) a b,type:=ty,pos:=pos,after:=aft,guard:=gd }::rest) ⟨tm,hp⟩ Q:=
 TO.pop1 hw (by subst hx hy;simp only[tpop];rw[if_pos];simpa only[List.all_map,Function.comp_def] using hv) ht hq
theorem TD.mf{f:FuncId}{a b:Array Operand}{l1 l2:List TV}(hw:twant ops tm { dst:=dst,op:=.makeFunc (.func f) a b,type:=ty,pos:=pos,after:=aft,guard:=gd }=some true)(hx:a.toList.map (tev tm)=l1)(hy:b.toList.map (tev tm)=l2)(hv:(l1.all (lf 4)&&l2.all (lf 4))=true)(ht:tput tm dst (.func f l1 l2)=tm2)(hq:TD C P ops ms rest (i+1) np c ⟨tm2,hp⟩ Q):TD C P ops ms ({ dst:=dst,op:=.makeFunc (.func f) a b,type:=ty,pos:=pos,after:=aft,guard:=gd }::rest) i np c ⟨tm,hp⟩ Q:=
 TD.pop1 hw (by subst hx hy;simp only[tpop];rw[if_pos];simpa only[List.all_map,Function.comp_def] using hv) ht hq
theorem TO.ld{t:TypeId}{a:Operand}(hw:twant ops tm { dst:=dst,op:=.load t a,type:=ty,pos:=pos,after:=aft,guard:=gd }=some true)(hx:tev tm a=p)(hv:tload P hp t p=some q)(ht:tput tm dst q=tm2)(hh2:hp=hp2)(hq:TO C P ops rest ⟨tm2,hp2⟩ Q):TO C P ops ({ dst:=dst,op:=.load t a,type:=ty,pos:=pos,after:=aft,guard:=gd }::rest) ⟨tm,hp⟩ Q:=by
 subst ht hh2
 exact TO.g hw (OpG.load (by rw[show tev (TS.mk tm hp).tm a=p from hx];exact hv)) hq
theorem TD.ld{t:TypeId}{a:Operand}(hw:twant ops tm { dst:=dst,op:=.load t a,type:=ty,pos:=pos,after:=aft,guard:=gd }=some true)(hx:tev tm a=p)(hv:tload P hp t p=some q)(ht:tput tm dst q=tm2)(hh2:hp=hp2)(hq:TD C P ops ms rest (i+1) (i::np) 0 ⟨tm2,hp2⟩ Q):TD C P ops ms ({ dst:=dst,op:=.load t a,type:=ty,pos:=pos,after:=aft,guard:=gd }::rest) i np 0 ⟨tm,hp⟩ Q:=by
 subst ht hh2
 exact TD.g hw (OpG.load (by rw[show tev (TS.mk tm hp).tm a=p from hx];exact hv)) hq
theorem TO.al{e:TypeId}{z:List Value}{zt:List TV}(hw:twant ops tm { dst:=dst,op:=.alloc e,type:=ty,pos:=pos,after:=aft,guard:=gd }=some true)(hv:dX P e=some z)(hz:z.map TV.v=zt)(ht:tput tm dst (.lptr hp.length 0 0)=tm2)(hh2:(hp++[.var zt])=hp2)(hq:TO C P ops rest ⟨tm2,hp2⟩ Q):TO C P ops ({ dst:=dst,op:=.alloc e,type:=ty,pos:=pos,after:=aft,guard:=gd }::rest) ⟨tm,hp⟩ Q:=by
 subst ht hh2
 exact TO.g hw (by subst hz;exact OpG.alloc hv) hq
theorem TO.bf{e:TypeId}{x:Operand}{l:List TV}(hw:twant ops tm { dst:=dst,op:=.box e x,type:=ty,pos:=pos,after:=aft,guard:=gd }=some true)(hx:tev tm x=p)(hj:eZ p=false)(hl:tcells p=l)(hlf:l.all (lf 4)=true)(ht:tput tm dst (.fptr true l 0)=tm2)(hh2:hp=hp2)(hq:TO C P ops rest ⟨tm2,hp2⟩ Q):TO C P ops ({ dst:=dst,op:=.box e x,type:=ty,pos:=pos,after:=aft,guard:=gd }::rest) ⟨tm,hp⟩ Q:=by
 subst ht hh2
 exact TO.g hw (by subst hl;exact OpG.boxF hx hj hlf) hq
theorem TO.bs{t:TypeId}{n:Nat}{ps:Array (Nat×Operand)}{l:List (Nat×TV)}{es:Nat}{rows:List (List TV)}(hw:twant ops tm { dst:=dst,op:=.buildSlice t n ps,type:=ty,pos:=pos,after:=aft,guard:=gd }=some true)(hx:ps.toList.map (fun q=>(q.1,tev tm q.2))=l)(hv:tslice P t n l=some (es,rows))(ht:tput tm dst (.list es rows)=tm2)(hh2:hp=hp2)(hq:TO C P ops rest ⟨tm2,hp2⟩ Q):TO C P ops ({ dst:=dst,op:=.buildSlice t n ps,type:=ty,pos:=pos,after:=aft,guard:=gd }::rest) ⟨tm,hp⟩ Q:=by
 subst ht hh2
 exact TO.g hw (OpG.buildSlice (s:=⟨tm,hp⟩) (by simp only[hx];exact hv)) hq
theorem TD.bs{t:TypeId}{n:Nat}{ps:Array (Nat×Operand)}{l:List (Nat×TV)}{es:Nat}{rows:List (List TV)}(hw:twant ops tm { dst:=dst,op:=.buildSlice t n ps,type:=ty,pos:=pos,after:=aft,guard:=gd }=some true)(hx:ps.toList.map (fun q=>(q.1,tev tm q.2))=l)(hv:tslice P t n l=some (es,rows))(ht:tput tm dst (.list es rows)=tm2)(hh2:hp=hp2)(hq:TD C P ops ms rest (i+1) (i::np) 0 ⟨tm2,hp2⟩ Q):TD C P ops ms ({ dst:=dst,op:=.buildSlice t n ps,type:=ty,pos:=pos,after:=aft,guard:=gd }::rest) i np 0 ⟨tm,hp⟩ Q:=by
 subst ht hh2
 exact TD.g hw (OpG.buildSlice (s:=⟨tm,hp⟩) (by simp only[hx];exact hv)) hq
theorem Ny(hsl0:True){α:Type}{x y:Operand}{t0 t1 e:TypeId}{tys:List TypeId}{n len es:Nat}{xs ys:List α}{f:α→List TV}{z:List Value}{new:List (List TV)}{xy:List α}(hx:tev tm x = .lsl n 0 len)(hb:hp[n]?=some (.rows es (xs.map f)))(hlen:len=xs.length)(hy:tev tm y = .list es new)(hnew:new=ys.map f)(hsl:aZ P t0=some e)(hni:fU P (some t1)=true)(hz:dX P e=some z)(hes:z.length=es)(hap:iP (fT P e) xs ys=some xy)(hff:∀ a,(f a).length=es∧(f a).all tone=true∧(f a).all (lf 4)=true):OpW C P { dst:=dst,op:=.call { callee:=.builtin .append,args:=#[x,y],argTypes:=⟨t0::t1::tys⟩ },type:=ty,pos:=pos,after:=aft,guard:=gd } ⟨tm,hp⟩ ⟨tput (tm.map (kill n 4)) dst (.lsl n 0 xy.length),(hp.map (kP n)).set n (.rows es (xy.map f))⟩:=by
 unfold iP at hap
 split at hap
 ·rename_i hl
  obtain rfl:=Option.some.inj hap
  subst hnew
  have:=OpW.append (C:=C) (P:=P) (s:=⟨tm,hp⟩) (dst:=dst) (ty:=ty) (pos:=pos) (aft:=aft) (gd:=gd) (x:=x) (y:=y) (t0:=t0) (t1:=t1) (e:=e) (tys:=tys) (n:=n) (len:=len) (es:=es) (rows:=xs.map f) (new:=ys.map f) (z:=z) hx hb (by simp[hlen]) hy hsl hni hz hes (by simpa [Nt] using hl)
   (fun r hr=>by obtain⟨a,_,rfl⟩:=List.mem_map.1 hr;exact (hff a).1) (fun r hr=>by obtain⟨a,_,rfl⟩:=List.mem_map.1 hr;exact (hff a).2.1) (fun r hr=>by obtain⟨a,_,rfl⟩:=List.mem_map.1 hr;exact (hff a).2.2)
  simpa using this
 ·cases hap
theorem TO.ap{α:Type}{x y:Operand}{t0 t1 e:TypeId}{tys:List TypeId}{n len es:Nat}{xs ys:List α}{f:α→List TV}{z:List Value}{new:List (List TV)}{xy:List α}(hw:twant ops tm { dst:=dst,op:=.call { callee:=.builtin .append,args:=#[x,y],argTypes:=⟨t0::t1::tys⟩ },type:=ty,pos:=pos,after:=aft,guard:=gd }=some true)(hx:tev tm x = .lsl n 0 len)(hb:hp[n]?=some (.rows es (xs.map f)))(hlen:len=xs.length)(hy:tev tm y = .list es new)(hnew:new=ys.map f)(hsl:aZ P t0=some e)(hni:fU P (some t1)=true)(hz:dX P e=some z)(hes:z.length=es)(hap:iP (fT P e) xs ys=some xy)(hff:∀ a,(f a).length=es∧(f a).all tone=true∧(f a).all (lf 4)=true)(ht:tput (tm.map (kill n 4)) dst (.lsl n 0 xy.length)=tm2)(hh2:(hp.map (kP n)).set n (.rows es (xy.map f))=hp2)(hq:TO C P ops rest ⟨tm2,hp2⟩ Q):TO C P ops ({ dst:=dst,op:=.call { callee:=.builtin .append,args:=#[x,y],argTypes:=⟨t0::t1::tys⟩ },type:=ty,pos:=pos,after:=aft,guard:=gd }::rest) ⟨tm,hp⟩ Q:=by
 subst ht hh2
 exact TO.w hw (Ny trivial hx hb hlen hy hnew hsl hni hz hes hap hff) hq
theorem TD.ap{α:Type}{x y:Operand}{t0 t1 e:TypeId}{tys:List TypeId}{n len es:Nat}{xs ys:List α}{f:α→List TV}{z:List Value}{new:List (List TV)}{xy:List α}(hw:twant ops tm { dst:=dst,op:=.call { callee:=.builtin .append,args:=#[x,y],argTypes:=⟨t0::t1::tys⟩ },type:=ty,pos:=pos,after:=aft,guard:=gd }=some true)(hx:tev tm x = .lsl n 0 len)(hb:hp[n]?=some (.rows es (xs.map f)))(hlen:len=xs.length)(hy:tev tm y = .list es new)(hnew:new=ys.map f)(hsl:aZ P t0=some e)(hni:fU P (some t1)=true)(hz:dX P e=some z)(hes:z.length=es)(hap:iP (fT P e) xs ys=some xy)(hff:∀ a,(f a).length=es∧(f a).all tone=true∧(f a).all (lf 4)=true)(hnp:np.all (fun j=>(aL ms i).testBit j)=true)(ht:tput (tm.map (kill n 4)) dst (.lsl n 0 xy.length)=tm2)(hh2:(hp.map (kP n)).set n (.rows es (xy.map f))=hp2)(hq:TD C P ops ms rest (i+1) (i::np) 1 ⟨tm2,hp2⟩ Q):TD C P ops ms ({ dst:=dst,op:=.call { callee:=.builtin .append,args:=#[x,y],argTypes:=⟨t0::t1::tys⟩ },type:=ty,pos:=pos,after:=aft,guard:=gd }::rest) i np c ⟨tm,hp⟩ Q:=by
 subst ht hh2
 exact TD.w hw (Ny trivial hx hb hlen hy hnew hsl hni hz hes hap hff) hnp hq
theorem TO.cal{fo:Operand}{g:FuncId}{args:Array Operand}{tys:Array TypeId}{first caps as:List TV}{th:List TB}(hw:twant ops tm { dst:=dst,op:=.call { callee:=.value fo,args:=args,argTypes:=tys },type:=ty,pos:=pos,after:=aft,guard:=gd }=some true)(hf:tev tm fo = .func g first caps)(hg:aJ P g=true)(hsp:Spec C g as ⟨[p],th⟩)(has:first++(args.toList.map (tev tm)++caps)=as)(hl:as.all (lf 4)=true)(hth:th.all vN=true)(ht:tput tm dst (shift hp.length 4 p)=tm2)(hh2:hp++th=hp2)(hq:TO C P ops rest ⟨tm2,hp2⟩ Q):TO C P ops ({ dst:=dst,op:=.call { callee:=.value fo,args:=args,argTypes:=tys },type:=ty,pos:=pos,after:=aft,guard:=gd }::rest) ⟨tm,hp⟩ Q:=by
 subst ht hh2
 exact TO.g hw (OpG.call (s:=⟨tm,hp⟩) hf hg has hl hsp hth) hq
theorem TD.cal{fo:Operand}{g:FuncId}{args:Array Operand}{tys:Array TypeId}{first caps as:List TV}{th:List TB}(hw:twant ops tm { dst:=dst,op:=.call { callee:=.value fo,args:=args,argTypes:=tys },type:=ty,pos:=pos,after:=aft,guard:=gd }=some true)(hf:tev tm fo = .func g first caps)(hg:aJ P g=true)(hsp:Spec C g as ⟨[p],th⟩)(has:first++(args.toList.map (tev tm)++caps)=as)(hl:as.all (lf 4)=true)(hth:th.all vN=true)(ht:tput tm dst (shift hp.length 4 p)=tm2)(hh2:hp++th=hp2)(hq:TD C P ops ms rest (i+1) (i::np) 0 ⟨tm2,hp2⟩ Q):TD C P ops ms ({ dst:=dst,op:=.call { callee:=.value fo,args:=args,argTypes:=tys },type:=ty,pos:=pos,after:=aft,guard:=gd }::rest) i np 0 ⟨tm,hp⟩ Q:=by
 subst ht hh2
 exact TD.g hw (OpG.call (s:=⟨tm,hp⟩) hf hg has hl hsp hth) hq
theorem TO.lok{fo:Operand}{g:FuncId}{args:Array Operand}{tys:Array TypeId}{first caps as:List TV}{th:List TB}(hw:twant ops tm { dst:=dst,op:=.call { callee:=.value fo,args:=args,argTypes:=tys },type:=ty,pos:=pos,after:=aft,guard:=gd }=some true)(hf:tev tm fo = .func g first caps)(hg:aJ P g=true)(hsp:Spec C g as ⟨[p],th⟩)(has:first++((args.toList.map (tev tm)).map (view hp 4)++caps)=as)(hth:th.all vN=true)(hcp:cl 4 p=true)(hcl:th.all jM=true)(ht:tput tm dst (shift hp.length 4 p)=tm2)(hh2:hp++th=hp2)(hq:TO C P ops rest ⟨tm2,hp2⟩ Q):TO C P ops ({ dst:=dst,op:=.call { callee:=.value fo,args:=args,argTypes:=tys },type:=ty,pos:=pos,after:=aft,guard:=gd }::rest) ⟨tm,hp⟩ Q:=by
 subst ht hh2
 exact TO.g hw (OpG.look (s:=⟨tm,hp⟩) hf hg has hsp hth hcp hcl) hq
theorem TO.frz(n:Nat){l:List Oper}{b:TB}(hb:hp[n]?=some b)(hl:lfB b=true)(ht:tm.map (frz n b 4)=tm2)(hh2:(hp.map (Df n b)).set n .dead=hp2)(hq:TO C P ops l ⟨tm2,hp2⟩ Q):TO C P ops l ⟨tm,hp⟩ Q:=by
 subst ht hh2
 exact TO.weak (Wk.freeze n hb hl) hq
end
end Go.Rex
namespace Go.Rex
open Go.RowKit
section
variable {P:Program} {tm:List TV} {hp:List TB}
variable {dst:Option Tmp} {ty:TypeId} {pos:String} {aft:Array Edge} {gd:Option (Nat×Bool)} {x y:Operand} {t u:TypeId} {tys:List TypeId}
theorem iV{o:Oper}{v:Value}(ha:o.op.operands.toList.all (fun x=>(er 3 (tev tm x)).isSome)=true)(hv:Rex.pop P (erased tm) o=some v)(hi:iJ 3 v=true):tgen P tm o=some (inj 3 v):=by
 unfold tgen
 rw[if_pos ha,hv]
 simp only
 rw[if_pos hi]
theorem aX{a:Value}(h:tev tm x = .v a):erased tm x=a:=by unfold erased;rw[h];rfl
theorem gU{a:Value}(h:tev tm x = .v a):(er 3 (tev tm x)).isSome=true:=by rw[h];rfl
theorem bU{b:Bool}(h:tev tm x = .v (.bool b)):tpop P hp tm { dst:=dst,op:=.unOp .not t x,type:=ty,pos:=pos,after:=aft,guard:=gd }=some (.v (.bool (!b))):=by
 have:tgen P tm { dst:=dst,op:=.unOp .not t x,type:=ty,pos:=pos,after:=aft,guard:=gd }=some (inj 3 (.bool (!b))):=
  iV (by simp[Op.operands,gU h]) (by simp only[Rex.pop,Rex.pop0,Jt,aX h]) rfl
 exact this
theorem xZ{k:IntKind}{n:Int}(h:tev tm x = .v (.int k n)):tpop P hp tm { dst:=dst,op:=.unOp .neg t x,type:=ty,pos:=pos,after:=aft,guard:=gd }=some (.v (.int k (k.wrap (0-n)))):=by
 have:tgen P tm { dst:=dst,op:=.unOp .neg t x,type:=ty,pos:=pos,after:=aft,guard:=gd }=some (inj 3 (.int k (k.wrap (0-n)))):=
  iV (by simp[Op.operands,gU h]) (by simp only[Rex.pop,Rex.pop0,Jh,aX h]) rfl
 exact this
theorem lS{k:FloatKind}{a b:Nat}(h:tev tm x = .v (.complex k a b)):tpop P hp tm { dst:=dst,op:=.call { callee:=.builtin .real,args:=#[x],argTypes:=⟨tys⟩ },type:=ty,pos:=pos,after:=aft,guard:=gd }=some (.v (.float k a)):=by
 have:tgen P tm { dst:=dst,op:=.call { callee:=.builtin .real,args:=#[x],argTypes:=⟨tys⟩ },type:=ty,pos:=pos,after:=aft,guard:=gd }=some (inj 3 (.float k a)):=
  iV (by simpa [Op.operands,Call.operands] using gU h) (by
   exact Ft (aX h)) rfl
 exact this
theorem lZ{k:FloatKind}{a b:Nat}(h:tev tm x = .v (.complex k a b)):tpop P hp tm { dst:=dst,op:=.call { callee:=.builtin .imag,args:=#[x],argTypes:=⟨tys⟩ },type:=ty,pos:=pos,after:=aft,guard:=gd }=some (.v (.float k b)):=by
 have:tgen P tm { dst:=dst,op:=.call { callee:=.builtin .imag,args:=#[x],argTypes:=⟨tys⟩ },type:=ty,pos:=pos,after:=aft,guard:=gd }=some (inj 3 (.float k b)):=
  iV (by simpa [Op.operands,Call.operands] using gU h) (by
   exact Fh (aX h)) rfl
 exact this
theorem nZ{a b:Nat}(h:tev tm x = .v (.float .f32 a))(g:tev tm y = .v (.float .f32 b)):tpop P hp tm { dst:=dst,op:=.call { callee:=.builtin .complex,args:=#[x,y],argTypes:=⟨tys⟩ },type:=ty,pos:=pos,after:=aft,guard:=gd }=some (.v (.complex .f32 a b)):=by
 have:tgen P tm { dst:=dst,op:=.call { callee:=.builtin .complex,args:=#[x,y],argTypes:=⟨tys⟩ },type:=ty,pos:=pos,after:=aft,guard:=gd }=some (inj 3 (.complex .f32 a b)):=
  iV (by simpa [Op.operands,Call.operands] using ⟨gU h,gU g⟩) (by
   exact xY (aX h) (aX g)) rfl
 exact this
theorem Le{k k':IntKind}{a b:Int}(h:tev tm x = .v (.int k a))(g:tev tm y = .v (.int k' b)):tpop P hp tm { dst:=dst,op:=.call { callee:=.builtin .max,args:=#[x,y],argTypes:=⟨tys⟩ },type:=ty,pos:=pos,after:=aft,guard:=gd }=some (.v (.int k (if b>a then b else a))):=by
 have:tgen P tm { dst:=dst,op:=.call { callee:=.builtin .max,args:=#[x,y],argTypes:=⟨tys⟩ },type:=ty,pos:=pos,after:=aft,guard:=gd }=some (inj 3 (.int k (if b>a then b else a))):=
  iV (by simpa [Op.operands,Call.operands] using ⟨gU h,gU g⟩) (by
   simp only[Rex.pop,Rex.pop0,bpop];rw[if_neg (by decide),Jc,aX h,aX g]) rfl
 exact this
theorem Ae{o:Oper}{v:Value}(hp0:Rex.pop0 P (erased tm) o=jH P (erased tm) o)(hsel:∀ cs b,o.op ≠ .select cs b)(ha:o.op.operands.toList.all (fun x=>(er 3 (tev tm x)).isSome)=true)(hc:o.op.operands.toList.all (fun x=>bN (erased tm x))=true)
 (hv:prun P (execOp (erased tm) o)=some (.value v)) (hi:iJ 3 v=true) (hcv:aW v=true):tgen P tm o=some (inj 3 v):=by
 refine iV ha (Es ?_) hi
 rw[hp0]
 unfold jH
 split
 ·rename_i cs b e;exact absurd e (hsel _ _)
 ·rw[if_pos hc,hv]
  simp only
  rw[if_pos hcv]
theorem aE{α β:Type}{s:Sem α}{f:α→Sem β}:prun P (s >>= f)=(prun P s).bind fun a=>prun P (f a):=by
 induction s with
 | pure a=>rfl
 | program k ih=>exact ih _
 | mark m k ih=>exact ih
 | _=>rfl
theorem xC{α:Type}{a:α}:prun P (pure a:Sem α)=some a:=rfl
theorem cC{t:TypeId}{d:TypeDesc}(h:P.underlying t=some d):prun P (underlying t)=some d:=by
 unfold underlying
 rw[aE]
 show prun P (match P.underlying t with | some d => pure d | none => stuck "no such type") = some d
 rw[h]
 rfl
theorem Gp{v w:Value}(h:tev tm x = .v v)(hc:bN v=true)(hw:prun P (convert t u v)=some w)(hi:iJ 3 w=true)(hcw:aW w=true):tpop P hp tm { dst:=dst,op:=.convert t u x,type:=ty,pos:=pos,after:=aft,guard:=gd }=some (inj 3 w):=by
 have:tgen P tm { dst:=dst,op:=.convert t u x,type:=ty,pos:=pos,after:=aft,guard:=gd }=some (inj 3 w):=by
  refine Ae rfl (fun cs b e=>by cases e) (by simpa [Op.operands] using gU h) (by simpa [Op.operands,aX h] using hc) ?_ hi hcw
  show prun P (convert t u (erased tm x) >>= fun r=>(pure (Next.value r):Sem Next))=_
  rw[aE,aX h,hw]
  rfl
 exact this
theorem cX{k ks:IntKind}{kd:FloatKind}{n:Int}(hs:P.underlying t=some (.int ks))(hd:P.underlying u=some (.float kd))(h:tev tm x = .v (.int k n)):tpop P hp tm { dst:=dst,op:=.convert t u x,type:=ty,pos:=pos,after:=aft,guard:=gd }=some (.v (.float kd (kd.nearest n))):=by
 refine Gp (w:=.float kd (kd.nearest n)) h rfl ?_ rfl rfl
 unfold convert
 rw[aE,cC hs,Option.bind_some,aE,cC hd,Option.bind_some]
 rfl
theorem Dw{v w:Value}(h:tev tm x = .v v)(hn:Fk P t u v=some w)(hw:prun P (convert t u v)=some w∨prun P (convert t u v)=none)(hi:iJ 3 w=true):tpop P hp tm { dst:=dst,op:=.convert t u x,type:=ty,pos:=pos,after:=aft,guard:=gd }=some (inj 3 w):=by
 have:tgen P tm { dst:=dst,op:=.convert t u x,type:=ty,pos:=pos,after:=aft,guard:=gd }=some (inj 3 w):=by
  refine iV (by simpa [Op.operands] using gU h) (oU rfl ?_ ?_) hi
  ·show Fk P t u (erased tm x)=some w
   rw[aX h];exact hn
  ·show prun P (convert t u (erased tm x) >>= fun r=>(pure (Next.value r):Sem Next))=_∨prun P (convert t u (erased tm x) >>= fun r=>(pure (Next.value r):Sem Next))=_
   rw[aE,aX h]
   rcases hw with hw|hw
   ·rw[hw];exact .inl rfl
   ·rw[hw];exact .inr rfl
 exact this
theorem vD{k kd:FloatKind}{b r:Nat}(hr:f2f k b kd=some r):prun P (Conv.floatToFloat k b kd)=some (.float kd r)∨prun P (Conv.floatToFloat k b kd)=none:=by
 unfold Conv.floatToFloat
 unfold f2f at hr
 split at hr
 ·rename_i e;rw[if_pos e];obtain rfl:=Option.some.inj hr;exact .inl rfl
 ·rename_i e
  rw[if_neg e]
  split at hr
  ·rename_i hn
   obtain⟨s,t,e2⟩:=gF hn
   have e3:k.decode b = .nan s t:=e2
   rw[e3]
   exact .inr rfl
  ·split at hr
   ·cases hr
   ·rename_i hd;obtain rfl:=Option.some.inj hr;simp only[hd];exact .inl rfl
   ·rename_i hd
    simp only[hd]
    split at hr
    ·cases hr
    ·rename_i hi
     obtain rfl:=Option.some.inj hr
     rw[if_neg hi]
     exact .inl rfl
theorem jP{k ks kd:FloatKind}{b r:Nat}(hs:P.underlying t=some (.float ks))(hd:P.underlying u=some (.float kd))(h:tev tm x = .v (.float k b))(hr:f2f k b kd=some r):tpop P hp tm { dst:=dst,op:=.convert t u x,type:=ty,pos:=pos,after:=aft,guard:=gd }=some (.v (.float kd r)):=by
 refine Dw (w:=.float kd r) h ?_ ?_ rfl
 ·simp only[Fk,hs,hd,hr,Option.map_some]
 ·have e : prun P (convert t u (.float k b)) = prun P (Conv.floatToFloat k b kd) := by
    unfold convert
    rw[aE,cC hs,Option.bind_some,aE,cC hd,Option.bind_some]
  rw[e]
  exact vD hr
def f2i(s:FloatKind)(b:Nat)(d:IntKind):Option Int:=
 match (s.decode b).toInt .zero with
 | some n=>if d.min≤n∧n≤d.max then some n else none
 | none=>none
theorem gG{k ks:FloatKind}{kd:IntKind}{b:Nat}{r:Int}(hs:P.underlying t=some (.float ks))(hd:P.underlying u=some (.int kd))(h:tev tm x = .v (.float k b))(hr:f2i k b kd=some r):tpop P hp tm { dst:=dst,op:=.convert t u x,type:=ty,pos:=pos,after:=aft,guard:=gd }=some (.v (.int kd r)):=by
 have hnb:dZ k b=false:=by
  cases hq:dZ k b with
  | false=>rfl
  | true =>
   obtain⟨s,t,e⟩:=gF hq
   have e:k.decode b = .nan s t:=e
   unfold f2i at hr
   rw[e] at hr
   cases hr
 refine Gp (w:=.int kd r) h (by simp only[bN,depth,clean,jT,hnb];rfl) ?_ rfl rfl
 unfold convert
 rw[aE,cC hs,Option.bind_some,aE,cC hd,Option.bind_some]
 show prun P (Conv.floatToInt k b kd)=_
 unfold Conv.floatToInt
 unfold f2i at hr
 split at hr
 ·rename_i n hn
  split at hr
  ·rename_i hc
   obtain rfl:=Option.some.inj hr
   simp only[hn]
   rw[if_pos hc]
   rfl
  ·cases hr
 ·cases hr
theorem sZ{k kd ks:FloatKind}{a b r i:Nat}(hs:P.underlying t=some (.complex ks))(hd:P.underlying u=some (.complex kd))(h:tev tm x = .v (.complex k a b))(hr:f2f k a kd=some r)(hi:f2f k b kd=some i):tpop P hp tm { dst:=dst,op:=.convert t u x,type:=ty,pos:=pos,after:=aft,guard:=gd }=some (.v (.complex kd r i)):=by
 refine Dw (w:=.complex kd r i) h ?_ ?_ rfl
 ·simp only[Fk,hs,hd,hr,hi,Option.map_some,Option.bind_some]
 ·have e : prun P (convert t u (.complex k a b)) = prun P (Conv.complexToComplex k a b kd) := by
    unfold convert
    rw[aE,cC hs,Option.bind_some,aE,cC hd,Option.bind_some]
  rw[e]
  unfold Conv.complexToComplex
  rw[aE]
  rcases vD (P:=P) hr with h1|h1
  ·rw[h1,Option.bind_some]
   simp only
   rw[aE]
   rcases vD (P:=P) hi with h2|h2
   ·rw[h2];exact .inl rfl
   ·rw[h2];exact .inr rfl
  ·rw[h1];exact .inr rfl
def yS(op:BinOp)(k:IntKind)(a b:Int):Int:=
 let x:=BitVec.ofInt k.bits a
 let y:=BitVec.ofInt k.bits b
 match op with
 | .and=>k.wrap (x &&& y).toNat
 | .or=>k.wrap (x ||| y).toNat
 | .xor=>k.wrap (x ^^^ y).toNat
 | _=>k.wrap (x &&& ~~~y).toNat
def shI(op:BinOp)(k:IntKind)(a b:Int):Option Int:=
 if b<0 then none else match op with
 | .shl=>some (k.wrap (a*2^(min b.toNat k.bits)))
 | _=>some (a.fdiv (2^(min b.toNat k.bits)))
theorem Mk{b:BinOp}{v w r:Value}(h:tev tm x = .v v)(g:tev tm y = .v w)(hf:bM b v w=none)(hc:bN v=true)(hd:bN w=true)(he:prun P (eqGuard b t x y v w)=some ())(hw:prun P (binOp b t v w)=some r)(hi:iJ 3 r=true)(hcr:aW r=true) :
 tpop P hp tm { dst:=dst,op:=.binOp b t x y u,type:=ty,pos:=pos,after:=aft,guard:=gd }=some (inj 3 r):=by
 have h1:tgen P tm { dst:=dst,op:=.binOp b t x y u,type:=ty,pos:=pos,after:=aft,guard:=gd }=some (inj 3 r):=by
  refine Ae ?_ (fun cs b e=>by cases e) (by simpa [Op.operands] using ⟨gU h,gU g⟩) (by simpa [Op.operands,aX h,aX g] using ⟨hc,hd⟩) ?_ hi hcr
  ·simp only[Rex.pop0,aX h,aX g,hf,jF]
  ·show prun P ((eqGuard b t x y (erased tm x) (erased tm y) >>= fun _=>binOp b t (erased tm x) (erased tm y)) >>= fun r=>(pure (Next.value r):Sem Next))=_
   rw[aE,aX h,aX g,aE,he,Option.bind_some,hw]
   rfl
 simp only[tpop,h,g,tbin,hf,Option.map_none,orT]
 exact h1
theorem Ei{b:BinOp}{v w r:Value}(h:tev tm x = .v v)(g:tev tm y = .v w)(hf:bM b v w=none)(hn:Ao b v w=some r)(hw:prun P (eqGuard b t x y v w >>= fun _=>binOp b t v w)=some r∨prun P (eqGuard b t x y v w >>= fun _=>binOp b t v w)=none)(hi:iJ 3 r=true) :
 tpop P hp tm { dst:=dst,op:=.binOp b t x y u,type:=ty,pos:=pos,after:=aft,guard:=gd }=some (inj 3 r):=by
 have h1:tgen P tm { dst:=dst,op:=.binOp b t x y u,type:=ty,pos:=pos,after:=aft,guard:=gd }=some (inj 3 r):=by
  refine iV (by simpa [Op.operands] using ⟨gU h,gU g⟩) (oU ?_ ?_ ?_) hi
  ·simp only[Rex.pop0,aX h,aX g,hf,jF]
  ·show Ao b (erased tm x) (erased tm y)=some r
   rw[aX h,aX g];exact hn
  ·show prun P ((eqGuard b t x y (erased tm x) (erased tm y) >>= fun _=>binOp b t (erased tm x) (erased tm y)) >>= fun r=>(pure (Next.value r):Sem Next))=_∨prun P ((eqGuard b t x y (erased tm x) (erased tm y) >>= fun _=>binOp b t (erased tm x) (erased tm y)) >>= fun r=>(pure (Next.value r):Sem Next))=_
   rw[aX h,aX g,aE]
   rcases hw with hw|hw
   ·rw[hw];exact .inl rfl
   ·rw[hw];exact .inr rfl
 simp only[tpop,h,g,tbin,hf,Option.map_none,orT]
 exact h1
theorem Fg{b:BinOp}{v w:Value}(hb:b ≠ .eql∧b ≠ .neq):prun P (eqGuard b t x y v w)=some ():=by
 cases b<;>first|rfl|exact absurd rfl hb.1|exact absurd rfl hb.2
theorem Kg{b:BinOp}{k:IntKind}{a d:Int}(h:tev tm x = .v (.int k a))(g:tev tm y = .v (.int k d))(hb:b = .and∨b = .or∨b = .xor∨b = .andNot):tpop P hp tm { dst:=dst,op:=.binOp b t x y u,type:=ty,pos:=pos,after:=aft,guard:=gd }=some (.v (.int k (yS b k a d))):=by
 refine Mk (r:=.int k (yS b k a d)) h g ?_ rfl rfl (Fg ?_) ?_ rfl rfl
 ·rcases hb with rfl|rfl|rfl|rfl<;>simp[bM]
 ·rcases hb with rfl|rfl|rfl|rfl<;>exact⟨by decide,by decide⟩
 ·rcases hb with rfl|rfl|rfl|rfl<;>simp[binOp,Op.intBits,yS]<;>rfl
end
end Go.Rex
namespace Go.Rex
open Go.RowKit
section
variable {C:Ctx} {P:Program} {Fz:Nat→Prop} {h h0:List Blk} {L:Nat→LI} {s:TS} {tm:List Value}
variable {dst:Option Tmp} {ty:TypeId} {pos:String} {aft:Array Edge} {gd:Option (Nat×Bool)}
end
end Go.Rex
namespace Go.Rex
open Go.RowKit
section
variable {C:Ctx} {P:Program} {ops:Array Oper} {rest:List Oper} {tm tm2:List TV} {hp hp2:List TB} {Q:TS→Prop} {o:Oper}
variable {dst:Option Tmp} {ty:TypeId} {pos:String} {aft:Array Edge} {gd:Option (Nat×Bool)} {p q:TV} {ms:List Nat} {i:Nat} {np:List Nat} {c:Nat}
theorem stV{t:TypeId}{a x:Operand}{n ob:Nat}{row row2 l:List TV}(ha:tev tm a = .lptr n 0 ob)(hx:tev tm x=p)(hj:eZ p=false)(hl:tcells p=l)(hb:hp[n]?=some (.var row))(ht:okT P t=true)(hlen:l.length=P.cellsOf t)(hone:l.all tone=true)(hfit:Nat.ble (ob+l.length) row.length=true)(hv:tsplice row ob l=row2) :
 OpW C P { dst:=none,op:=.store t a x,type:=ty,pos:=pos,after:=aft,guard:=gd } ⟨tm,hp⟩ ⟨tm,hp.set n (.var row2)⟩:=by
 subst hl hv
 refine OpW.store (s:=⟨tm,hp⟩) ?_
 rw[show tev (TS.mk tm hp).tm a=_ from ha,show tev (TS.mk tm hp).tm x=p from hx]
 simp only[tstore]
 rw[if_pos ⟨hj,ht,hlen,hone⟩,hb]
 simp only
 rw[if_pos ⟨trivial,Nat.le_of_ble_eq_true hfit⟩]
theorem stR{α:Type}{f:α→List TV}{xs:List α}{y:α}{u:α}{t:TypeId}{a x:Operand}{n r ob es:Nat}{l:List TV}(ha:tev tm a = .lptr n r ob)(hx:tev tm x=p)(hj:eZ p=false)(hl:tcells p=l)(hb:hp[n]?=some (.rows es (xs.map f)))(hr:xs[r]?=some u)(ht:okT P t=true)(hlen:l.length=P.cellsOf t)(hone:l.all tone=true)
 (hlf:l.all (lf 4)=true) (hfit:Nat.ble (ob+l.length) (f u).length=true) (hv:tsplice (f u) ob l=f y) :
 OpW C P { dst:=none,op:=.store t a x,type:=ty,pos:=pos,after:=aft,guard:=gd } ⟨tm,hp⟩ ⟨tm,hp.set n (.rows es ((xs.set r y).map f))⟩:=by
 subst hl
 refine OpW.store (s:=⟨tm,hp⟩) ?_
 rw[show tev (TS.mk tm hp).tm a=_ from ha,show tev (TS.mk tm hp).tm x=p from hx]
 simp only[tstore]
 rw[if_pos ⟨hj,ht,hlen,hone⟩,hb]
 simp only[List.getElem?_map,hr,Option.map_some]
 rw[if_pos ⟨Nat.le_of_ble_eq_true hfit,hlf⟩,hv,List.map_set]
theorem TO.sv{t:TypeId}{a x:Operand}{n ob:Nat}{row row2 l:List TV}(hw:twant ops tm { dst:=none,op:=.store t a x,type:=ty,pos:=pos,after:=aft,guard:=gd }=some true)(ha:tev tm a = .lptr n 0 ob)(hx:tev tm x=p)(hj:eZ p=false)(hl:tcells p=l)(hb:hp[n]?=some (.var row))(ht:okT P t=true)(hlen:l.length=P.cellsOf t)(hone:l.all tone=true)(hfit:Nat.ble (ob+l.length) row.length=true)(hv:tsplice row ob l=row2)
 (hh2:hp.set n (.var row2)=hp2) (hq:TO C P ops rest ⟨tm,hp2⟩ Q):TO C P ops ({ dst:=none,op:=.store t a x,type:=ty,pos:=pos,after:=aft,guard:=gd }::rest) ⟨tm,hp⟩ Q:=by
 subst hh2;exact TO.w hw (stV ha hx hj hl hb ht hlen hone hfit hv) hq
theorem TD.sv{t:TypeId}{a x:Operand}{n ob:Nat}{row row2 l:List TV}(hw:twant ops tm { dst:=none,op:=.store t a x,type:=ty,pos:=pos,after:=aft,guard:=gd }=some true)(ha:tev tm a = .lptr n 0 ob)(hx:tev tm x=p)(hj:eZ p=false)(hl:tcells p=l)(hb:hp[n]?=some (.var row))(ht:okT P t=true)(hlen:l.length=P.cellsOf t)(hone:l.all tone=true)(hfit:Nat.ble (ob+l.length) row.length=true)(hv:tsplice row ob l=row2)
 (hnp:okW ops ms i ⟨tm,hp⟩ n np=true) (hh2:hp.set n (.var row2)=hp2) (hq:TD C P ops ms rest (i+1) (i::np) 1 ⟨tm,hp2⟩ Q):TD C P ops ms ({ dst:=none,op:=.store t a x,type:=ty,pos:=pos,after:=aft,guard:=gd }::rest) i np c ⟨tm,hp⟩ Q:=by
 subst hh2;exact TD.wF (s:=⟨tm,hp⟩) hw ha (stV ha hx hj hl hb ht hlen hone hfit hv) hnp hq
theorem TD.sr{α:Type}(f:α→List TV)(xs:List α)(u y:α){t:TypeId}{a x:Operand}{n r ob es:Nat}{l:List TV}(hr:xs[r]?=some u)(hw:twant ops tm { dst:=none,op:=.store t a x,type:=ty,pos:=pos,after:=aft,guard:=gd }=some true)(ha:tev tm a = .lptr n r ob)(hx:tev tm x=p)(hj:eZ p=false)(hl:tcells p=l)(hb:hp[n]?=some (.rows es (xs.map f)))(ht:okT P t=true)(hlen:l.length=P.cellsOf t)(hone:l.all tone=true)
 (hlf:l.all (lf 4)=true) (hfit:Nat.ble (ob+l.length) (f u).length=true) (hv:tsplice (f u) ob l=f y) (hnp:okW ops ms i ⟨tm,hp⟩ n np=true) (hh2:hp.set n (.rows es ((xs.set r y).map f))=hp2) (hq:TD C P ops ms rest (i+1) (i::np) 1 ⟨tm,hp2⟩ Q):TD C P ops ms ({ dst:=none,op:=.store t a x,type:=ty,pos:=pos,after:=aft,guard:=gd }::rest) i np c ⟨tm,hp⟩ Q:=by
 subst hh2;exact TD.wF (s:=⟨tm,hp⟩) hw ha (stR ha hx hj hl hb hr ht hlen hone hlf hfit hv) hnp hq
end
section
variable {C:Ctx} {P:Program} {ops:Array Oper} {rest:List Oper} {tm tm2:List TV} {hp hp2:List TB} {Q:TS→Prop} {o:Oper}
variable {dst:Option Tmp} {ty:TypeId} {pos:String} {aft:Array Edge} {gd:Option (Nat×Bool)} {p q:TV} {ms:List Nat} {i:Nat} {np:List Nat} {c:Nat}
theorem Kj{α:Type}{f:α→List TV}{xs:List α}{u:α}{es k:Nat}(hf:∀ a,(f a).length=es)(hk:xs[k]?=some u):(((xs.map f).flatten).drop (k*es)).take es=f u∧k*es+es≤(xs.map f).flatten.length:=by
 have hw:∀ r∈xs.map f,r.length=es:=fun r hr=>by obtain⟨a,_,rfl⟩:=List.mem_map.1 hr;exact hf a
 have hr:(xs.map f)[k]?=some (f u):=by rw[List.getElem?_map,hk];rfl
 constructor
 ·apply List.ext_getElem?
  intro j
  rw[List.getElem?_take,List.getElem?_drop]
  split
  ·rename_i hj;exact oW hw hr hj
  ·rename_i hj
   rw[List.getElem?_eq_none (by rw[hf u];omega)]
 ·rw[eL hw,← Nat.succ_mul]
  have:=(List.getElem?_eq_some_iff.1 hr).1
  exact Nat.mul_le_mul_right _ this
end
theorem z1:(∀ tm t,tev tm (.tmp t)=tnth tm t)∧(∀ tm k n,tev tm (.const (.int k n)) = .v (.int k n))∧(∀ tm b,tev tm (.const (.bool b)) = .v (.bool b))∧(∀ tm s,tev tm (.const (.string s)) = .v (.string s))∧(∀ tm k b,tev tm (.const (.float k b)) = .v (.float k b)) ∧
 (∀ tm k a b,tev tm (.const (.complex k a b)) = .v (.complex k a b))∧(∀ tm,tev tm (.const (.slice none 0 0)) = .v (.slice none 0 0))∧(∀ tm,tev tm (.const .nilFunc) = .v .nilFunc)∧(∀ tm,tev tm (.const .nilIface) = .v .nilIface)∧(∀ tm,tev tm (.const (.pointer none)) = .v (.pointer none)) ∧
 (∀ tm f,tev tm (.func f) = .func f [] [])∧(∀ a l,tnth (a::l) 0=a)∧(∀ a l n,tnth (a::l) (n+1)=tnth l n)∧(∀ tm p,tput tm none p=tm)∧(∀ tm d p,tput tm (some d) p=tm.set d p):=
 ⟨fun _ _=>rfl,fun _ _ _=>rfl,fun _ _=>rfl,fun _ _=>rfl,fun _ _ _=>rfl,fun _ _ _ _=>rfl,fun _=>rfl,fun _=>rfl,fun _=>rfl,fun _=>rfl,fun _ _=>rfl,fun _ _=>rfl,fun _ _ _=>rfl,fun _ _=>rfl,fun _ _ _=>rfl⟩
theorem z2:(∀ k a b,bM .add (.int k a) (.int k b)=some (.int k (k.wrap (a+b))))∧(∀ k a b,bM .sub (.int k a) (.int k b)=some (.int k (k.wrap (a-b))))∧(∀ k a b,bM .mul (.int k a) (.int k b)=some (.int k (k.wrap (a*b)))) ∧
 (∀ k a b,bM .lss (.int k a) (.int k b)=some (.bool (decide (a<b))))∧(∀ k a b,bM .leq (.int k a) (.int k b)=some (.bool (decide (a≤b))))∧(∀ k a b,bM .gtr (.int k a) (.int k b)=some (.bool (decide (a>b))))∧(∀ k a b,bM .geq (.int k a) (.int k b)=some (.bool (decide (a≥b)))) ∧
 (∀ k a b,bM .eql (.int k a) (.int k b)=some (.bool (decide (a=b))))∧(∀ k a b,bM .neq (.int k a) (.int k b)=some (.bool (decide (a≠b))))∧(∀ k a b,bM .quo (.int k a) (.int k b)=if b=0 then none else some (.int k (k.wrap (a.tdiv b))))∧(∀ k a b,bM .rem (.int k a) (.int k b)=if b=0 then none else some (.int k (a.tmod b))):=by
 refine⟨?_,?_,?_,?_,?_,?_,?_,?_,?_,?_,?_⟩<;>(intro k a b;simp only[bM,if_true])
end Go.Rex
namespace Go.Rex
open Go.RowKit
section
variable {C:Ctx} {P:Program} {ops:Array Oper} {rest:List Oper} {tm tm2:List TV} {hp hp2:List TB} {Q:TS→Prop} {o:Oper}
variable {dst:Option Tmp} {ty:TypeId} {pos:String} {aft:Array Edge} {gd:Option (Nat×Bool)} {p q:TV} {ms:List Nat} {i:Nat} {np:List Nat} {c:Nat}
theorem TO.here{l:List Oper}{s:TS}(h:TO C P ops l s Q):TO C P ops l s Q:=h
theorem TD.here{l:List Oper}{s:TS}(h:TD C P ops ms l i np c s Q):TD C P ops ms l i np c s Q:=h
theorem mkG{α:Type}{f:α→List TV}{z0:α}{xs:List α}{t e:TypeId}{x y:Operand}{k k':IntKind}{n:Int}{z:List Value}{es by':Nat}(hm:mkI by' n z0=some xs)(hx:tev tm x = .v (.int k n))(hy:tev tm y = .v (.int k' n))(hs:aZ P t=some e)(hz:dX P e=some z)(hb:fT P e=by')(hne:z.length=es)(he:Nat.ble 1 es=true)(hf:z.map .v=f z0) :
 OpG C P { dst:=dst,op:=.makeSlice t x y,type:=ty,pos:=pos,after:=aft,guard:=gd } ⟨tm,hp⟩ ⟨tput tm dst (.lsl hp.length 0 xs.length),hp++[.rows es (xs.map f)]⟩:=by
 unfold mkI at hm
 split at hm
 ·rename_i hc
  obtain rfl:=Option.some.inj hm
  have:=OpG.makeSlice (C:=C) (P:=P) (s:=⟨tm,hp⟩) (dst:=dst) (ty:=ty) (pos:=pos) (aft:=aft) (gd:=gd) (t:=t) (l:=x) (c:=y) (n:=n.toNat) (z:=z) (by
   rw[show tev (TS.mk tm hp).tm x=_ from hx,show tev (TS.mk tm hp).tm y=_ from hy]
   simp only[tmake,hs,hz,hb]
   rw[if_pos ⟨trivial,hc.1,hc.2.1,hc.2.2,fun h=>by rw[h] at hne;simp at hne;subst hne;simp[Nat.ble] at he⟩])
  rw[hne,hf] at this
  simpa using this
 ·cases hm
theorem TO.mk{α:Type}(f:α→List TV){z0:α}{xs:List α}{t e:TypeId}{x y:Operand}{k k':IntKind}{n:Int}{z:List Value}{es by':Nat}(hm:mkI by' n z0=some xs)(hw:twant ops tm { dst:=dst,op:=.makeSlice t x y,type:=ty,pos:=pos,after:=aft,guard:=gd }=some true)(hx:tev tm x = .v (.int k n))(hy:tev tm y = .v (.int k' n))(hs:aZ P t=some e)(hz:dX P e=some z)(hb:fT P e=by')(hne:z.length=es)(he:Nat.ble 1 es=true)(hf:z.map .v=f z0)
 (ht:tput tm dst (.lsl hp.length 0 xs.length)=tm2) (hh2:hp++[.rows es (xs.map f)]=hp2) (hq:TO C P ops rest ⟨tm2,hp2⟩ Q):TO C P ops ({ dst:=dst,op:=.makeSlice t x y,type:=ty,pos:=pos,after:=aft,guard:=gd }::rest) ⟨tm,hp⟩ Q:=by
 subst ht hh2;exact TO.g hw (mkG hm hx hy hs hz hb hne he hf) hq
end
end Go.Rex
namespace Go.Rex
open Go.RowKit
theorem z3:(∀(α:Type) (a b:α) (l:List α),(a::l).set 0 b=b::l)∧(∀(α:Type) (a b:α) (l:List α) (n:Nat),(a::l).set (n+1) b=a::l.set n b)∧(∀(α:Type) (a:α) (l:List α),(a::l)[0]?=some a)∧(∀(α:Type) (a:α) (l:List α) (n:Nat),(a::l)[n+1]?=l[n]?) ∧
 (∀(α β:Type) (f:α→β) (a:α) (l:List α),(a::l).map f=f a::l.map f)∧(∀(α β:Type) (f:α→β),([]:List α).map f=[])∧(∀(α:Type) (a:α) (l m:List α),(a::l)++m=a::(l++m))∧(∀(α:Type) (l:List α),[]++l=l)∧(∀(α:Type) (a:α) (l:List α),(a::l).length=l.length+1)∧(∀(α:Type),([]:List α).length=0) ∧
 (∀(α:Type) (l:List α),l.drop 0=l)∧(∀(α:Type) (a:α) (l:List α) (n:Nat),(a::l).drop (n+1)=l.drop n)∧(∀(α:Type) (n:Nat),([]:List α).drop n=[])∧(∀(α:Type) (l:List α),l.take 0=[])∧(∀(α:Type) (a:α) (l:List α) (n:Nat),(a::l).take (n+1)=a::l.take n)∧(∀(α:Type) (n:Nat),([]:List α).take n=[]) ∧
 (∀(α β:Type) (f:α→β) (a:α),(some a).map f=some (f a))∧(∀(α β:Type) (f:α→β) (l:List α),(l.map f).length=l.length):=
 ⟨fun _ _ _ _=>rfl,fun _ _ _ _ _=>rfl,fun _ _ _=>rfl,fun _ _ _ _=>rfl,fun _ _ _ _ _=>rfl,fun _ _ _=>rfl,fun _ _ _ _=>rfl,fun _ _=>rfl,fun _ _ _=>rfl,fun _=>rfl,fun _ _=>rfl,fun _ _ _ _=>rfl,fun _ n=>by cases n<;>rfl,fun _ _=>rfl,fun _ _ _ _=>rfl,fun _ n=>by cases n<;>rfl,fun _ _ _ _=>rfl,fun _ _ _ _=>List.length_map _⟩
theorem z4:(∀ l,tcells (.agg l)=l)∧(∀ x,tcells (.v x)=[.v x])∧(∀ a b,tcells (.list a b)=[.list a b])∧(∀ a b c,tcells (.func a b c)=[.func a b c])∧(∀ v a b,tcells (.fptr v a b)=[.fptr v a b])∧(∀ a b c,tcells (.lptr a b c)=[.lptr a b c])∧(∀ a b c,tcells (.lsl a b c)=[.lsl a b c]) ∧
 (∀ l,eZ (.agg l)=false)∧(∀ x,eZ (.v x)=false)∧(∀ a b,eZ (.list a b)=false)∧(∀ a b c,eZ (.func a b c)=false)∧(∀ v a b,eZ (.fptr v a b)=false)∧(∀ a b c,eZ (.lptr a b c)=false)∧(∀ a b c,eZ (.lsl a b c)=false) ∧
 (∀ a b,tpick (.v (.bool true)) a b=some a)∧(∀ a b,tpick (.v (.bool false)) a b=some b)∧(∀ ops tm dst op ty pos aft,twant ops tm { dst:=dst,op:=op,type:=ty,pos:=pos,after:=aft,guard:=none }=some true)∧(∀(c:List TV) o l,tsplice c o l=c.take o++l++c.drop (o+l.length)) ∧
 (∀ tm,tput tm none=fun _=>tm):=
 ⟨fun _=>rfl,fun _=>rfl,fun _ _=>rfl,fun _ _ _=>rfl,fun _ _ _=>rfl,fun _ _ _=>rfl,fun _ _ _=>rfl,fun _=>rfl,fun _=>rfl,fun _ _=>rfl,fun _ _ _=>rfl,fun _ _ _=>rfl,fun _ _ _=>rfl,fun _ _ _=>rfl,fun _ _=>rfl,fun _ _=>rfl,fun _ _ _ _ _ _ _=>rfl,fun _ _ _=>rfl,fun _=>rfl⟩
end Go.Rex
namespace Go.Rex
theorem z5:(∀ r,tidx r 0=r[0]?)∧(∀ r,tidx r 1=r[1]?)∧(∀ r,tidx r 2=r[2]?)∧(∀ r,tidx r 3=r[3]?)∧(∀ r,tidx r 4=r[4]?)∧(∀ r,tidx r 5=r[5]?)∧(∀ r,tidx r 6=r[6]?)∧(∀ r,tidx r 7=r[7]?)∧(∀ r,tidx r 8=r[8]?)∧(∀ r,tidx r 9=r[9]?):=by
 refine⟨?_,?_,?_,?_,?_,?_,?_,?_,?_,?_⟩<;>(intro r;rfl)
example:(0:Int)<((2:Nat):Int):=by simp only[Int.cast_ofNat_Int,Int.reduceLT]
theorem tml{α β:Type}{f:α→β}{xs:List α}:(xs.map f).take xs.length=xs.map f:=List.take_of_length_le (by simp)
end Go.Rex
namespace Go.Rex
open Go.RowKit
section
variable {C:Ctx} {P:Program} {ops:Array Oper} {rest:List Oper} {tm tm2:List TV} {hp hp2:List TB} {Q:TS→Prop} {o:Oper}
variable {dst:Option Tmp} {ty:TypeId} {pos:String} {aft:Array Edge} {gd:Option (Nat×Bool)} {p q:TV} {ms:List Nat} {i:Nat} {np:List Nat} {c:Nat}
theorem TX.unroll{b:Code}{s:TS}{Q:Exit→TS→Prop}(hx:TX C P b s (zH (fun s=>TX C P (.loop b) s Q) Q)):TX C P (.loop b) s Q:=by
 intro h0 Fz L tm h hs
 obtain⟨K,e,⟨tm',df'⟩,h',w1,h1,h2,hd,s',F',L',q,g,hs'⟩:=hx h0 Fz L tm h hs
 obtain rfl:df'=[]:=hd
 cases e with
 | normal =>
  obtain⟨K2,e2,a2,h2',w2,k1,k2,kd,s3,F3,L3,q3,g3,hs3⟩:=q h0 F' L' tm' h' hs'
  refine⟨max K K2+1,e2,a2,h2',wmin w1 w2,?_,mN h2 k2,kd,s3,F3,L3,q3,g.trans g3,hs3⟩
  simp only[exec]
  rw[mQ (Nat.le_max_left K K2) h1]
  simp only
  rw[mQ (Nat.le_max_right K K2) k1]
  rfl
 | _=>exact⟨K+1,_,_,h',w1,by simp only[exec,h1],h2,rfl,s',F',L',q,g,hs'⟩
theorem TX.vt{α:Type}(f:α→List TV)(t es:Nat){b:Code}{Q:Exit→TS→Prop}(ht:tnth tm t = .v (.slice none 0 0))(h1:tm.set t (.lsl hp.length 0 ([]:List α).length)=tm2)(h2:hp++[.rows es (([]:List α).map f)]=hp2)(hq:TX C P b ⟨tm2,hp2⟩ Q):TX C P b ⟨tm,hp⟩ Q:=by
 subst h1 h2
 exact TX.weak (Wk.nil t es ht) hq
theorem TX.here{b:Code}{s:TS}{Q:Exit→TS→Prop}(h:TX C P b s Q):TX C P b s Q:=h
theorem tmlc{α β:Type}{f:α→β}{xs:List α}{n:Nat}(h:xs.length=n):(xs.map f).take n=xs.map f:=by subst h;exact tml
theorem iaP{α:Type}{xs:List α}{u:α}{t e:TypeId}{x y:Operand}{n es:Nat}{k:IntKind}{iv:Int}{row:List TV}{vb:Bool}(hg:bR xs iv=some u)(hx:tev tm x = .fptr vb row 0)(hy:tev tm y = .v (.int k iv))(hso:aZ P t=none)(ha:gQ P t=some (n,e))(hn:xs.length=n)(ho:okT P e=true)(hes:P.cellsOf e=es) :
 tpop P hp tm { dst:=dst,op:=.indexAddr t x y,type:=ty,pos:=pos,after:=aft,guard:=gd }=some (.fptr vb row (0+iv.toNat*es)):=by
 have h1:=cV hg
 simp only[tpop,hx,hy,aB,hso,ha]
 rw[if_pos ⟨h1.1,by omega,ho⟩,hes]
def tG(P:Program)(g:FuncId):Option (Array Value→Sem Value):=
 match P.funcs[g]? with
 | some fd => if fd.body.isNone = true ∧ (fd.name == "runtime.NumGoroutine") = false ∧ (Extern.findNext fd).isNone = true then Extern.find fd else none
 | none=>none
theorem Lh{g:FuncId}{F:Array Value→Sem Value}{vals:List Value}{v:Value}(hF:tG P g=some F)(hc:vals.all bN=true)(hv:prun P (F ⟨vals⟩)=some v)(hcv:aW v=true)(h:List Blk):aJ P g=false∧xslow P g vals h=some (v,h,none):=by
 unfold tG at hF
 split at hF
 ·rename_i fd hfd
  split at hF
  ·rename_i hcond
   obtain⟨h1,h2,h3⟩:=hcond
   have hb:fd.body=none:=by simpa using h1
   refine⟨by simp[aJ,hfd,hb],?_⟩
   have hcall:prun P (callFunc g ⟨vals⟩)=some (.value v):=by
    unfold callFunc
    rw[aE]
    show prun P (match P.funcs[g]? with|none=>_|some fn=>_)=_
    rw[hfd]
    simp only[h2,Bool.false_eq_true,if_false,h1,if_true]
    have hn:Extern.findNext fd=none:=by simpa using h3
    rw[hn]
    rw[aE]
    show prun P _=_
    simp only[hF]
    show prun P (F ⟨vals⟩ >>= fun r=>(pure (Next.value r):Sem Next))=_
    rw[aE,hv]
    rfl
   simp only[xslow,hfd,hb,Gv,Jl,hc,if_true,hcall,hcv,Option.map_some]
  ·cases hF
 ·cases hF
theorem Pf{fo:Operand}{g:FuncId}{args:Array Operand}{tys:Array TypeId}{l:List TV}{vals:List Value}{v:Value}(hf:tev tm fo = .func g [] [])(hl:args.toList.map (tev tm)=l)(he:l.mapM (er 3)=some vals)(hs0:∀ h,aJ P g=false∧xslow P g vals h=some (v,h,none))(hi:iJ 3 v=true)(hp1:inj 3 v=p) :
 OpG C P { dst:=dst,op:=.call { callee:=.value fo,args:=args,argTypes:=tys },type:=ty,pos:=pos,after:=aft,guard:=gd } ⟨tm,hp⟩ ⟨tput tm dst p,hp⟩:=by
 subst hp1
 intro h0 Fz L vm h hs
 have hfv:=dY hs.fz hs.tmr fo
 rw[show tev (TS.mk tm hp).tm fo=_ from hf] at hfv
 obtain⟨f',c',hfe,vf,vc⟩:∃ f' c',ev vm fo = .func (.func g) ⟨f'⟩ ⟨c'⟩∧VLs Fz h noL [] f'∧VLs Fz h noL [] c':=by
  generalize ev vm fo=y at *
  cases hfv with
  | func _ _ _ _ a' b' la ha lb hb=>exact⟨a',b',rfl,⟨la,ha⟩,⟨lb,hb⟩⟩
 have hf0:f'=[]:=by have:=vf.len;simpa using this
 have hc0:c'=[]:=by have:=vc.len;simpa using this
 subst hf0 hc0
 have hargs:=uF hs.fz hs.tmr args.toList
 rw[show args.toList.map (tev (TS.mk tm hp).tm)=l from hl] at hargs
 obtain⟨q1,q2⟩:=rR he
 have hve:args.toList.map (ev vm)=vals:=by
  apply List.ext_getElem?
  intro j
  cases hx:(args.toList.map (ev vm))[j]? with
  | none =>
   rw[List.getElem?_eq_none_iff] at hx
   rw[eq_comm,List.getElem?_eq_none_iff]
   have:=hargs.len
   omega
  | some x =>
   have hj:=(List.getElem?_eq_some_iff.1 hx).1
   have hll:=hargs.len
   have hp':l[j]?=some l[j]:=List.getElem?_eq_getElem (by omega)
   have hy:vals[j]?=some vals[j]:=List.getElem?_eq_getElem (by omega)
   rw[hy,VL.er 3 (q2 j _ _ hp' hy) (hargs.at' j _ _ hp' hx)]
 obtain⟨hg,hx⟩:=hs0 h
 refine⟨rfl,v,h,?_,Ext.refl h,Fz,L,Grow.refl _ _,hs.put dst (VL.inj 3 hi)⟩
 simp only[xop,hop,bhop]
 rw[Bg]
 simp only[hfe]
 rw[if_neg (by rw[hg];exact Bool.false_ne_true)]
 simp only[List.nil_append,List.append_nil,hve]
 exact hx
theorem Nl{fo:Operand}{g:FuncId}{args:Array Operand}{tys:Array TypeId}{F:Array Value→Sem Value}{l:List TV}{vals:List Value}{v:Value}(hf:tev tm fo = .func g [] [])(hF:tG P g=some F)(hl:args.toList.map (tev tm)=l)(he:l.mapM (er 3)=some vals)(hc:vals.all bN=true)(hv:prun P (F ⟨vals⟩)=some v)(hcv:aW v=true)(hi:iJ 3 v=true)(hp1:inj 3 v=p) :
 OpG C P { dst:=dst,op:=.call { callee:=.value fo,args:=args,argTypes:=tys },type:=ty,pos:=pos,after:=aft,guard:=gd } ⟨tm,hp⟩ ⟨tput tm dst p,hp⟩:=Pf hf hl he (fun h=>Lh hF hc hv hcv h) hi hp1
theorem TO.ex{fo:Operand}{g:FuncId}{args:Array Operand}{tys:Array TypeId}{F:Array Value→Sem Value}{l:List TV}{vals:List Value}{v:Value}(hw:twant ops tm { dst:=dst,op:=.call { callee:=.value fo,args:=args,argTypes:=tys },type:=ty,pos:=pos,after:=aft,guard:=gd }=some true)(hf:tev tm fo = .func g [] [])(hF:tG P g=some F)(hl:args.toList.map (tev tm)=l)(he:l.mapM (er 3)=some vals)(hc:vals.all bN=true)(hv:prun P (F ⟨vals⟩)=some v)(hcv:aW v=true)(hi:iJ 3 v=true)(hp1:inj 3 v=p)
 (ht:tput tm dst p=tm2) (hq:TO C P ops rest ⟨tm2,hp⟩ Q):TO C P ops ({ dst:=dst,op:=.call { callee:=.value fo,args:=args,argTypes:=tys },type:=ty,pos:=pos,after:=aft,guard:=gd }::rest) ⟨tm,hp⟩ Q:=by
 subst ht;exact TO.g hw (Nl hf hF hl he hc hv hcv hi hp1) hq
theorem TD.ex{fo:Operand}{g:FuncId}{args:Array Operand}{tys:Array TypeId}{F:Array Value→Sem Value}{l:List TV}{vals:List Value}{v:Value}(hw:twant ops tm { dst:=dst,op:=.call { callee:=.value fo,args:=args,argTypes:=tys },type:=ty,pos:=pos,after:=aft,guard:=gd }=some true)(hf:tev tm fo = .func g [] [])(hF:tG P g=some F)(hl:args.toList.map (tev tm)=l)(he:l.mapM (er 3)=some vals)(hc:vals.all bN=true)(hv:prun P (F ⟨vals⟩)=some v)(hcv:aW v=true)(hi:iJ 3 v=true)(hp1:inj 3 v=p)
 (ht:tput tm dst p=tm2) (hq:TD C P ops ms rest (i+1) (i::np) 0 ⟨tm2,hp⟩ Q):TD C P ops ms ({ dst:=dst,op:=.call { callee:=.value fo,args:=args,argTypes:=tys },type:=ty,pos:=pos,after:=aft,guard:=gd }::rest) i np 0 ⟨tm,hp⟩ Q:=by
 subst ht;exact TD.g hw (Nl hf hF hl he hc hv hcv hi hp1) hq
variable {x y:Operand} {t u:TypeId}
theorem vC{b:BinOp}{v w:Value}{r:Option Value}(he:prun P (eqGuard b t x y v w)=some ())(hw:prun P (binOp b t v w)=r):prun P (eqGuard b t x y v w >>= fun _=>binOp b t v w)=r:=by
 rw[aE,he,Option.bind_some,hw]
theorem rH{b:BinOp}{k k':FloatKind}{a d:Nat}:prun P (eqGuard b t x y (.float k a) (.float k' d))=some ():=by
 cases b<;>rfl
theorem dM{b:BinOp}{k:FloatKind}{a d:Nat}(h:tev tm x = .v (.float k a))(g:tev tm y = .v (.float k d))(hb:b = .eql∨b = .neq∨b = .lss∨b = .leq∨b = .gtr∨b = .geq):tpop P hp tm { dst:=dst,op:=.binOp b t x y u,type:=ty,pos:=pos,after:=aft,guard:=gd }=some (.v (.bool (fcmp b k a d))):=by
 refine Ei (r:=.bool (fcmp b k a d)) h g ?_ ?_ (.inl (vC rH ?_)) rfl
 ·simp[bM]
 ·rcases hb with rfl|rfl|rfl|rfl|rfl|rfl<;>simp[Ao]
 ·rcases hb with rfl|rfl|rfl|rfl|rfl|rfl<;>(simp[binOp,Op.floatCmp,fcmp];rfl)
def farith(op:BinOp)(k:FloatKind)(a b:Nat):Option Nat:=some (arN op k a b)
theorem Hb{b:BinOp}{k:FloatKind}{a d:Nat}(hb:b = .add∨b = .sub∨b = .mul∨b = .quo):prun P (Op.floatArith b k a d)=some (.float k (arN b k a d))∨prun P (Op.floatArith b k a d)=none:=by
 have e:prun P (Op.floatArith b k a d)=prun P (match farith0 b k a d with|some r=>pure (.float k r)|none=>do pure (.float k (← choose (.nanBits k a d))):Sem Value):=by
  rcases hb with rfl|rfl|rfl|rfl<;>rfl
 rw[e]
 unfold arN
 cases farith0 b k a d with
 | some r=>exact .inl rfl
 | none=>exact .inr rfl
theorem Cw{b:BinOp}{k:FloatKind}{a d r:Nat}(h:tev tm x = .v (.float k a))(g:tev tm y = .v (.float k d))(hb:b = .add∨b = .sub∨b = .mul∨b = .quo)(hr:farith b k a d=some r):tpop P hp tm { dst:=dst,op:=.binOp b t x y u,type:=ty,pos:=pos,after:=aft,guard:=gd }=some (.v (.float k r)):=by
 obtain rfl:=Option.some.inj hr
 refine Ei (r:=.float k (arN b k a d)) h g ?_ ?_ ?_ rfl
 ·simp[bM]
 ·rcases hb with rfl|rfl|rfl|rfl<;>simp[Ao]
 ·have e : binOp b t (.float k a) (.float k d) = Op.floatArith b k a d := by
    rcases hb with rfl|rfl|rfl|rfl<;>simp[binOp]
  rcases Hb (P:=P) (k:=k) (a:=a) (d:=d) hb with h1|h1
  ·exact .inl (vC rH (by rw[e];exact h1))
  ·exact .inr (vC rH (by rw[e];exact h1))
theorem Ag{k:FloatKind}{a:Nat}(h:tev tm x = .v (.float k a)):tpop P hp tm { dst:=dst,op:=.unOp .neg t x,type:=ty,pos:=pos,after:=aft,guard:=gd }=some (.v (.float k (Op.negFloat k a))):=by
 have h1:tgen P tm { dst:=dst,op:=.unOp .neg t x,type:=ty,pos:=pos,after:=aft,guard:=gd }=some (inj 3 (.float k (Op.negFloat k a))):=by
  refine iV (by simpa [Op.operands] using gU h) (oU rfl ?_ (.inl ?_)) rfl
  ·show Nq .neg (erased tm x)=_
   rw[aX h]
   rfl
  ·show prun P (Op.unary .neg (erased tm x) >>= fun r=>(pure (Next.value r):Sem Next))=_
   rw[aE,aX h]
   rfl
 exact h1
def trI(way:Ieee.Toward)(b:Nat):Option Nat:=
 if dZ .f64 b=true then some b else some (FloatKind.f64.encode ((FloatKind.f64.decode b).integral way))
theorem Mt{n:String}{way:Ieee.Toward}{b r:Nat}(hn:dZ .f64 b=false)(h:trI way b=some r):prun P (Extern.MathFloor.toIntegral n way #[.float .f64 b])=some (.float .f64 r):=by
 unfold trI at h
 rw[hn] at h
 obtain rfl:=Option.some.inj h
 show prun P (match FloatKind.f64.decode b with
  | .nan s t=>if FloatKind.f64.format.quiet t=t then (pure (Value.float .f64 b):Sem Value) else do
   let kept ← choose (.extern "math.Floor,Ceil,Trunc,RoundToEven.signallingNaN kept" 2)
   pure (Value.float .f64 (if kept==1 then b else FloatKind.f64.encode (.nan s (FloatKind.f64.format.quiet t))))
  | d=>pure (Value.float .f64 (FloatKind.f64.encode (d.integral way))))=_
 have hr:=Kl hn
 split
 ·rename_i s t e;exact absurd e (hr s t)
 ·rfl
variable {fo:Operand} {g:FuncId} {args:Array Operand} {tyA:Array TypeId} {F:Array Value→Sem Value}
theorem nS{k:FloatKind}{b:Nat}(h:dZ k b=false):[Value.float k b].all bN=true:=by
 have e:bN (.float k b)=(true&&!dZ k b):=rfl
 rw[List.all_cons,List.all_nil,e,h]
 rfl
def fbits(k:FloatKind)(b:Nat):Option Int:=if dZ k b=true then none else some ((b:Nat):Int)
theorem TO.fb{k:FloatKind}{ik:IntKind}{b:Nat}{n:Int}(hw:twant ops tm { dst:=dst,op:=.call { callee:=.value fo,args:=args,argTypes:=tyA },type:=ty,pos:=pos,after:=aft,guard:=gd }=some true)(hf:tev tm fo = .func g [] [])(hF:tG P g=some F)(hl:args.toList.map (tev tm)=[.v (.float k b)])(hb:fbits k b=some n)(hv:prun P (F ⟨[.float k b]⟩)=some (.int ik ((b:Nat):Int)))
 (ht:tput tm dst (.v (.int ik n))=tm2) (hq:TO C P ops rest ⟨tm2,hp⟩ Q):TO C P ops ({ dst:=dst,op:=.call { callee:=.value fo,args:=args,argTypes:=tyA },type:=ty,pos:=pos,after:=aft,guard:=gd }::rest) ⟨tm,hp⟩ Q:=by
 unfold fbits at hb
 split at hb
 ·cases hb
 ·rename_i hn
  obtain rfl:=Option.some.inj hb
  exact TO.ex hw hf hF hl rfl (nS (Bool.eq_false_iff.2 hn)) hv rfl rfl rfl ht hq
theorem TD.fb{k:FloatKind}{ik:IntKind}{b:Nat}{n:Int}(hw:twant ops tm { dst:=dst,op:=.call { callee:=.value fo,args:=args,argTypes:=tyA },type:=ty,pos:=pos,after:=aft,guard:=gd }=some true)(hf:tev tm fo = .func g [] [])(hF:tG P g=some F)(hl:args.toList.map (tev tm)=[.v (.float k b)])(hb:fbits k b=some n)(hv:prun P (F ⟨[.float k b]⟩)=some (.int ik ((b:Nat):Int)))
 (ht:tput tm dst (.v (.int ik n))=tm2) (hq:TD C P ops ms rest (i+1) (i::np) 0 ⟨tm2,hp⟩ Q):TD C P ops ms ({ dst:=dst,op:=.call { callee:=.value fo,args:=args,argTypes:=tyA },type:=ty,pos:=pos,after:=aft,guard:=gd }::rest) i np 0 ⟨tm,hp⟩ Q:=by
 unfold fbits at hb
 split at hb
 ·cases hb
 ·rename_i hn
  obtain rfl:=Option.some.inj hb
  exact TD.ex hw hf hF hl rfl (nS (Bool.eq_false_iff.2 hn)) hv rfl rfl rfl ht hq
def Du(P:Program)(g:FuncId):Bool:=match P.funcs[g]? with
 | some fd=>Ec fd&&fd.body.isNone
 | none=>false
theorem Fn{b:Nat}(hA:Du P g=true)(hn:dZ .f64 b=true)(h:List Blk):aJ P g=false∧xslow P g [.float .f64 b] h=some (.float .f64 b,h,none):=by
 unfold Du at hA
 split at hA
 ·rename_i fd hfd
  simp only[Bool.and_eq_true] at hA
  obtain⟨h1,h2⟩:=hA
  have hb:fd.body=none:=by simpa using h2
  refine⟨by simp[aJ,hfd,hb],?_⟩
  have hv:Jl P g [.float .f64 b]=none:=by
   unfold Jl
   rw[if_neg]
   simp only[List.all_cons,List.all_nil,bN,depth,clean,jT,hn]
   decide
  have hz:yU fd=false:=by
   unfold Ec at h1
   simp only[Bool.and_eq_true,Bool.or_eq_true,beq_iff_eq] at h1
   unfold yU
   rcases h1.1 with e|e|e<;>rw[e]<;>rfl
  simp only[xslow,hfd,hb,Gv,hv,La,hz,h1,hn,Bool.false_eq_true,if_false,if_true,ite_self]
 ·cases hA
theorem TO.tr{n:String}{way:Ieee.Toward}{b r:Nat}(hw:twant ops tm { dst:=dst,op:=.call { callee:=.value fo,args:=args,argTypes:=tyA },type:=ty,pos:=pos,after:=aft,guard:=gd }=some true)(hf:tev tm fo = .func g [] [])(hF:tG P g=some (Extern.MathFloor.toIntegral n way))(hA:Du P g=true)(hl:args.toList.map (tev tm)=[.v (.float .f64 b)])(hr:trI way b=some r)
 (ht:tput tm dst (.v (.float .f64 r))=tm2) (hq:TO C P ops rest ⟨tm2,hp⟩ Q):TO C P ops ({ dst:=dst,op:=.call { callee:=.value fo,args:=args,argTypes:=tyA },type:=ty,pos:=pos,after:=aft,guard:=gd }::rest) ⟨tm,hp⟩ Q:=by
 subst ht
 refine TO.g hw ?_ hq
 cases hn:dZ .f64 b with
 | true =>
  have e:r=b:=by unfold trI at hr;rw[hn] at hr;exact (Option.some.inj hr).symm
  subst e
  exact Pf hf hl rfl (Fn hA hn) rfl rfl
 | false=>exact Nl hf hF hl rfl (nS hn) (Mt hn hr) rfl rfl rfl
end
end Go.Rex
namespace Go.Rex
open Go.RowKit
section
variable {P:Program} {tm:List TV} {hp:List TB}
variable {dst:Option Tmp} {ty:TypeId} {pos:String} {aft:Array Edge} {gd:Option (Nat×Bool)} {x y:Operand} {t u:TypeId}
theorem Bz{g:Bool}(h:iB P t=some g):prun P (isAgg t)=some g:=by
 unfold iB at h
 unfold isAgg
 rw[aE]
 split at h
 ·rename_i hu;rw[cC hu];exact h
 ·rename_i hu;rw[cC hu];exact h
 ·rename_i d h1 h2 hu
  rw[cC hu,Option.bind_some]
  obtain rfl:=Option.some.inj h
  split
  ·exact absurd rfl (h1 _)
  ·exact absurd rfl (h2 _ _)
  ·rfl
 ·cases h
theorem gW{cs:Array Value}{off:Nat}{v:Value}(h:iB P t=some false)(hg:cs[off]?=some v):prun P (part t cs off)=some v:=by
 unfold part
 rw[aE,Bz h,Option.bind_some]
 simp only[Bool.false_eq_true,if_false,hg]
 rfl
theorem yT{d:Nat}{k:IntKind}{a b:Int}(ht:P.underlying t=some (.int k)):prun P (Op.equalIn (d+1) t (.int k a) (.int k b))=some (a==b):=by
 unfold Op.equalIn
 rw[aE,cC ht]
 simp
 rfl
inductive EqF (P:Program) (d:Nat) (X Y:Array Value):List Field→List Bool→Prop
 | nil:EqF P d X Y [] []
 | cons {f : Field} {fs : List Field} {b : Bool} {bs : List Bool} {u v : Value} (hn : f.name ≠ "_") (hu : prun P (part f.type X f.offset) = some u) (hv : prun P (part f.type Y f.offset) = some v) (he : prun P (Op.equalIn d f.type u v) = some b) (hr : EqF P d X Y fs bs) : EqF P d X Y (f :: fs) (b :: bs)
theorem Eo{d:Nat}{X Y:Array Value}:∀(fs:List Field) (bs:List Bool),EqF P d X Y fs bs →
 prun P (forIn fs ((none, ()) : Option Bool × Unit) fun f _ => if f.name ≠ "_" then do
  if !(← Op.equalIn d f.type (← part f.type X f.offset) (← part f.type Y f.offset)) then pure (.done (some false,())) else pure (.yield (none,()))
  else pure (.yield (none,())))=some (if bs.all id then (none,()) else (some false,()))
 | [],[],.nil=>rfl
 | f::fs,b::bs,.cons hn hu hv he hr=>by
  rw[List.forIn_cons,aE]
  simp only[hn,ne_eq,not_false_eq_true,if_true]
  rw[aE,hu,Option.bind_some,aE,hv,Option.bind_some,aE,he,Option.bind_some]
  cases b with
  | false=>rfl
  | true =>
   simp only[Bool.not_true,Bool.false_eq_true,if_false,xC,Option.bind_some,List.all_cons,id,Bool.true_and]
   exact Eo fs bs hr
theorem Fa{d:Nat}{fields:Array Field}{X Y:Array Value}{bs:List Bool}(ht:P.underlying t=some (.struct fields))(hs:P.stoodInHeld t=false)(hf:EqF P d X Y fields.toList bs):prun P (Op.equalIn (d+1) t (.agg X) (.agg Y))=some (bs.all id):=by
 unfold Op.equalIn
 rw[aE,cC ht]
 simp only[Option.bind_some]
 rw[aE,show prun P program=some P from rfl,Option.bind_some]
 simp only[hs,Bool.false_eq_true,if_false]
 have:=Eo fields.toList bs hf
 rw[aE,← Array.forIn_toList,this,Option.bind_some]
 cases bs.all id<;>rfl
theorem Hf{a b:Value}{r:Bool}(h:prun P (Op.equalIn (9999+1) t a b)=some r):prun P (Op.equal t a b)=some r:=h
end
end Go.Rex
namespace Go.Rex
open Go.RowKit
class Mv (p:Prop) (q:outParam Prop):Prop where
 mv:q→p
theorem mv{p q:Prop}[i:Mv p q](h:q):p:=i.mv h
section
variable {C:Ctx} {P:Program} {s:TS} {Q:Exit→TS→Prop} {next:TS→Prop}
instance {x y:Code}:Mv (TX C P (.seq x y) s Q) (TX C P x s (zH (fun s=>TX C P y s Q) Q)):=⟨TX.seq⟩
instance {id:Nat} {b:Code}:Mv (TX C P (.block id b) s Q) (TX C P b s (kW id Q)):=⟨TX.block⟩
instance:Mv (TX C P .skip s Q) (Q .normal s):=⟨TX.skip⟩
instance {id:Nat}:Mv (TX C P (.exit id) s Q) (Q (.exit id) s):=⟨TX.exit⟩
instance:Mv (TX C P .ret s Q) (Q .ret s):=⟨TX.ret⟩
instance:Mv (zH next Q .normal s) (next s):=⟨Nc⟩
instance {id:Nat}:Mv (zH next Q (.exit id) s) (Q (.exit id) s):=⟨Ms⟩
instance:Mv (zH next Q .ret s) (Q .ret s):=⟨Mg⟩
instance {id:Nat}:Mv (kW id Q .normal s) (Q .normal s):=⟨Kf⟩
instance {id:Nat}:Mv (kW id Q .ret s) (Q .ret s):=⟨Hh⟩
instance {id:Nat}:Mv (kW id Q (.exit id) s) (Q .normal s):=⟨Ha⟩
end
theorem k1{a:Bool}(h:a=true):a=true:=h
theorem k2{a:Option Bool}(h:a=some true):a=some true:=h
def an{p q:Prop}:=@And.intro p q
def z6:=And.intro @List.toList_toArray.{0} <| And.intro @ite_true.{1} <| And.intro @ite_false.{1} <| And.intro @true_and <| And.intro @and_true <| And.intro @and_self <| And.intro @Bool.false_eq_true <| And.intro @decide_true @decide_false
def z7:=And.intro @List.getElem?_toArray.{0} <| And.intro @List.getElem?_cons_succ.{0} <| And.intro @List.getElem?_cons_zero.{0} @Option.bind_some.{0,0}
def zy:=And.intro z1 <| And.intro z2 z3
def zz:=And.intro z1 <| And.intro z2 <| And.intro z3 <| And.intro z4 z6
theorem wr{tm tm':List TV}{hp hp':List TB}(fl:List (Option Nat))(hok:sM fl=true)(hB:RB fl hp hp' fl)(hT:RNs fl tm tm':=by (repeat (first|exact RNs.nil|refine RNs.cons .Z ?_|refine RNs.cons (.keep rfl rfl) ?_|refine RNs.cons (.lsl rfl rfl) ?_|refine RNs.cons (.lsl rfl (by simp only[List.length_set])) ?_|refine RNs.cons (.lptr rfl) ?_|refine RNs.cons (.nil rfl) ?_|refine RNs.cons .nl ?_|refine RNs.cons (.tuple' ?_) ?_|refine RNs.cons (.agg' ?_) ?_))):Wk ⟨tm,hp⟩ ⟨tm',hp'⟩:=Wk.ren fl hok hB hT
theorem rv{fl:List (Option Nat)}{hp:List TB}{n:Nat}{row row':List TV}{hp':List TB}{l:List (Option Nat)}(h:RB fl hp hp' l)(hb:hp[n]?=some (.var row))(hr:RNs fl row row':=by (repeat (first|exact RNs.nil|refine RNs.cons .Z ?_|refine RNs.cons (.keep rfl rfl) ?_|refine RNs.cons (.lsl rfl rfl) ?_|refine RNs.cons (.lsl rfl (by simp only[List.length_set])) ?_|refine RNs.cons (.lptr rfl) ?_|refine RNs.cons (.nil rfl) ?_|refine RNs.cons .nl ?_|refine RNs.cons (.tuple' ?_) ?_|refine RNs.cons (.agg' ?_) ?_))):RB fl hp (.var row'::hp') (some n::l):=.var h hb hr
section
variable {C:Ctx} {P:Program} {ops:Array Oper} {rest:List Oper} {tm tm2:List TV} {hp:List TB} {Q:TS→Prop}
variable {dst:Option Tmp} {ty:TypeId} {pos:String} {aft:Array Edge} {gd:Option (Nat×Bool)} {ms:List Nat} {i:Nat} {np:List Nat} {c:Nat}
theorem bmG{α:Type}{f:α→List TV}{xs:List α}{t:TypeId}{n es:Nat}{ps:Array (Nat×Operand)}{l:List (Nat×TV)}{rows:List (List TV)}(hx:ps.toList.map (fun q=>(q.1,tev tm q.2))=l)(hv:tslice P t n l=some (es,rows))(hr:rows=xs.map f) :
 OpG C P { dst:=dst,op:=.buildSlice t n ps,type:=ty,pos:=pos,after:=aft,guard:=gd } ⟨tm,hp⟩ ⟨tput tm dst (.list es (xs.map f)),hp⟩:=by
 subst hr
 exact OpG.buildSlice (s:=⟨tm,hp⟩) (by simp only[hx];exact hv)
theorem TO.bm{α:Type}(f:α→List TV)(xs:List α){t:TypeId}{n es:Nat}{ps:Array (Nat×Operand)}{l:List (Nat×TV)}{rows:List (List TV)}(hw:twant ops tm { dst:=dst,op:=.buildSlice t n ps,type:=ty,pos:=pos,after:=aft,guard:=gd }=some true)(hx:ps.toList.map (fun q=>(q.1,tev tm q.2))=l)(hv:tslice P t n l=some (es,rows))(hr:rows=xs.map f)
 (ht:tput tm dst (.list es (xs.map f))=tm2) (hq:TO C P ops rest ⟨tm2,hp⟩ Q):TO C P ops ({ dst:=dst,op:=.buildSlice t n ps,type:=ty,pos:=pos,after:=aft,guard:=gd }::rest) ⟨tm,hp⟩ Q:=by
 subst ht;exact TO.g hw (bmG hx hv hr) hq
theorem TD.bm{α:Type}(f:α→List TV)(xs:List α){t:TypeId}{n es:Nat}{ps:Array (Nat×Operand)}{l:List (Nat×TV)}{rows:List (List TV)}(hw:twant ops tm { dst:=dst,op:=.buildSlice t n ps,type:=ty,pos:=pos,after:=aft,guard:=gd }=some true)(hx:ps.toList.map (fun q=>(q.1,tev tm q.2))=l)(hv:tslice P t n l=some (es,rows))(hr:rows=xs.map f)
 (ht:tput tm dst (.list es (xs.map f))=tm2) (hq:TD C P ops ms rest (i+1) (i::np) 0 ⟨tm2,hp⟩ Q):TD C P ops ms ({ dst:=dst,op:=.buildSlice t n ps,type:=ty,pos:=pos,after:=aft,guard:=gd }::rest) i np 0 ⟨tm,hp⟩ Q:=by
 subst ht;exact TD.g hw (bmG hx hv hr) hq
end
end Go.Rex
namespace Go.Rex
open Go.RowKit
theorem Cp{α:Type}{f:α→List TV}{xs:List α}{u:α}{es k fo:Nat}{P:Program}{p:TV}{t:TypeId}(hf:∀ a,(f a).length=es)(hk:xs[k]?=some u)(hp:aS P t (f u) fo=some p):aS P t ((xs.map f).flatten) (k*es+fo)=some p:=by
 obtain⟨h1,h2⟩:=Kj hf hk
 unfold aS at hp ⊢
 split at hp
 ·rename_i ha
  split at hp
  ·rename_i hc
   obtain⟨ho,hle⟩:=hc
   rw[hf] at hle
   obtain rfl:=Option.some.inj hp
   rw[if_pos ⟨ho,by omega⟩,← h1,List.drop_take,List.take_take,List.drop_drop,Nat.min_eq_left (by omega)]
  ·cases hp
 ·have hlt:=(List.getElem?_eq_some_iff.1 hp).1
  rw[hf] at hlt
  rw[← h1,List.getElem?_take,if_pos hlt,List.getElem?_drop] at hp
  exact hp
 ·cases hp
theorem No{α:Type}{f:α→List TV}{xs:List α}{u:α}{es fo off:Nat}{P:Program}{hp:List TB}{p:TV}{t:TypeId}{iv:Int}{row:List TV}{vb:Bool}(hg:bR xs iv=some u)(hc:row=(xs.map f).flatten)(hf:∀ a,(f a).length=es)(hoff:off=0+iv.toNat*es+fo)(hpp:aS P t (f u) fo=some p):tload P hp t (.fptr vb row off)=some p:=by
 subst hoff hc
 simp only[tload,aV,Nat.zero_add]
 exact Cp hf (dE hg) hpp
section
variable {C:Ctx} {P:Program} {ops:Array Oper} {rest:List Oper} {tm tm2:List TV} {hp hp2:List TB} {Q:TS→Prop} {o:Oper}
variable {dst:Option Tmp} {ty:TypeId} {pos:String} {aft:Array Edge} {gd:Option (Nat×Bool)} {p q:TV} {ms:List Nat} {i:Nat} {np:List Nat} {c:Nat}
end
inductive EqI (P:Program) (d:Nat) (X Y:Array Value) (e n:Nat):Nat→List Bool→Prop
 | nil (i:Nat):EqI P d X Y e n i []
 | cons {i:Nat} {b:Bool} {bs:List Bool} {u v:Value} (hu:prun P (part e X (i*n))=some u) (hv:prun P (part e Y (i*n))=some v) (he:prun P (Op.equalIn d e u v)=some b) (hr:EqI P d X Y e n (i+1) bs):EqI P d X Y e n i (b::bs)
theorem Be{P:Program}{d:Nat}{X Y:Array Value}{e n:Nat}:∀(bs:List Bool) (i:Nat),EqI P d X Y e n i bs →
 prun P (forIn (List.range' i bs.length 1) ((none,()):Option Bool×Unit) fun i _=>do
  if !(← Op.equalIn d e (← part e X (i*n)) (← part e Y (i*n))) then pure (.done (some false,())) else pure (.yield (none,())))=some (if bs.all id then (none,()) else (some false,()))
 | [],_,_=>rfl
 | b::bs,i,.cons hu hv he hr=>by
  rw[List.length_cons,List.range'_succ,List.forIn_cons,aE]
  rw[aE,hu,Option.bind_some,aE,hv,Option.bind_some,aE,he,Option.bind_some]
  cases b with
  | false=>rfl
  | true =>
   simp only[Bool.not_true,Bool.false_eq_true,if_false,xC,Option.bind_some,List.all_cons,id,Bool.true_and]
   exact Be bs (i+1) hr
theorem Kb{P:Program}{t:TypeId}{d len e n:Nat}{X Y:Array Value}{bs:List Bool}(ht:P.underlying t=some (.array len e))(hs:prun P (sizeOf e)=some n)(hf:EqI P d X Y e n 0 bs)(hl:bs.length=len):prun P (Op.equalIn (d+1) t (.agg X) (.agg Y))=some (bs.all id):=by
 subst hl
 unfold Op.equalIn
 rw[aE,cC ht]
 simp only[Option.bind_some]
 rw[aE,hs,Option.bind_some]
 simp only[Std.Legacy.Range.forIn_eq_forIn_range',Std.Legacy.Range.size,Nat.sub_zero,Nat.add_sub_cancel,Nat.div_one]
 rw[aE,Be bs 0 hf,Option.bind_some]
 cases bs.all id<;>rfl
section
variable {P:Program} {tm:List TV} {hp:List TB} {dst:Option Tmp} {ty:TypeId} {pos:String} {aft:Array Edge} {gd:Option (Nat×Bool)}
end
end Go.Rex
namespace Go.Rex
open Go.RowKit
def Keeps(h h':List Blk):Prop:=h.length≤h'.length∧∀ m:Nat,h[m]?=some Blk.dfr→h'[m]?=some Blk.dfr
section
variable {P:Program} {C:Ctx}
structure CKeeps(C:Ctx):Prop where
 call:∀ {f args h v h' w},C.call f args h=some (v,h',w)→Keeps h h'
 round:∀ {l args h v h' w},C.round l args h=some (v,h',w)→Keeps h h'
end
end Go.Rex
namespace Go.Rex
open Go.RowKit
section
variable {Fz Fz':Nat→Prop} {h0 h h':List Blk} {L:Nat→LI} {s s':TS} {tm:List Value}
end
section
variable {C:Ctx} {P:Program} {s s':TS} {Q Q':Exit→TS→Prop}
end
end Go.Rex
namespace Go.Rex
open Go.RowKit
structure Out(X:Type) where
 lo:Nat
 base:Nat
 R:X→(Nat→Prop)→List Blk→Prop
 hlo:lo≤base
 stay:∀ {x:X} {Fz Fz':Nat→Prop} {h h':List Blk},R x Fz h→Ext h h'→Grow h Fz Fz' h h'→(FZ Fz' h')→R x Fz' h'
section
variable {E X:Type} {C:Ctx} {P:Program} {O:Out X}
variable {tm tm':List TV} {s s':TS} {x:X} {Q Q':Exit→List TV→X→Prop} {c:Code}
structure Back(o:Oper)(f:Operand)(args:List Operand)(dst:Option Tmp):Prop where
 eq:∃(tys:Array TypeId) (ty:TypeId) (pos:String) (aft:Array Edge) (gd:Option (Nat×Bool)),o={ dst:=dst,op:=.call { callee:=.value f,args:=⟨args⟩,argTypes:=tys },type:=ty,pos:=pos,after:=aft,guard:=gd }
section
variable {nexty:List TV→X→Prop}
end
end
end Go.Rex
namespace Go.Rex
open Go.RowKit
def odsts:List Oper→List Nat
 | []=>[]
 | o::l=>match o.dst with
  | some d=>d::odsts l
  | none=>odsts l
def cdsts:Code→List Nat
 | .seq x y=>cdsts x++cdsts y
 | .cond _ x y=>cdsts x++cdsts y
 | .block _ b=>cdsts b
 | .loop b=>cdsts b
 | .region _ ops _=>odsts ops.toList
 | _=>[]
section
variable {P:Program} {C:Ctx}
end
end Go.Rex
namespace Go.Rex
open Go.RowKit
section
variable {Fz Fz':Nat→Prop} {h0 h h':List Blk} {L:Nat→LI} {s s':TS} {tm:List Value}
end
def hand{E σ ε:Type}(step:E→σ→Option (σ ⊕ ε))(e:E)(x:σ ⊕ ε):Option (Bool×(σ ⊕ ε)):=
 match x with
 | .inl y=>(step e y).map fun r=>match r with
  | .inl y'=>(true,.inl y')
  | .inr z=>(false,.inr z)
 | .inr _=>none
section
variable {P:Program}
variable {s:TS} {Q:Exit→TS→Prop}
end
end Go.Rex
namespace Go.Rex
open Go.RowKit
section
variable {C:Ctx} {P:Program} {tm tm2:List TV} {hp:List TB} {ops:Array Oper} {rest:List Oper} {Q:TS→Prop}
variable {dst:Option Tmp} {ty:TypeId} {pos:String} {aft:Array Edge} {gd:Option (Nat×Bool)} {x y:Operand} {t u:TypeId}
open Classical in
end
end Go.Rex
namespace Go.Rex
open Go.RowKit
section
variable {C:Ctx} {P:Program} {Fz:Nat→Prop} {h h0:List Blk} {L:Nat→LI} {s:TS} {tm:List Value}
variable {dst:Option Tmp} {ty:TypeId} {pos:String} {aft:Array Edge} {gd:Option (Nat×Bool)}
end
section
variable {C:Ctx} {P:Program} {ops:Array Oper} {rest:List Oper} {tm tm2:List TV} {hp hp2:List TB} {Q:TS→Prop} {o:Oper}
variable {dst:Option Tmp} {ty:TypeId} {pos:String} {aft:Array Edge} {gd:Option (Nat×Bool)} {p q:TV} {ms:List Nat} {i:Nat} {np:List Nat} {c:Nat}
end
section
variable {C:Ctx} {P:Program} {tm tm2:List TV} {hp hp2:List TB} {Q:Exit→TS→Prop} {c:Code}
end
end Go.Rex
namespace Go.Rex
open Go.RowKit
def zZ(P:Program)(g:FuncId)(res:List Blk→Value×List Blk)(k:Nat):Nat→Ctx
 | 0=>⟨fun _ _ _=>none,fun _ _ _=>none⟩
 | d+1=>⟨fun f args h=>if f=g then (match args with|[]=>some ((res h).1,(res h).2,none)|_=>none) else gP (zZ P g res k d) P k f args h,rE (zZ P g res k d) P k⟩
def Lx(P:Program)(g:FuncId)(res:List Blk→Value×List Blk):Prop:=
 ∀(h:List Blk) (B lo:Nat) (D:Nat→Prop) (m:NMap) (w:World),Rel B lo D m h w→lo≤h.length→Calls P g ⟨[]⟩ w (Good B lo D m h w (res h).1 (res h).2)
theorem tV{P:Program}(hm:P.follows .mixedOrders=true){g:FuncId}{res:List Blk→Value×List Blk}(hres:Lx P g res)(k:Nat):∀ d,CtxOk P (zZ P g res k d)
 | 0=>⟨fun h=>by simp[zZ] at h,fun h=>by simp[zZ] at h⟩
 | d+1 =>
  have hD:lH P (zZ P g res k d):=fun {_ _ _ _ _ _ _} hv {_ _ _ _ _ _ _ _ _} hr hlo hA hw hQ=>rW (tV hm hres k d) hm hv hr hlo hA hw hQ
  ⟨fun {f args h v h' wr} hv {B lo D m w args'} hr hlo hw hargs=>by
   simp only[zZ] at hv
   split at hv
   ·rename_i hf
    subst hf
    split at hv
    ·obtain⟨rfl,rfl,rfl⟩:(res h).1=v∧(res h).2=h'∧none=wr:=by simpa using hv
     obtain rfl:args'=[]:=by have:=hargs.len;simpa using this
     exact hres _ _ _ _ _ _ hr hlo
    ·cases hv
   ·exact lA (tV hm hres k d) hD hv hr hlo hw hargs,fun h=>oL (tV hm hres k d) hD h⟩
def Na(P:Program)(g:FuncId)(res:List Blk→Value×List Blk)(k d:Nat)(f:FuncId)(args:List Value)(h:List Blk):AOut:=(zZ P g res k d).call f args h
theorem Kp{P:Program}(hm:P.follows .mixedOrders=true){g:FuncId}{res:List Blk→Value×List Blk}(hres:Lx P g res){k d:Nat}{f:FuncId}(hv:uX (Na P g res k d f [] GH)=true):AwT P f:=by
 intro w hgw hgs
 unfold uX at hv
 split at hv
 ·rename_i h' hx
  refine ((tV hm hres k d).call hx (Rel.start w hgw hgs) (Nat.le_refl _) (fun n h=>by cases h) VRs.nil).mono ?_
  rintro e w' ⟨v',m',rfl,hp,hvr⟩
  cases hvr
  exact⟨rfl,hp.below⟩
 ·cases hv
def Olds(h h':List Blk)(w:Option Nat):Prop:=h.length≤h'.length∧∀ m:Nat,m<h.length→wge w (m+1)=true→h'[m]?=h[m]?
section
variable {P:Program} {C:Ctx}
structure COlds(C:Ctx):Prop where
 call:∀ {f args h v h' w},C.call f args h=some (v,h',w)→Olds h h' w
 round:∀ {l args h v h' w},C.round l args h=some (v,h',w)→Olds h h' w
end
end Go.Rex
namespace Go.Rex
open Go.RowKit
section
variable {C:Ctx} {P:Program} {h0 h h':List Blk} {Fz Fz':Nat→Prop} {L L':Nat→LI} {s s':TS} {tm:List Value}
def stays(args:List TV)(c:Code)(tm:List TV)(n:Nat):Bool:=(List.range args.length).any fun i=>match args[i]?,tm[i]? with
 | some (.lsl m 0 _),some (.lsl m' 0 _)=>m==n&&m'==n&&!(cdsts c).contains i
 | _,_=>false
end
end Go.Rex
namespace Go.Rex
open Go.RowKit
section
variable {C:Ctx} {P:Program} {h0 h h':List Blk} {Fz Fz':Nat→Prop} {L L':Nat→LI} {s s':TS} {tm:List Value} {dst:Option Tmp} {ty:TypeId} {pos:String} {aft:Array Edge} {gd:Option (Nat×Bool)}
variable {ops:Array Oper} {o:Oper} {rest:List Oper} {Q:TS→Prop} {ms:List Nat} {i:Nat} {np:List Nat} {c:Nat} {tv tv2:List TV} {hp hp2:List TB}
end
end Go.Rex
namespace Go.Rex
open Go.RowKit
section
variable {C:Ctx} {P:Program} {s s':TS} {dst:Option Tmp} {ty:TypeId} {pos:String} {aft:Array Edge} {gd:Option (Nat×Bool)}
noncomputable def Pa{α:Type}(a b:List α):List α:=if b.length=a.length then b else a
inductive Pair:List TB→List TB→List TB→Prop
 | nil:Pair [] [] []
 | cons {es:Nat} {α:Type} {f:α→List TV} {a b:List α} {B B' B2:List TB} (h:Pair B B' B2):Pair (.rows es (a.map f)::B) (.rows es (b.map f)::B') (.rows es ((Pa a b).map f)::B2)
variable {ops:Array Oper} {o:Oper} {rest:List Oper} {Q:TS→Prop} {ms:List Nat} {i:Nat} {np:List Nat} {c:Nat} {tv tv2:List TV} {hp hp2:List TB}
end
end Go.Rex
namespace Go.Rex
section
variable {P:Program} {tm:List TV} {hp:List TB} {dst:Option Tmp} {ty:TypeId} {pos:String} {aft:Array Edge} {gd:Option (Nat×Bool)} {x y z:Operand} {tys:List TypeId}
end
end Go.Rex
