/- An executor of the program's functions on trees of values,proved sound. -/
import Derived.Test.YtneefkifalbplaaGreatRexG6
set_option linter.unusedSimpArgs false
set_option linter.unusedVariables false
set_option linter.defProp false
namespace Go.Rex
open Go.RowKit
def RO(C:Ctx)(P:Program)(lo:Nat)(ops:Array Oper)(l:List Oper)(tm:List Value)(h:List Blk)(Q:List Value→List Blk→Prop):Prop:=
 ∃ tm' h' wr,cR C P ops l tm h=some (tm',h',wr)∧wge wr lo=true∧Q tm' h'
section
variable {C:Ctx} {P:Program} {ro:Option Nat} {lo:Nat} {a:AS} {h:List Blk} {Q:Exit→AS→List Blk→Prop} {ops:Array Oper} {o:Oper} {rest:List Oper} {tm tm2:List Value} {v:Value} {R:List Value→List Blk→Prop}
theorem RO.nil(hq:R tm h):RO C P lo ops [] tm h R:=⟨tm,h,none,rfl,rfl,hq⟩
theorem RO.pop(hw:Region.wanted o (yielded ops ⟨tm⟩)=true)(hp:Rex.pop P (ev tm) o=some v)(ht:bJ tm o.dst v=tm2)(hq:RO C P lo ops rest tm2 h R):RO C P lo ops (o::rest) tm h R:=by
 subst ht
 obtain⟨tm',h',wr,h1,h2,h3⟩:=hq
 exact⟨tm',h',wr,by simp only[cR,if_pos hw,hp,h1],h2,h3⟩
theorem RO.act{h1:List Blk}{w1:Option Nat}(hw:Region.wanted o (yielded ops ⟨tm⟩)=true)(hp:Rex.pop P (ev tm) o=none)(hx:xop C P (ev tm) o h=some (v,h1,w1))(hg:wge w1 lo=true)(ht:bJ tm o.dst v=tm2)(hq:RO C P lo ops rest tm2 h1 R):RO C P lo ops (o::rest) tm h R:=by
 subst ht
 obtain⟨tm',h',wr,h1',h2,h3⟩:=hq
 exact⟨tm',h',wmin w1 wr,by simp only[cR,if_pos hw,hp,hx,h1',Option.map_some],iR hg h2,h3⟩
theorem RO.skip(hw:Region.wanted o (yielded ops ⟨tm⟩)=false)(ht:bJ tm o.dst undef=tm2)(hq:RO C P lo ops rest tm2 h R):RO C P lo ops (o::rest) tm h R:=by
 subst ht
 obtain⟨tm',h',wr,h1,h2,h3⟩:=hq
 exact⟨tm',h',wr,by simp only[cR,hw,Bool.false_eq_true,if_false,h1],h2,h3⟩
theorem XP.region{id:Nat}{l:List Oper}(hl:ops.toList=l)(hreg:No l=true)(hr:RO C P lo ops l a.tm h (fun tm' h'=>Q .normal ⟨tm',a.df⟩ h')):XP C P ro lo (.region id ops false) a h Q:=by
 subst hl
 obtain⟨tm',h',wr,h1,h2,h3⟩:=hr
 exact XP.ops hreg h1 h2 h3
def RD(C:Ctx)(P:Program)(lo:Nat)(ops:Array Oper)(ms:List Nat)(l:List Oper)(i:Nat)(s:Dr)(R:List Value→List Blk→Prop):Prop:=
 ∃ s',dW C P ops ms l i s=some s'∧wge s'.wr lo=true∧R s'.tm s'.h
variable {ms:List Nat} {i:Nat} {np:List Nat} {c:Bool} {wr:Option Nat}
theorem RD.nil(hw:wge wr lo=true)(hq:R tm h):RD C P lo ops ms [] i ⟨tm,h,np,c,wr⟩ R:=⟨_,rfl,hw,hq⟩
theorem RD.pop(hw:Region.wanted o (yielded ops ⟨tm⟩)=true)(hp:Rex.pop P (ev tm) o=some v)(ht:bJ tm o.dst v=tm2)(hq:RD C P lo ops ms rest (i+1) ⟨tm2,h,np,c,wr⟩ R):RD C P lo ops ms (o::rest) i ⟨tm,h,np,c,wr⟩ R:=by
 subst ht
 obtain⟨s',h1,h2⟩:=hq
 exact⟨s',by simp only[dW,gH,if_pos hw,hp,h1],h2⟩
theorem RD.skip(hw:Region.wanted o (yielded ops ⟨tm⟩)=false)(ht:bJ tm o.dst undef=tm2)(hq:RD C P lo ops ms rest (i+1) ⟨tm2,h,np,c,wr⟩ R):RD C P lo ops ms (o::rest) i ⟨tm,h,np,c,wr⟩ R:=by
 subst ht
 obtain⟨s',h1,h2⟩:=hq
 exact⟨s',by simp only[dW,gH,hw,Bool.false_eq_true,if_false,h1],h2⟩
theorem RD.act{h1:List Blk}(hw:Region.wanted o (yielded ops ⟨tm⟩)=true)(hp:Rex.pop P (ev tm) o=none)(hx:xop C P (ev tm) o h=some (v,h1,none))(he:Ext h h1)(ht:bJ tm o.dst v=tm2)(hq:RD C P lo ops ms rest (i+1) ⟨tm2,h1,i::np,false,wr⟩ R):RD C P lo ops ms (o::rest) i ⟨tm,h,np,false,wr⟩ R:=by
 subst ht
 obtain⟨s',h1',h2⟩:=hq
 exact⟨s',by simp only[dW,gH,if_pos hw,hp,hx,Lb he,h1'],h2⟩
theorem XP.drawn{id:Nat}{l:List Oper}{ms:List Nat}(hok:yH ops=true)(hl:ops.toList=l)(hm:masks l []=ms)(hr:RD C P lo ops ms l 0 ⟨a.tm,h,[],false,none⟩ (fun tm' h'=>Q .normal ⟨tm',a.df⟩ h')):XP C P ro lo (.region id ops true) a h Q:=by
 subst hl
 subst hm
 obtain⟨s',h1,h2,h3⟩:=hr
 exact XP.draws hok h1 h2 h3
end
noncomputable def over(P:Program)(f:FuncId):Ctx:=⟨fun g args h=>if g=f∧args=[] then some (.bool true,h,none) else (lim P).call g args h,(lim P).round⟩
def AwT(P:Program)(f:FuncId):Prop:=∀ w,GW w→NG≤w.heap.size→Calls P f ⟨[]⟩ w (fun e w'=>e = .returned (.bool true)∧Below w.heap.size w w')
theorem Kt{P:Program}(hm:P.follows .mixedOrders=true){k d:Nat}{f:FuncId}(hv:Fq (ecall P k d f [] GH)=true):AwT P f:=Hd hm hv
theorem Tc{P:Program}(hm:P.follows .mixedOrders=true){f:FuncId}(hv:AwT P f):CtxOk P (over P f):=
 ⟨fun {g args h v h' wr} hv'=>by
  intro B lo D m w args' hr hlo hw hargs
  unfold over at hv'
  simp only at hv'
  split at hv'
  ·rename_i hg
   obtain⟨rfl,rfl⟩:=hg
   obtain⟨rfl,rfl,rfl⟩:Value.bool true=v∧h=h'∧none=wr:=by simpa using hv'
   obtain rfl:args'=[]:=by have:=hargs.len;simpa using this
   refine (hv w hr.gl.gw (e7 hr.gl.gb hr.le)).mono ?_
   rintro e w' ⟨rfl,hb⟩
   exact⟨_,m,rfl,Post.frame hr hb,VR.of_clean depth _ rfl⟩
  ·exact (aAv hm).call hv' hr hlo hw hargs,
  (aAv hm).round⟩
theorem Hv{P:Program}{f g:FuncId}{args:List Value}{h:List Blk}:(over P f).call g args h=if g=f∧args=[] then some (.bool true,h,none) else (lim P).call g args h:=rfl
theorem aAL{P:Program}(hm:P.follows .mixedOrders=true){f:FuncId}(hv:AwT P f){g:FuncId}{fd:Func}{c:Code}{args:List Value}{h:List Blk}(hf:P.funcs[g]?=some fd)(hb:fd.body=some c)
 {tm:List Value} (htm:args++List.replicate (fd.ntmps-args.length) undef=tm)
 (hx:XP (over P f) P none h.length c ⟨tm,[]⟩ h (fun e a1 h1=>(e = .normal∨e = .ret)∧a1.df=[]∧∃ vs,oB P h1 a1.tm fd.results.toList=some vs∧jQ vs = .bool true))
 {B lo:Nat} {D:Nat→Prop} {m:NMap} {w:World} {args':List Value} (hr:Rel B lo D m h w) (hlo:lo≤h.length) (hargs:VRs D m args args'):Calls P g ⟨args'⟩ w (fun e w'=>e = .returned (.bool true)∧Below w.heap.size w w'):=by
 subst htm
 obtain⟨K,e,a1,h1,w1,hx,hw,he,hdf,vs,hvs,hR⟩:=hx
 have hcall:iT (over P f) P K g args h=some (.bool true,h,none):=by
  unfold iT
  simp only[hf,hb,hx]
  have hend:jR P fd h.length h a1 h1 w1=some (.bool true,h,none):=by
   simp[jR,hdf,bH,hvs,hR,Uc,hw,show bR (.bool true)=true from rfl]
  rcases he with rfl|rfl<;>exact hend
 refine (sN (Tc hm hv) (fun {_ _ _ _ _ _ _} hv' {_ _ _ _ _ _ _ _ _} hr hlo hA hw hQ=>Bc (Tc hm hv) hm hv' hr hlo hA hw hQ) hcall (hr.still h.length (b7 _)) (b7 _) (fun n hn=>by cases hn) hargs).mono ?_
 rintro e' w' ⟨v',m',rfl,hp,hvr⟩
 cases hvr
 exact⟨rfl,hp.below⟩
end Go.Rex
namespace Go.Rex
open Go.RowKit
theorem aAA{P:Program}{ρ:Operand→Value}{o:Oper}{v w:Value}(h:rB P ρ o=some v)(hw:prun P (execOp ρ o)=some (.value w)∨prun P (execOp ρ o)=none):v=w:=by
 unfold rB at h
 split at h
 ·cases h
 ·split at h
  ·split at h
   ·rename_i v0 hp
    split at h
    ·obtain rfl:=a6 h
     rcases hw with hw|hw<;>rw[hw] at hp
     ·cases hp;rfl
     ·cases hp
    ·cases h
   ·cases h
  ·cases h
theorem xN{P:Program}{ρ:Operand→Value}{o:Oper}{w:Value}(h0:pop0 P ρ o=rB P ρ o)(hn:Az P ρ o=some w)(hw:prun P (execOp ρ o)=some (.value w)∨prun P (execOp ρ o)=none):pop P ρ o=some w:=by
 unfold pop
 rw[h0]
 cases h:rB P ρ o with
 | none=>exact hn
 | some v=>rw[aAA h hw]
theorem Mb{P:Program}{ρ:Operand→Value}{d:Option Tmp}{x y:Operand}{tys:Array TypeId}{ty:TypeId}{pos:String}{aft:Array Edge}{gd:Option (Nat×Bool)}{k:FloatKind}{a b:Nat}(hx:ρ x = .float k a)(hy:ρ y = .float k b) :
 pop P ρ { dst:=d,op:=.call { callee:=.builtin .complex,args:=#[x,y],argTypes:=tys },type:=ty,pos:=pos,after:=aft,guard:=gd }=some (.complex k a b):=by
 refine xN rfl ?_ (.inl ?_)
 ·simp[Az,Nf,hx,hy]
 ·have e : execOp ρ { dst := d, op := .call { callee := .builtin .complex, args := #[x, y], argTypes := tys }, type := ty, pos := pos, after := aft, guard := gd } = (do pure (.value (← Builtin.complex_ tys ty #[ρ x, ρ y]))) := by
    simp only[execOp,resolve,invoke,List.map_toArray,List.map_cons,List.map_nil]
    rfl
  rw[e,hx,hy]
  show prun P ((if k = k then (pure (Value.complex k a b) : Sem Value) else stuck "complex: parts of different kinds") >>= fun r => pure (Next.value r)) = _
  rw[a9 rfl]
  rfl
theorem Vw{P:Program}{ρ:Operand→Value}{d:Option Tmp}{x:Operand}{tys:Array TypeId}{ty:TypeId}{pos:String}{aft:Array Edge}{gd:Option (Nat×Bool)}{k:FloatKind}{a b:Nat}(hx:ρ x = .complex k a b) :
 pop P ρ { dst:=d,op:=.call { callee:=.builtin .real,args:=#[x],argTypes:=tys },type:=ty,pos:=pos,after:=aft,guard:=gd }=some (.float k a):=by
 refine xN rfl ?_ (.inl ?_)
 ·simp[Az,Nf,hx]
 ·simp[execOp,resolve,invoke,hx]
  rfl
theorem Vx{P:Program}{ρ:Operand→Value}{d:Option Tmp}{x:Operand}{tys:Array TypeId}{ty:TypeId}{pos:String}{aft:Array Edge}{gd:Option (Nat×Bool)}{k:FloatKind}{a b:Nat}(hx:ρ x = .complex k a b) :
 pop P ρ { dst:=d,op:=.call { callee:=.builtin .imag,args:=#[x],argTypes:=tys },type:=ty,pos:=pos,after:=aft,guard:=gd }=some (.float k b):=by
 refine xN rfl ?_ (.inl ?_)
 ·simp[Az,Nf,hx]
 ·simp[execOp,resolve,invoke,hx]
  rfl
inductive TV
 | U
 | v (x:Value)
 | agg (l:List TV)
 | tuple (l:List TV)
 | func (f:FuncId) (first caps:List TV)
 | list (es:Nat) (rows:List (List TV))
 | fptr (vb:Bool) (row:List TV) (off:Nat)
 | lptr (n r o:Nat)
 | lsl (n o len:Nat)
structure LI where
 ok:Bool
 nm:Option Nat
 es:Nat
 tot:Nat
def noL:Nat→LI:=fun _=>⟨false,none,0,0⟩
def sL:Value→Bool
 | .agg _=>false
 | .tuple _=>false
 | .func (.yield _) ⟨[]⟩ ⟨[]⟩=>true
 | .func ..=>false
 | x=>bR x
inductive VL (Fz:Nat→Prop) (h:List Blk):(Nat→LI)→TV→Value→Prop
 | U (L:Nat→LI) (x:Value):VL Fz h L .U x
 | v (L:Nat→LI) (x:Value) (hx:sL x=true):VL Fz h L (.v x) x
 | agg (L:Nat→LI) (l:List TV) (l':List Value) (hl:l'.length=l.length) (ha:∀(i:Nat) p x,l[i]?=some p→l'[i]?=some x→VL Fz h L p x):VL Fz h L (.agg l) (.agg ⟨l'⟩)
 | tuple (L:Nat→LI) (l:List TV) (l':List Value) (hl:l'.length=l.length) (ha:∀(i:Nat) p x,l[i]?=some p→l'[i]?=some x→VL Fz h L p x):VL Fz h L (.tuple l) (.tuple ⟨l'⟩)
 | func (L : Nat → LI) (f : FuncId) (a b : List TV) (a' b' : List Value) (la : a'.length = a.length) (ha : ∀ (i : Nat) p x, a[i]? = some p → a'[i]? = some x → VL Fz h noL p x)
     (lb:b'.length=b.length) (hb:∀(i:Nat) p x,b[i]?=some p→b'[i]?=some x→VL Fz h noL p x):VL Fz h L (.func f a b) (.func (.func f) ⟨a'⟩ ⟨b'⟩)
 | nillist (L:Nat→LI) (es:Nat):VL Fz h L (.list es []) (.slice none 0 0)
 | vague (L:Nat→LI) (es:Nat):VL Fz h L (.list es []) vag
 | list (L : Nat → LI) (es : Nat) (rows : List (List TV)) (n o c : Nat) (cs : List Value) (eb : Nat) (hn : Fz n) (hb : h[n]? = some (.cells eb cs)) (he : eb = es ∨ eb = 0) (hw : ∀ r ∈ rows, r.length = es) (hc : rows.length ≤ c) (hle : o + rows.length * es ≤ cs.length)
     (ha:∀(j:Nat) p x,rows.flatten[j]?=some p→cs[o+j]?=some x→VL Fz h noL p x):VL Fz h L (.list es rows) (.slice (some ⟨n,o,none⟩) rows.length c)
 | fptr (L : Nat → LI) (vb : Bool) (row : List TV) (off n base es : Nat) (cs : List Value) (hn : Fz n) (hb : h[n]? = some (.cells es cs)) (hv : vb = true → es = 0) (hle : base + row.length ≤ cs.length)
     (ha:∀(j:Nat) p x,row[j]?=some p→cs[base+j]?=some x→VL Fz h noL p x):VL Fz h L (.fptr vb row off) (.pointer (some ⟨n,base+off,none⟩))
 | lptr (L:Nat→LI) (n r o nm:Nat) (ok:(L n).ok=true) (hn:(L n).nm=some nm):VL Fz h L (.lptr n r o) (.pointer (some ⟨nm,r*(L n).es+o,none⟩))
 | lslnil (L:Nat→LI) (n:Nat) (ok:(L n).ok=true) (hn:(L n).nm=none):VL Fz h L (.lsl n 0 0) (.slice none 0 0)
 | lsl (L:Nat→LI) (n o len nm:Nat) (ok:(L n).ok=true) (hn:(L n).nm=some nm) (hle:o+len≤(L n).tot):VL Fz h L (.lsl n o len) (.slice (some ⟨nm,o*(L n).es,none⟩) len ((L n).tot-o))
structure VLs(Fz:Nat→Prop)(h:List Blk)(L:Nat→LI)(l:List TV)(l':List Value):Prop where
 len:l'.length=l.length
 at':∀(i:Nat) p x,l[i]?=some p→l'[i]?=some x→VL Fz h L p x
section
variable {Fz Fz':Nat→Prop} {h h':List Blk} {L L':Nat→LI}
theorem VLs.at{l:List TV}{l':List Value}(hs:VLs Fz h L l l'){i:Nat}{p:TV}(hp:l[i]?=some p):∃ x,l'[i]?=some x∧VL Fz h L p x:=by
 have hi:=(a8.1 hp).1
 have hi':i<l'.length:=by rw[hs.len];exact hi
 exact⟨l'[i],b8 hi',hs.at' i _ _ hp (b8 hi')⟩
theorem VLs.nil:VLs Fz h L [] []:=⟨rfl,fun i p x hp=>by simp at hp⟩
theorem VLs.cons{p:TV}{x:Value}{l:List TV}{l':List Value}(hp:VL Fz h L p x)(hs:VLs Fz h L l l'):VLs Fz h L (p::l) (x::l'):=by
 refine⟨by simp[hs.len],fun i q y hq hy=>?_⟩
 cases i with
 | zero=>simp at hq hy;subst hq hy;exact hp
 | succ i=>simp at hq hy;exact hs.at' i _ _ hq hy
theorem VLs.append{l1 l2:List TV}{x1 x2:List Value}(ha:VLs Fz h L l1 x1)(hb:VLs Fz h L l2 x2):VLs Fz h L (l1++l2) (x1++x2):=by
 refine⟨by simp[ha.len,hb.len],fun i p x hp hx=>?_⟩
 rw[List.getElem?_append] at hp hx
 rw[ha.len] at hx
 split at hp
 ·rename_i hi;rw[a9 hi] at hx;exact ha.at' i _ _ hp hx
 ·rename_i hi;rw[b6 hi] at hx;exact hb.at' _ _ _ hp hx
theorem VLs.extract{l:List TV}{x:List Value}(hs:VLs Fz h L l x)(i j:Nat):VLs Fz h L ((l.drop i).take j) ((x.drop i).take j):=by
 refine⟨by simp[hs.len],fun k p y hp hy=>?_⟩
 simp only[List.getElem?_take,List.getElem?_drop] at hp hy
 split at hp
 ·rename_i hk;rw[a9 hk] at hy;exact hs.at' _ _ _ hp hy
 ·cases hp
theorem VLs.set{l:List TV}{l':List Value}(hs:VLs Fz h L l l')(i:Nat){p:TV}{x:Value}(hp:VL Fz h L p x):VLs Fz h L (l.set i p) (l'.set i x):=by
 refine⟨by simp[hs.len],fun k q y hq hy=>?_⟩
 rw[k8] at hq hy
 split at hq
 ·rename_i hk
  rw[a9 hk,hs.len] at hy
  split at hq
  ·rename_i hlt;rw[a9 hlt] at hy;cases hq;cases hy;exact hp
  ·cases hq
 ·rename_i hk;rw[b6 hk] at hy;exact hs.at' _ _ _ hq hy
theorem VLs.replicate{p:TV}{x:Value}(hp:VL Fz h L p x)(n:Nat):VLs Fz h L (List.replicate n p) (List.replicate n x):=by
 refine⟨by simp,fun k q y hq hy=>?_⟩
 rw[List.getElem?_replicate] at hq hy
 split at hq
 ·rename_i hk;rw[a9 hk] at hy;cases hq;cases hy;exact hp
 ·cases hq
theorem VL.agg'{l:List TV}{l':List Value}(hs:VLs Fz h L l l'):VL Fz h L (.agg l) (.agg ⟨l'⟩):=.agg L l l' hs.len hs.at'
theorem VL.tuple'{l:List TV}{l':List Value}(hs:VLs Fz h L l l'):VL Fz h L (.tuple l) (.tuple ⟨l'⟩):=.tuple L l l' hs.len hs.at'
theorem VL.mono{p:TV}{x:Value}(hp:VL Fz h L p x)(hF:∀ n,Fz n→Fz' n)(hh:∀ n,Fz n→h'[n]?=h[n]?):VL Fz' h' L p x:=by
 induction hp with
 | U L x=>exact .U L x
 | v L x hx=>exact .v L x hx
 | agg L l l' hl ha ih=>exact .agg L l l' hl ih
 | tuple L l l' hl ha ih=>exact .tuple L l l' hl ih
 | func L f a b a' b' la ha lb hb iha ihb=>exact .func L f a b a' b' la iha lb ihb
 | nillist L es=>exact .nillist L es
 | vague L es=>exact .vague L es
 | list L es rows n o c cs eb hn hb he hw hc hle ha ih=>exact .list L es rows n o c cs eb (hF n hn) (by rw[hh n hn];exact hb) he hw hc hle ih
 | fptr L vb row off n base es cs hn hb hv hle ha ih=>exact .fptr L vb row off n base es cs (hF n hn) (by rw[hh n hn];exact hb) hv hle ih
 | lptr L n r o nm ok hn=>exact .lptr L n r o nm ok hn
 | lslnil L n ok hn=>exact .lslnil L n ok hn
 | lsl L n o len nm ok hn hle=>exact .lsl L n o len nm ok hn hle
theorem VLs.mono{l:List TV}{l':List Value}(hs:VLs Fz h L l l')(hF:∀ n,Fz n→Fz' n)(hh:∀ n,Fz n→h'[n]?=h[n]?):VLs Fz' h' L l l':=
 ⟨hs.len,fun i p x hp hx=>(hs.at' i p x hp hx).mono hF hh⟩
theorem VL.own{p:TV}{x:Value}(hp:VL Fz h L p x)(hL:∀ n,(L n).ok=true→L' n=L n):VL Fz h L' p x:=by
 induction hp generalizing L' with
 | U L x=>exact .U L' x
 | v L x hx=>exact .v L' x hx
 | agg L l l' hl ha ih=>exact .agg L' l l' hl (fun i p x h1 h2=>ih i p x h1 h2 hL)
 | tuple L l l' hl ha ih=>exact .tuple L' l l' hl (fun i p x h1 h2=>ih i p x h1 h2 hL)
 | func L f a b a' b' la ha lb hb iha ihb=>exact .func L' f a b a' b' la ha lb hb
 | nillist L es=>exact .nillist L' es
 | vague L es=>exact .vague L' es
 | list L es rows n o c cs eb hn hb he hw hc hle ha ih=>exact .list L' es rows n o c cs eb hn hb he hw hc hle ha
 | fptr L vb row off n base es cs hn hb hv hle ha ih=>exact .fptr L' vb row off n base es cs hn hb hv hle ha
 | lptr L n r o nm ok hn=>have e:=hL n ok;rw[← e] at ok hn ⊢;exact .lptr L' n r o nm ok hn
 | lslnil L n ok hn=>have e:=hL n ok;rw[← e] at ok hn;exact .lslnil L' n ok hn
 | lsl L n o len nm ok hn hle=>have e:=hL n ok;rw[← e] at ok hn hle ⊢;exact .lsl L' n o len nm ok hn hle
theorem VLs.own{l:List TV}{l':List Value}(hs:VLs Fz h L l l')(hL:∀ n,(L n).ok=true→L' n=L n):VLs Fz h L' l l':=
 ⟨hs.len,fun i p x hp hx=>(hs.at' i p x hp hx).own hL⟩
theorem VL.ofNo{p:TV}{x:Value}(hp:VL Fz h noL p x):VL Fz h L p x:=hp.own (fun n hn=>by simp[noL] at hn)
theorem VLs.ofNo{l:List TV}{l':List Value}(hs:VLs Fz h noL l l'):VLs Fz h L l l':=⟨hs.len,fun i p x hp hx=>(hs.at' i p x hp hx).ofNo⟩
def kill(n:Nat):Nat→TV→TV
 | 0,_=>.U
 | d+1,p=>match p with
  | .lptr m r o=>if m=n then .U else .lptr m r o
  | .lsl m o l=>if m=n then .U else .lsl m o l
  | .agg l=>.agg (l.map (kill n d))
  | .tuple l=>.tuple (l.map (kill n d))
  | p=>p
theorem VL.kill{n:Nat}(hL:∀ m,m≠n→L' m=L m):∀(d:Nat) {p:TV} {x:Value},VL Fz h L p x→VL Fz h L' (kill n d p) x
 | 0,p,x,hp=>by rw[Rex.kill];exact .U L' x
 | d+1,p,x,hp=>by
  have key:∀(l:List TV) (l':List Value),(∀(i:Nat) p x,l[i]?=some p→l'[i]?=some x→VL Fz h L p x)→∀(i:Nat) p x,(l.map (Rex.kill n d))[i]?=some p→l'[i]?=some x→VL Fz h L' p x:=by
   intro l l' ha i p x hp hx
   rw[e8] at hp
   cases hq:l[i]? with
   | none=>rw[hq] at hp;cases hp
   | some q=>rw[hq] at hp;obtain rfl:=a6 hp;exact VL.kill hL d (ha i q x hq hx)
  cases hp with
  | U _ x=>exact .U L' x
  | v _ x hx=>exact .v L' x hx
  | agg _ l l' hl ha=>exact .agg L' _ l' (by simp[hl]) (key l l' ha)
  | tuple _ l l' hl ha=>exact .tuple L' _ l' (by simp[hl]) (key l l' ha)
  | func _ f a b a' b' la ha lb hb=>exact .func L' f a b a' b' la ha lb hb
  | nillist _ es=>exact .nillist L' es
  | vague _ es=>exact .vague L' es
  | list _ es rows n o c cs eb hn hb he hw hc hle ha=>exact .list L' es rows n o c cs eb hn hb he hw hc hle ha
  | fptr _ vb row off n base es cs hn hb hv hle ha=>exact .fptr L' vb row off n base es cs hn hb hv hle ha
  | lptr _ m r o nm ok hn =>
   simp only[Rex.kill]
   split
   ·exact .U L' _
   ·rename_i hne;rw[← hL m hne] at ok hn ⊢;exact .lptr L' m r o nm ok hn
  | lslnil _ m ok hn =>
   simp only[Rex.kill]
   split
   ·exact .U L' _
   ·rename_i hne;rw[← hL m hne] at ok hn;exact .lslnil L' m ok hn
  | lsl _ m o len nm ok hn hle =>
   simp only[Rex.kill]
   split
   ·exact .U L' _
   ·rename_i hne;rw[← hL m hne] at ok hn hle ⊢;exact .lsl L' m o len nm ok hn hle
def lf:Nat→TV→Bool
 | 0,_=>false
 | d+1,p=>match p with
  | .lptr ..=>false
  | .lsl ..=>false
  | .agg l=>l.all (lf d)
  | .tuple l=>l.all (lf d)
  | _=>true
theorem VL.toNo:∀(d:Nat) {p:TV} {x:Value},lf d p=true→VL Fz h L p x→VL Fz h L' p x
 | 0,p,x,hl,hp=>by simp[lf] at hl
 | d+1,p,x,hl,hp=>by
  have key:∀(l:List TV) (l':List Value),l.all (lf d)=true→(∀(i:Nat) p x,l[i]?=some p→l'[i]?=some x→VL Fz h L p x)→∀(i:Nat) p x,l[i]?=some p→l'[i]?=some x→VL Fz h L' p x:=by
   intro l l' hall ha i p x hp hx
   exact VL.toNo d (by simpa using (c9.1 hall) p (d7 hp)) (ha i p x hp hx)
  cases hp with
  | U _ x=>exact .U L' x
  | v _ x hx=>exact .v L' x hx
  | agg _ l l' hl' ha=>exact .agg L' _ l' hl' (key l l' (by simpa [lf] using hl) ha)
  | tuple _ l l' hl' ha=>exact .tuple L' _ l' hl' (key l l' (by simpa [lf] using hl) ha)
  | func _ f a b a' b' la ha lb hb=>exact .func L' f a b a' b' la ha lb hb
  | nillist _ es=>exact .nillist L' es
  | vague _ es=>exact .vague L' es
  | list _ es rows n o c cs eb hn hb he hw hc hle ha=>exact .list L' es rows n o c cs eb hn hb he hw hc hle ha
  | fptr _ vb row off n base es cs hn hb hv hle ha=>exact .fptr L' vb row off n base es cs hn hb hv hle ha
  | lptr=>simp[lf] at hl
  | lslnil=>simp[lf] at hl
  | lsl=>simp[lf] at hl
def cl:Nat→TV→Bool
 | 0,_=>false
 | d+1,p=>match p with
  | .U=>true
  | .v _=>true
  | .lptr ..=>true
  | .lsl ..=>true
  | .agg l=>l.all (cl d)
  | .tuple l=>l.all (cl d)
  | _=>false
theorem VL.ofCl:∀(d:Nat) {p:TV} {x:Value},cl d p=true→VL Fz h L p x→VL Fz' h' L p x
 | 0,p,x,hl,hp=>by simp[cl] at hl
 | d+1,p,x,hl,hp=>by
  have key:∀(l:List TV) (l':List Value),l.all (cl d)=true→(∀(i:Nat) p x,l[i]?=some p→l'[i]?=some x→VL Fz h L p x)→∀(i:Nat) p x,l[i]?=some p→l'[i]?=some x→VL Fz' h' L p x:=by
   intro l l' hall ha i p x hp hx
   exact VL.ofCl d (by simpa using (c9.1 hall) p (d7 hp)) (ha i p x hp hx)
  cases hp with
  | U _ x=>exact .U L x
  | v _ x hx=>exact .v L x hx
  | agg _ l l' hl' ha=>exact .agg L _ l' hl' (key l l' (by simpa [cl] using hl) ha)
  | tuple _ l l' hl' ha=>exact .tuple L _ l' hl' (key l l' (by simpa [cl] using hl) ha)
  | func=>simp[cl] at hl
  | nillist _ es=>simp[cl] at hl
  | vague _ es=>simp[cl] at hl
  | list=>simp[cl] at hl
  | fptr=>simp[cl] at hl
  | lptr _ n r o nm ok hn=>exact .lptr L n r o nm ok hn
  | lslnil _ n ok hn=>exact .lslnil L n ok hn
  | lsl _ n o len nm ok hn hle=>exact .lsl L n o len nm ok hn hle
def er:Nat→TV→Option Value
 | 0,_=>none
 | d+1,p=>match p with
  | .v x=>some x
  | .agg l=>(l.mapM (er d)).map fun l'=>.agg ⟨l'⟩
  | _=>none
theorem Bl{α β:Type}{f:α→Option β}:∀ {l:List α} {l':List β},l.mapM f=some l'→l'.length=l.length∧∀(i:Nat) a b,l[i]?=some a→l'[i]?=some b→f a=some b
 | [],l',hl=>by simp at hl;subst hl;simp
 | a::l,l',hl=>by
  simp only[List.mapM_cons,bind,Option.bind_eq_some_iff,pure] at hl
  obtain⟨b,hb,r,hr,he⟩:=hl
  obtain rfl:=a6 he
  obtain⟨h1,h2⟩:=Bl hr
  refine⟨by simp[h1],fun i x y hx hy=>?_⟩
  cases i with
  | zero=>simp at hx hy;subst hx hy;exact hb
  | succ i=>simp at hx hy;exact h2 i x y hx hy
theorem VL.er:∀(d:Nat) {p:TV} {x y:Value},er d p=some y→VL Fz h L p x→x=y
 | 0,p,x,y,he,hp=>by simp[Rex.er] at he
 | d+1,p,x,y,he,hp=>by
  cases hp with
  | v _ x hx=>simpa [Rex.er] using he
  | agg _ l l' hl ha =>
   simp only[Rex.er,Option.map_eq_some_iff] at he
   obtain⟨r,hr,rfl⟩:=he
   obtain⟨h1,h2⟩:=Bl hr
   congr 2
   apply j8
   intro i
   cases hx:l'[i]? with
   | none =>
    rw[i6] at hx
    rw[eq_comm,i6]
    omega
   | some x =>
    have hi:=(a8.1 hx).1
    have hp:l[i]?=some l[i]:=b8 (by omega)
    have hy:r[i]?=some r[i]:=b8 (by omega)
    rw[hy,VL.er d (h2 i _ _ hp hy) (ha i _ _ hp hx)]
  | _=>simp[Rex.er] at he
def inj:Nat→Value→TV
 | 0,x=>.v x
 | d+1,x=>match x with
  | .agg ⟨l⟩=>.agg (l.map (inj d))
  | .tuple ⟨l⟩=>.tuple (l.map (inj d))
  | x=>.v x
def qC:Nat→Value→Bool
 | 0,x=>sL x
 | d+1,x=>match x with
  | .agg ⟨l⟩=>l.all (qC d)
  | .tuple ⟨l⟩=>l.all (qC d)
  | x=>sL x
theorem VL.inj:∀(d:Nat) {x:Value},qC d x=true→VL Fz h L (inj d x) x
 | 0,x,hx=>.v L x (by simpa [qC] using hx)
 | d+1,x,hx=>by
  have key:∀(l:List Value),l.all (qC d)=true→VLs Fz h L (l.map (Rex.inj d)) l:=by
   intro l hl
   refine⟨by simp,fun i p x hp hx=>?_⟩
   rw[e8,hx] at hp
   obtain rfl:=a6 hp
   exact VL.inj d (by simpa using (c9.1 hl) x (d7 hx))
  unfold Rex.inj
  unfold qC at hx
  split at hx
  ·exact .agg' (key _ hx)
  ·exact .tuple' (key _ hx)
  ·exact .v L _ hx
end
end Go.Rex
namespace Go.Rex
open Go.RowKit
inductive TB
 | dead
 | rows (es:Nat) (rows:List (List TV))
 | var (row:List TV)
structure TS where
 tm:List TV
 hp:List TB
def BR(lo:Nat)(Fz:Nat→Prop)(h:List Blk)(L:Nat→LI)(n:Nat):TB→Prop
 | .dead=>True
 | .rows es rows => (L n).ok = true ∧ (L n).es = es ∧ (L n).tot = rows.length ∧ (∀ r ∈ rows, r.length = es) ∧
     (((L n).nm=none∧rows=[])∨∃ nm cs,(L n).nm=some nm∧lo≤nm∧¬ Fz nm∧h[nm]?=some (.cells es cs)∧VLs Fz h noL rows.flatten cs)
 | .var row=>(L n).ok=true∧∃ nm cs,(L n).nm=some nm∧lo≤nm∧¬ Fz nm∧h[nm]?=some (.cells 0 cs)∧VLs Fz h L row cs
def TB.live:TB→Bool
 | .dead=>false
 | _=>true
structure FZ(Fz:Nat→Prop)(h:List Blk):Prop where
 lt:∀ n,Fz n→n<h.length
 gl:∀ g,g<NG→Fz g∧h[g]?=GH[g]?
instance {Fz:Nat→Prop} {h:List Blk}:CoeFun (FZ Fz h) (fun _=>∀ n,Fz n→n<h.length):=⟨FZ.lt⟩
instance {Fz:Nat→Prop} {h:List Blk}:Coe (FZ Fz h) (∀ n,Fz n→n<h.length):=⟨FZ.lt⟩
theorem FZ.to{Fz Fz':Nat→Prop}{h h':List Blk}(hf:FZ Fz h)(hF:∀ n,Fz n→Fz' n)(hh:∀ n,Fz n→h'[n]?=h[n]?)(hl:∀ n,Fz' n→n<h'.length):FZ Fz' h':=
 ⟨hl,fun g hg=>⟨hF g (hf.gl g hg).1,(hh g (hf.gl g hg).1).trans (hf.gl g hg).2⟩⟩
structure St(h0:List Blk)(Fz:Nat→Prop)(L:Nat→LI)(s:TS)(tm:List Value)(h:List Blk):Prop where
 tmr:VLs Fz h L s.tm tm
 blk:∀ n b,s.hp[n]?=some b→BR h0.length Fz h L n b
 dom:∀ n,(L n).ok=true→n<s.hp.length
 inj:∀ n n' b b' nm,s.hp[n]?=some b→s.hp[n']?=some b'→b.live=true→b'.live=true→(L n).nm=some nm→(L n').nm=some nm→n=n'
 fz:FZ Fz h
 ext:Ext h0 h
structure Grow(h0:List Blk)(Fz Fz':Nat→Prop)(h h':List Blk):Prop where
 fz:∀ n,Fz n→Fz' n
 new:∀ n,Fz' n→Fz n∨h0.length≤n
 same:∀ n,Fz n→h'[n]?=h[n]?
theorem Grow.refl(h0:List Blk)(Fz:Nat→Prop){h:List Blk}:Grow h0 Fz Fz h h:=⟨fun _ h=>h,fun _ h=>.inl h,fun _ _=>rfl⟩
theorem Grow.trans{h0 h h1 h2:List Blk}{A B C:Nat→Prop}(a:Grow h0 A B h h1)(b:Grow h0 B C h1 h2):Grow h0 A C h h2:=
 ⟨fun n h=>b.1 n (a.1 n h),fun n h=>by rcases b.2 n h with h|h;exact a.2 n h;exact .inr h,fun n hn=>(b.3 n (a.1 n hn)).trans (a.3 n hn)⟩
theorem Grow.ext{h0 h h':List Blk}{Fz:Nat→Prop}(hz:∀ n,Fz n→n<h.length)(he:Ext h h'):Grow h0 Fz Fz h h':=
 ⟨fun _ h=>h,fun _ h=>.inl h,fun n hn=>by obtain⟨t,rfl⟩:=he;exact d4 (hz n hn)⟩
theorem Grow.set{h0 h:List Blk}{Fz:Nat→Prop}{nm:Nat}{b:Blk}(hn:¬ Fz nm):Grow h0 Fz Fz h (h.set nm b):=
 ⟨fun _ h=>h,fun _ h=>.inl h,fun n hf=>d8 (by rintro rfl;exact hn hf)⟩
def Wk(s s':TS):Prop:=∀ h0 Fz L tm h,St h0 Fz L s tm h→∃ Fz' L',Grow h0 Fz Fz' h h∧St h0 Fz' L' s' tm h
theorem Wk.refl(s:TS):Wk s s:=fun _ Fz L _ _ hs=>⟨Fz,L,Grow.refl _ _,hs⟩
section
variable {C:Ctx} {P:Program}
def TX(C:Ctx)(P:Program)(c:Code)(s:TS)(Q:Exit→TS→Prop):Prop:=
 ∀ h0 Fz L tm h,St h0 Fz L s tm h→XP C P none h0.length c ⟨tm,[]⟩ h (fun e a' h'=>a'.df=[]∧∃ s' Fz' L',Q e s'∧Grow h0 Fz Fz' h h'∧St h0 Fz' L' s' a'.tm h')
variable {s s':TS} {Q Q':Exit→TS→Prop}
theorem TX.mono{c:Code}(hx:TX C P c s Q)(hq:∀ e s,Q e s→Q' e s):TX C P c s Q':=by
 intro h0 Fz L tm h hs
 refine (hx h0 Fz L tm h hs).mono ?_
 rintro e a' h' ⟨hd,s',F',L',q,g,hs'⟩
 exact⟨hd,s',F',L',hq _ _ q,g,hs'⟩
theorem TX.weak{c:Code}(hw:Wk s s')(hx:TX C P c s' Q):TX C P c s Q:=by
 intro h0 Fz L tm h hs
 obtain⟨F1,L1,g1,s1⟩:=hw h0 Fz L tm h hs
 refine (hx h0 F1 L1 tm h s1).mono ?_
 rintro e a' h' ⟨hd,s',F',L',q,g,hs'⟩
 exact⟨hd,s',F',L',q,g1.trans g,hs'⟩
theorem TX.post{c:Code}(hx:TX C P c s (fun e s=>∃ s',Wk s s'∧Q e s')):TX C P c s Q:=by
 intro h0 Fz L tm h hs
 refine (hx h0 Fz L tm h hs).mono ?_
 rintro e a' h' ⟨hd,s',F',L',⟨s2,w,q⟩,g,hs'⟩
 obtain⟨F2,L2,g2,hs2⟩:=w h0 F' L' a'.tm h' hs'
 exact⟨hd,s2,F2,L2,q,g.trans g2,hs2⟩
theorem TX.skip(hq:Q .normal s):TX C P .skip s Q:=fun _ Fz L _ _ hs=>XP.skip ⟨rfl,s,Fz,L,hq,Grow.refl _ _,hs⟩
theorem TX.exit{id:Nat}(hq:Q (.exit id) s):TX C P (.exit id) s Q:=fun _ Fz L _ _ hs=>XP.exit ⟨rfl,s,Fz,L,hq,Grow.refl _ _,hs⟩
theorem TX.ret(hq:Q .ret s):TX C P .ret s Q:=fun _ Fz L _ _ hs=>XP.ret ⟨rfl,s,Fz,L,hq,Grow.refl _ _,hs⟩
def Em(next:TS→Prop)(Q:Exit→TS→Prop):Exit→TS→Prop
 | .normal,s=>next s
 | e,s=>Q e s
theorem TX.seq{x y:Code}(hx:TX C P x s (Em (fun s=>TX C P y s Q) Q)):TX C P (.seq x y) s Q:=by
 intro h0 Fz L tm h hs
 refine XP.seq ((hx h0 Fz L tm h hs).mono ?_)
 rintro e ⟨tm',df'⟩ h' ⟨hd,s',F',L',q,g,hs'⟩
 obtain rfl:df'=[]:=hd
 cases e with
 | normal =>
  refine aAW ?_
  refine (q h0 F' L' tm' h' hs').mono ?_
  rintro e a' h' ⟨hd,s',F',L',q,g',hs'⟩
  exact⟨hd,s',F',L',q,g.trans g',hs'⟩
 | _=>exact⟨rfl,s',F',L',q,g,hs'⟩
def nF(id:Nat)(Q:Exit→TS→Prop):Exit→TS→Prop
 | .exit id',s=>if id'=id then Q .normal s else Q (.exit id') s
 | e,s=>Q e s
theorem TX.block{id:Nat}{b:Code}(hx:TX C P b s (nF id Q)):TX C P (.block id b) s Q:=by
 intro h0 Fz L tm h hs
 refine XP.block ((hx h0 Fz L tm h hs).mono ?_)
 rintro e ⟨tm',df'⟩ h' ⟨hd,s',F',L',q,g,hs'⟩
 cases e with
 | exit id' =>
  simp only[nF] at q
  simp only[Fo]
  split at q
  ·rename_i hi;rw[a9 hi];exact⟨hd,s',F',L',q,g,hs'⟩
  ·rename_i hi;rw[b6 hi];exact⟨hd,s',F',L',q,g,hs'⟩
 | _=>exact⟨hd,s',F',L',q,g,hs'⟩
theorem aCY{next:TS→Prop}(hq:next s):Em next Q .normal s:=hq
theorem aB5{next:TS→Prop}{id:Nat}(hq:Q (.exit id) s):Em next Q (.exit id) s:=hq
theorem aC7{next:TS→Prop}(hq:Q .ret s):Em next Q .ret s:=hq
theorem Zw{id:Nat}(hq:Q .normal s):nF id Q .normal s:=hq
theorem Yk{id:Nat}(hq:Q .ret s):nF id Q .ret s:=hq
theorem aAh{id:Nat}(hq:Q .normal s):nF id Q (.exit id) s:=by simpa only[nF,if_true] using hq
theorem Xg{id id':Nat}(hn:(id'==id)=false)(hq:Q (.exit id') s):nF id Q (.exit id') s:=by
 have:¬ id'=id:=by intro e;subst e;simp at hn
 simpa only[nF,if_neg this] using hq
def tnth:List TV→Nat→TV
 | [],_=>.tuple []
 | v::_,0=>v
 | _::l,n+1=>tnth l n
theorem zL:∀(l:List TV) (n:Nat),tnth l n=l[n]?.getD (.tuple [])
 | [],n=>by simp[tnth]
 | v::l,0=>by simp[tnth]
 | v::l,n+1=>by simp[tnth,zL l n]
def gtab(g:Nat):TV:=match ghCells[g]? with
 | some (_,cs)=>if cs.all sL=true then .fptr false (cs.map .v) 0 else .U
 | none=>.U
def tev(tm:List TV):Operand→TV
 | .tmp t=>tnth tm t
 | .const v=>if qC 3 v=true then inj 3 v else .U
 | .global g=>gtab g
 | .func f=>.func f [] []
theorem dJ{Fz:Nat→Prop}{h:List Blk}{L:Nat→LI}{tm:List TV}{vm:List Value}(hz:FZ Fz h)(hs:VLs Fz h L tm vm)(x:Operand):VL Fz h L (tev tm x) (ev vm x):=by
 cases x with
 | tmp t =>
  simp only[tev,ev]
  rw[zL,sS]
  cases hp:tm[t]? with
  | none =>
   have:vm[t]?=none:=by
    rw[i6] at hp ⊢
    rw[hs.len];exact hp
   rw[this]
   exact .tuple L [] [] rfl (fun i p x h=>by simp at h)
  | some p =>
   obtain⟨x,hx,hv⟩:=hs.at hp
   rw[hx];exact hv
 | const v =>
  simp only[tev,ev]
  split
  ·rename_i hi;exact VL.inj 3 hi
  ·exact .U L _
 | global g =>
  simp only[tev,ev,gtab]
  split
  ·rename_i es cs hg
   split
   ·rename_i hall
    have hlt:g<NG:=by
     have:=(a8.1 hg).1
     simpa [NG,GH] using this
    have hgh:GH[g]?=some (.cells es cs):=by unfold GH;rw[e8,hg];rfl
    obtain⟨h1,h2⟩:=hz.gl g hlt
    refine .fptr L false (cs.map .v) 0 g 0 es cs h1 (h2.trans hgh) (fun h=>by cases h) (by simp) ?_
    intro j p x hp hx
    rw[k7] at hx
    rw[e8,hx] at hp
    obtain rfl:=a6 hp
    exact .v noL x (c9.1 hall x (d7 hx))
   ·exact .U L _
  ·exact .U L _
 | func f=>exact .func L f [] [] [] [] rfl (fun i p x h=>by simp at h) rfl (fun i p x h=>by simp at h)
theorem aCv{Fz:Nat→Prop}{h:List Blk}{L:Nat→LI}{tm:List TV}{vm:List Value}(hs:VLs Fz h L tm vm)(t:Tmp):VL Fz h L (tev tm (.tmp t)) (ev vm (.tmp t)):=by
 simp only[tev,ev]
 rw[zL,sS]
 cases hp:tm[t]? with
 | none =>
  have:vm[t]?=none:=by
   rw[i6] at hp ⊢
   rw[hs.len];exact hp
  rw[this]
  exact .tuple L [] [] rfl (fun i p x h=>by simp at h)
 | some p =>
  obtain⟨x,hx,hv⟩:=hs.at hp
  rw[hx];exact hv
def tput(tm:List TV)(dst:Option Tmp)(v:TV):List TV:=
 match dst with
 | some d=>tm.set d v
 | none=>tm
theorem Du{Fz:Nat→Prop}{h:List Blk}{L:Nat→LI}{tm:List TV}{vm:List Value}(hs:VLs Fz h L tm vm)(dst:Option Tmp){p:TV}{x:Value}(hp:VL Fz h L p x):VLs Fz h L (tput tm dst p) (bJ vm dst x):=by
 cases dst with
 | none=>exact hs
 | some d=>exact hs.set d hp
theorem VL.bool_inv{Fz:Nat→Prop}{h:List Blk}{L:Nat→LI}{x y:Value}(hp:VL Fz h L (.v x) y):y=x:=by cases hp;rfl
theorem TX.cond_true{c:Operand}{x y:Code}(ho:mP c=true)(hc:tev s.tm c = .v (.bool true))(hx:TX C P x s Q):TX C P (.cond c x y) s Q:=by
 intro h0 Fz L tm h hs
 have:=dJ hs.fz hs.tmr c
 rw[hc] at this
 exact XP.cond_true ho this.bool_inv (hx h0 Fz L tm h hs)
theorem TX.cond_false{c:Operand}{x y:Code}(ho:mP c=true)(hc:tev s.tm c = .v (.bool false))(hx:TX C P y s Q):TX C P (.cond c x y) s Q:=by
 intro h0 Fz L tm h hs
 have:=dJ hs.fz hs.tmr c
 rw[hc] at this
 exact XP.cond_false ho this.bool_inv (hx h0 Fz L tm h hs)
inductive Runs {σ ε:Type} (step:σ→Option (σ ⊕ ε)):σ→ε→Prop
 | stop {s:σ} {e:ε} (h:step s=some (.inr e)):Runs step s e
 | next {s s':σ} {e:ε} (h:step s=some (.inl s')) (hr:Runs step s' e):Runs step s e
theorem Runs.det{σ ε:Type}{step:σ→Option (σ ⊕ ε)}{s:σ}{e e':ε}(h:Runs step s e)(h':Runs step s e'):e=e':=by
 induction h with
 | stop h=>cases h' with
  | stop g=>rw[h] at g;injection g with g;injection g
  | next g _=>rw[h] at g;injection g with g;cases g
 | next h _ ih=>cases h' with
  | stop g=>rw[h] at g;injection g with g;cases g
  | next g gr=>rw[h] at g;injection g with g;injection g with g;subst g;exact ih gr
open Classical in
noncomputable def run{σ ε:Type}(step:σ→Option (σ ⊕ ε))(s:σ):Option ε:=if h:∃ e,Runs step s e then some (Classical.choose h) else none
theorem run_iff{σ ε:Type}{step:σ→Option (σ ⊕ ε)}{s:σ}{e:ε}:run step s=some e↔Runs step s e:=by
 unfold run
 constructor
 ·intro h
  split at h
  ·rename_i hx
   obtain rfl:=a6 h
   exact Classical.choose_spec hx
  ·cases h
 ·intro h
  have hx:∃ e,Runs step s e:=⟨e,h⟩
  rw[dif_pos hx]
  exact congrArg some (Runs.det (Classical.choose_spec hx) h)
theorem jW{σ ε:Type}{step:σ→Option (σ ⊕ ε)}{s:σ}{e:ε}(h:step s=some (.inr e)):run step s=some e:=run_iff.2 (.stop h)
theorem lK{σ ε:Type}{step:σ→Option (σ ⊕ ε)}{s s':σ}(h:step s=some (.inl s')):run step s=run step s':=by
 cases hr:run step s' with
 | none =>
  cases hs:run step s with
  | none=>rfl
  | some e =>
   have:=run_iff.1 hs
   cases this with
   | stop g=>rw[h] at g;injection g with g;cases g
   | next g gr=>rw[h] at g;injection g with g;injection g with g;subst g;rw[run_iff.2 gr] at hr;cases hr
 | some e=>exact run_iff.2 (.next h (run_iff.1 hr))
theorem TX.loop{σ ε:Type}{b:Code}{step:σ→Option (σ ⊕ ε)}{x:σ}{e:ε}(hr:run step x=some e)(I:σ→TS)(J:ε→Exit→TS→Prop)
 (hI:∀ x x',step x=some (.inl x')→TX C P b (I x) (fun ex st=>ex = .normal∧Wk st (I x'))) (hJ:∀ x e,step x=some (.inr e)→TX C P b (I x) (fun ex st=>ex ≠ .normal∧J e ex st)):TX C P (.loop b) (I x) (J e):=by
 have hr':=run_iff.1 hr
 clear hr
 induction hr' with
 | @stop x e h =>
  intro h0 Fz L tm hh hs
  obtain⟨K,ex,a',h',wr,h1,h2,hd,s',F',L',⟨hne,q⟩,g,hs'⟩:=hJ _ _ h h0 Fz L tm hh hs
  cases ex with
  | normal=>exact absurd rfl hne
  | _=>exact⟨K+1,_,a',h',wr,by simp only[exec,h1],h2,hd,s',F',L',q,g,hs'⟩
 | @next x x1 e h hr ih =>
  intro h0 Fz L tm hh hs
  obtain⟨K,ex,⟨tm',df'⟩,h',wr,h1,h2,hd,s',F',L',⟨rfl,hw⟩,g,hs'⟩:=hI _ _ h h0 Fz L tm hh hs
  obtain rfl:df'=[]:=hd
  obtain⟨F2,L2,g2,hs2⟩:=hw h0 F' L' tm' h' hs'
  obtain⟨K2,ex,a2,h2',wr2,k1,k2,kd,s3,F3,L3,q,g3,hs3⟩:=ih h0 F2 L2 tm' h' hs2
  refine⟨max K K2+1,ex,a2,h2',wmin wr wr2,?_,iR h2 k2,kd,s3,F3,L3,q,(g.trans g2).trans g3,hs3⟩
  simp only[exec]
  rw[kF (Nat.le_max_left K K2) h1]
  simp only
  rw[kF (Nat.le_max_right K K2) k1]
  rfl
end
end Go.Rex
namespace Go.Rex
open Go.RowKit
section
variable {h0 h h':List Blk} {Fz Fz':Nat→Prop} {L L':Nat→LI} {s s':TS} {tm:List Value}
theorem St.put(hs:St h0 Fz L s tm h)(dst:Option Tmp){p:TV}{v:Value}(hp:VL Fz h L p v):St h0 Fz L ⟨tput s.tm dst p,s.hp⟩ (bJ tm dst v) h:=
 ⟨Du hs.tmr dst hp,hs.blk,hs.dom,hs.inj,hs.fz,hs.ext⟩
theorem BR.mono{lo n:Nat}{b:TB}(hb:BR lo Fz h L n b)(hF:∀ n,Fz n→Fz' n)(hh:∀ n,Fz n→h'[n]?=h[n]?)(hn:∀ nm b,¬ Fz nm→h[nm]?=some b→(L n).nm=some nm→h'[nm]?=some b∧¬ Fz' nm):BR lo Fz' h' L n b:=by
 cases b with
 | dead=>trivial
 | rows es rows =>
  obtain⟨h1,h2,h3,h4,h5⟩:=hb
  refine⟨h1,h2,h3,h4,?_⟩
  rcases h5 with h5|⟨nm,cs,e1,e2,e3,e4,e5⟩
  ·exact .inl h5
  ·obtain⟨q1,q2⟩:=hn nm _ e3 e4 e1
   exact .inr ⟨nm,cs,e1,e2,q2,q1,e5.mono hF hh⟩
 | var row =>
  obtain⟨h1,nm,cs,e1,e2,e3,e4,e5⟩:=hb
  obtain⟨q1,q2⟩:=hn nm _ e3 e4 e1
  exact⟨h1,nm,cs,e1,e2,q2,q1,e5.mono hF hh⟩
theorem BR.own{lo n n':Nat}{b:TB}(hb:BR lo Fz h L n b)(hL:∀ n,(L n).ok=true→L' n=L n)(hn:L' n'=L n):BR lo Fz h L' n' b:=by
 cases b with
 | dead=>trivial
 | rows es rows =>
  obtain⟨h1,h2,h3,h4,h5⟩:=hb
  unfold BR
  rw[hn]
  exact⟨h1,h2,h3,h4,h5⟩
 | var row =>
  obtain⟨h1,nm,cs,e1,e2,e3,e4,e5⟩:=hb
  unfold BR
  rw[hn]
  exact⟨h1,nm,cs,e1,e2,e3,e4,e5.own hL⟩
theorem St.heap(hs:St h0 Fz L s tm h)(hx:Ext h h')(hF:∀ n,Fz n→Fz' n)(hF2:∀ n,Fz' n→Fz n∨(h.length≤n∧n<h'.length)):St h0 Fz' L s tm h':=by
 have hh:∀ n,Fz n→h'[n]?=h[n]?:=fun n hn=>by
  have:=hs.fz n hn
  rw[b8 this]
  exact hx.at (b8 this)
 refine⟨hs.tmr.mono hF hh,fun n b hb=>(hs.blk n b hb).mono hF hh (fun nm b hn hb _=>⟨hx.at hb,fun hf=>?_⟩),hs.dom,hs.inj,hs.fz.to hF hh fun n hn=>?_,hs.ext.trans hx⟩
 ·rcases hF2 nm hf with h1|h1
  ·exact hn h1
  ·have:=(a8.1 hb).1;omega
 ·have:=hx.le
  rcases hF2 n hn with h1|h1
  ·have:=hs.fz n h1;omega
  ·exact h1.2
def shift(k:Nat):Nat→TV→TV
 | 0,_=>.U
 | d+1,p=>match p with
  | .lptr m r o=>.lptr (k+m) r o
  | .lsl m o l=>.lsl (k+m) o l
  | .agg l=>.agg (l.map (shift k d))
  | .tuple l=>.tuple (l.map (shift k d))
  | p=>p
theorem VL.shift{k:Nat}(hL:∀ n,(L n).ok=true→L' (k+n)=L n):∀(d:Nat) {p:TV} {x:Value},VL Fz h L p x→VL Fz h L' (shift k d p) x
 | 0,p,x,hp=>by rw[Rex.shift];exact .U L' x
 | d+1,p,x,hp=>by
  have key:∀(l:List TV) (l':List Value),(∀(i:Nat) p x,l[i]?=some p→l'[i]?=some x→VL Fz h L p x)→∀(i:Nat) p x,(l.map (Rex.shift k d))[i]?=some p→l'[i]?=some x→VL Fz h L' p x:=by
   intro l l' ha i p x hp hx
   rw[e8] at hp
   cases hq:l[i]? with
   | none=>rw[hq] at hp;cases hp
   | some q=>rw[hq] at hp;obtain rfl:=a6 hp;exact VL.shift hL d (ha i q x hq hx)
  cases hp with
  | U _ x=>exact .U L' x
  | v _ x hx=>exact .v L' x hx
  | agg _ l l' hl ha=>exact .agg L' _ l' (by simp[hl]) (key l l' ha)
  | tuple _ l l' hl ha=>exact .tuple L' _ l' (by simp[hl]) (key l l' ha)
  | func _ f a b a' b' la ha lb hb=>exact .func L' f a b a' b' la ha lb hb
  | nillist _ es=>exact .nillist L' es
  | vague _ es=>exact .vague L' es
  | list _ es rows n o c cs eb hn hb he hw hc hle ha=>exact .list L' es rows n o c cs eb hn hb he hw hc hle ha
  | fptr _ vb row off n base es cs hn hb hv hle ha=>exact .fptr L' vb row off n base es cs hn hb hv hle ha
  | lptr _ m r o nm ok hn =>
   have e:=hL m ok
   simp only[Rex.shift]
   rw[← e] at ok hn ⊢
   exact .lptr L' (k+m) r o nm ok hn
  | lslnil _ m ok hn =>
   have e:=hL m ok
   simp only[Rex.shift]
   rw[← e] at ok hn
   exact .lslnil L' (k+m) ok hn
  | lsl _ m o len nm ok hn hle =>
   have e:=hL m ok
   simp only[Rex.shift]
   rw[← e] at ok hn hle ⊢
   exact .lsl L' (k+m) o len nm ok hn hle
def uW:TB→Bool
 | .var row=>row.all (lf 4)
 | _=>true
theorem St.adopt2(hs:St h0 Fz L s tm h)(dst:Option Tmp){p:TV}{v:Value}{th:List TB}{L2:Nat→LI}(hr:St h Fz' L2 ⟨[p],th⟩ [v] h')(hth:th.all uW=true)(g:Grow h Fz Fz' h h') :
 ∃ L3,St h0 Fz' L3 ⟨tput s.tm dst (shift s.hp.length 4 p),s.hp++th⟩ (bJ tm dst v) h'∧∀ j b nm,(s.hp++th)[j]?=some b→b.live=true→(L3 j).nm=some nm→nm<h.length→s.hp[j]?=some b∧(L j).nm=some nm:=by
 have hle:=hr.ext.le
 have hh1:St h0 Fz' L s tm h':=hs.heap hr.ext g.1 (fun n hn=>by
  rcases g.2 n hn with h1|h1
  ·exact .inl h1
  ·exact .inr ⟨h1,hr.fz n hn⟩)
 refine⟨fun n=>if n<s.hp.length then L n else L2 (n-s.hp.length),?_⟩
 have hold:∀ n,(L n).ok=true→(fun n=>if n<s.hp.length then L n else L2 (n-s.hp.length)) n=L n:=fun n hn=>by
  have:=hs.dom n hn
  simp only[if_pos this]
 have hnew:∀ n,(L2 n).ok=true→(fun n=>if n<s.hp.length then L n else L2 (n-s.hp.length)) (s.hp.length+n)=L2 n:=fun n _=>by
  simp;omega
 have hlow:∀ n b nm,s.hp[n]?=some b→b.live=true→(L n).nm=some nm→nm<h.length:=by
  intro n b nm hb hlv hn
  have:=hs.blk n b hb
  cases b with
  | dead=>cases hlv
  | rows es rows =>
   obtain⟨-,-,-,-,h5⟩:=this
   rcases h5 with h5|⟨nm',cs,e1,e2,e3,e4,e5⟩
   ·rw[h5.1] at hn;cases hn
   ·rw[e1] at hn;obtain rfl:=a6 hn
    exact (a8.1 e4).1
  | var row =>
   obtain⟨-,nm',cs,e1,e2,e3,e4,e5⟩:=this
   rw[e1] at hn;obtain rfl:=a6 hn
   exact (a8.1 e4).1
 have hhigh:∀ n b nm,th[n]?=some b→b.live=true→(L2 n).nm=some nm→h.length≤nm:=by
  intro n b nm hb hlv hn
  have:=hr.blk n b hb
  cases b with
  | dead=>cases hlv
  | rows es rows =>
   obtain⟨-,-,-,-,h5⟩:=this
   rcases h5 with h5|⟨nm',cs,e1,e2,e3,e4,e5⟩
   ·rw[h5.1] at hn;cases hn
   ·rw[e1] at hn;obtain rfl:=a6 hn
    exact e2
  | var row =>
   obtain⟨-,nm',cs,e1,e2,e3,e4,e5⟩:=this
   rw[e1] at hn;obtain rfl:=a6 hn
   exact e2
 have hp:VL Fz' h' L2 p v:=hr.tmr.at' 0 p v rfl rfl
 refine⟨⟨Du (hh1.tmr.own hold) dst (hp.shift hnew 4),?_,?_,?_,hr.fz,hh1.ext⟩,?_⟩
 ·intro n b hb
  rcases d5 n s.hp.length with hlt|hge
  ·rw[d4 hlt] at hb
   exact (hh1.blk n b hb).own hold (by simp only[if_pos hlt])
  ·rw[d6 hge] at hb
   have hb':=hr.blk _ b hb
   have e:(fun n=>if n<s.hp.length then L n else L2 (n-s.hp.length)) n=L2 (n-s.hp.length):=by
    simp only[if_neg (show ¬ n<s.hp.length by omega)]
   cases b with
   | dead=>trivial
   | rows es rows =>
    obtain⟨h1,h2,h3,h4,h5⟩:=hb'
    unfold BR
    rw[e]
    refine⟨h1,h2,h3,h4,?_⟩
    rcases h5 with h5|⟨nm,cs,e1,e2,e3,e4,e5⟩
    ·exact .inl h5
    ·exact .inr ⟨nm,cs,e1,e7 hs.ext.le e2,e3,e4,e5⟩
   | var row =>
    obtain⟨h1,nm,cs,e1,e2,e3,e4,e5⟩:=hb'
    have hlf:row.all (lf 4)=true:=by
     have:=c9.1 hth _ (d7 hb)
     simpa [uW] using this
    unfold BR
    rw[e]
    refine⟨h1,nm,cs,e1,e7 hs.ext.le e2,e3,e4,e5.len,fun i p x hp hx=>?_⟩
    exact VL.toNo 4 (by simpa using c9.1 hlf p (d7 hp)) (e5.at' i p x hp hx)
 ·intro n hn
  rw[m7]
  rcases d5 n s.hp.length with hlt|hge
  ·omega
  ·simp only[if_neg (show ¬ n<s.hp.length by omega)] at hn
   have:=hr.dom _ hn
   simp only at this
   omega
 ·intro n n' b b' nm hb hb' l1 l2 e1 e2
  rcases d5 n s.hp.length with hlt|hge<;>rcases d5 n' s.hp.length with hlt'|hge'
  ·rw[d4 hlt] at hb
   rw[d4 hlt'] at hb'
   simp only[if_pos hlt] at e1
   simp only[if_pos hlt'] at e2
   exact hs.inj n n' b b' nm hb hb' l1 l2 e1 e2
  ·rw[d4 hlt] at hb
   rw[d6 hge'] at hb'
   simp only[if_pos hlt] at e1
   simp only[if_neg (show ¬ n'<s.hp.length by omega)] at e2
   have:=hlow n b nm hb l1 e1
   have:=hhigh _ b' nm hb' l2 e2
   omega
  ·rw[d6 hge] at hb
   rw[d4 hlt'] at hb'
   simp only[if_neg (show ¬ n<s.hp.length by omega)] at e1
   simp only[if_pos hlt'] at e2
   have:=hlow n' b' nm hb' l2 e2
   have:=hhigh _ b nm hb l1 e1
   omega
  ·rw[d6 hge] at hb
   rw[d6 hge'] at hb'
   simp only[if_neg (show ¬ n<s.hp.length by omega)] at e1
   simp only[if_neg (show ¬ n'<s.hp.length by omega)] at e2
   have:=hr.inj _ _ b b' nm hb hb' l1 l2 e1 e2
   omega
 ·intro j b nm hb hl e1 hlt
  rcases d5 j s.hp.length with q|q
  ·rw[d4 q] at hb
   simp only[if_pos q] at e1
   exact⟨hb,e1⟩
  ·rw[d6 q] at hb
   simp only[if_neg (show ¬ j<s.hp.length by omega)] at e1
   have:=hhigh _ b nm hb hl e1
   omega
theorem St.adopt(hs:St h0 Fz L s tm h)(dst:Option Tmp){p:TV}{v:Value}{th:List TB}{L2:Nat→LI}(hr:St h Fz' L2 ⟨[p],th⟩ [v] h')(hth:th.all uW=true)(g:Grow h Fz Fz' h h') :
 ∃ L3,St h0 Fz' L3 ⟨tput s.tm dst (shift s.hp.length 4 p),s.hp++th⟩ (bJ tm dst v) h':=by
 obtain⟨L3,h3,-⟩:=hs.adopt2 dst hr hth g
 exact⟨L3,h3⟩
theorem St.write(hs:St h0 Fz L s tm h){n nm es:Nat}{b b':TB}{cs cs':List Value}(hb:s.hp[n]?=some b)(hlv:b.live=true)(hn:(L n).nm=some nm)(hc:h[nm]?=some (.cells es cs))(hlo:h0.length≤nm)(hnf:¬ Fz nm)
 (hb':BR h0.length Fz (h.set nm (.cells es cs')) L n b'):St h0 Fz L ⟨s.tm,s.hp.set n b'⟩ tm (h.set nm (.cells es cs')):=by
 have hlt:=(a8.1 hc).1
 have hh:∀ k,Fz k→(h.set nm (.cells es cs'))[k]?=h[k]?:=fun k hk=>by
  rw[d8];rintro rfl;exact hnf hk
 refine⟨hs.tmr.mono (fun _ h=>h) hh,?_,fun k hk=>by simpa using hs.dom k hk,?_,hs.fz.to (fun _ h=>h) hh fun k hk=>by simpa using hs.fz k hk,?_⟩
 ·intro k bk hk
  rw[k8] at hk
  split at hk
  ·rename_i e
   subst e
   split at hk
   ·obtain rfl:=a6 hk;exact hb'
   ·cases hk
  ·rename_i e
   by_cases hlk:bk.live=true
   ·refine (hs.blk k bk hk).mono (fun _ h=>h) hh (fun nm' b hf hb hn'=>⟨?_,hf⟩)
    rw[d8]
    ·exact hb
    ·rintro rfl
     exact e (hs.inj n k _ bk nm (by assumption) hk hlv hlk hn hn')
   ·cases bk with
    | dead=>trivial
    | _=>exact absurd rfl hlk
 ·intro k k' c c' nm' h1 h2 l1 l2 e1 e2
  have f:∀(k:Nat) (c:TB),(s.hp.set n b')[k]?=some c→c.live=true→∃ c0:TB,s.hp[k]?=some c0∧c0.live=true:=by
   intro k c hk hl
   rw[k8] at hk
   split at hk
   ·rename_i e;subst e;exact⟨b,hb,hlv⟩
   ·exact⟨c,hk,hl⟩
  obtain⟨c1,g1,g2⟩:=f k c h1 l1
  obtain⟨c2,g3,g4⟩:=f k' c' h2 l2
  exact hs.inj k k' c1 c2 nm' g1 g3 g2 g4 e1 e2
 ·obtain⟨t,rfl⟩:=hs.ext
  exact⟨t.set (nm-h0.length) (.cells es cs'),by rw[List.set_append_right _ _ hlo]⟩
end
end Go.Rex
