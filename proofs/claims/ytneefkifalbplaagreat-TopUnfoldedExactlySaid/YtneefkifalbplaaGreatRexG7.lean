/- An executor of the program's functions on trees of values,proved sound. -/
import Derived.Test.YtneefkifalbplaaGreatRexG6
set_option linter.unusedSimpArgs false
set_option linter.unusedVariables false
set_option linter.defProp false
namespace Go.Rex
open Go.RowKit
def RO(C:Ctx)(P:Program)(lo:Nat)(ops:Array Oper)(l:List Oper)(tm:List Value)(h:List Blk)(Q:List Value→List Blk→Prop):Prop:=
 ∃ tm' h' wr,cK C P ops l tm h=some (tm',h',wr)∧wge wr lo=true∧Q tm' h'
section
variable {C:Ctx} {P:Program} {ro:Option Nat} {lo:Nat} {a:AS} {h:List Blk} {Q:Exit→AS→List Blk→Prop} {ops:Array Oper} {o:Oper} {rest:List Oper} {tm tm2:List Value} {v:Value} {R:List Value→List Blk→Prop}
theorem RO.nil(hq:R tm h):RO C P lo ops [] tm h R:=⟨tm,h,none,rfl,rfl,hq⟩
theorem RO.pop(hw:Region.wanted o (yielded ops ⟨tm⟩)=true)(hp:Rex.pop P (ev tm) o=some v)(ht:bX tm o.dst v=tm2)(hq:RO C P lo ops rest tm2 h R):RO C P lo ops (o::rest) tm h R:=by
 subst ht
 obtain⟨tm',h',wr,h1,h2,h3⟩:=hq
 exact⟨tm',h',wr,by simp only[cK,if_pos hw,hp,h1],h2,h3⟩
theorem RO.act{h1:List Blk}{w1:Option Nat}(hw:Region.wanted o (yielded ops ⟨tm⟩)=true)(hp:Rex.pop P (ev tm) o=none)(hx:xop C P (ev tm) o h=some (v,h1,w1))(hg:wge w1 lo=true)(ht:bX tm o.dst v=tm2)(hq:RO C P lo ops rest tm2 h1 R):RO C P lo ops (o::rest) tm h R:=by
 subst ht
 obtain⟨tm',h',wr,h1',h2,h3⟩:=hq
 exact⟨tm',h',wmin w1 wr,by simp only[cK,if_pos hw,hp,hx,h1',Option.map_some],jD hg h2,h3⟩
theorem RO.skip(hw:Region.wanted o (yielded ops ⟨tm⟩)=false)(ht:bX tm o.dst undef=tm2)(hq:RO C P lo ops rest tm2 h R):RO C P lo ops (o::rest) tm h R:=by
 subst ht
 obtain⟨tm',h',wr,h1,h2,h3⟩:=hq
 exact⟨tm',h',wr,by simp only[cK,hw,Bool.false_eq_true,if_false,h1],h2,h3⟩
theorem XP.region{id:Nat}{l:List Oper}(hl:ops.toList=l)(hreg:Nu l=true)(hr:RO C P lo ops l a.tm h (fun tm' h'=>Q .normal ⟨tm',a.df⟩ h')):XP C P ro lo (.region id ops false) a h Q:=by
 subst hl
 obtain⟨tm',h',wr,h1,h2,h3⟩:=hr
 exact XP.ops hreg h1 h2 h3
def RD(C:Ctx)(P:Program)(lo:Nat)(ops:Array Oper)(ms:List Nat)(l:List Oper)(i:Nat)(s:Dr)(R:List Value→List Blk→Prop):Prop:=
 ∃ s',dS C P ops ms l i s=some s'∧wge s'.wr lo=true∧R s'.tm s'.h
variable {ms:List Nat} {i:Nat} {np:List Nat} {c:Bool} {wr:Option Nat}
theorem RD.nil(hw:wge wr lo=true)(hq:R tm h):RD C P lo ops ms [] i ⟨tm,h,np,c,wr⟩ R:=⟨_,rfl,hw,hq⟩
theorem RD.pop(hw:Region.wanted o (yielded ops ⟨tm⟩)=true)(hp:Rex.pop P (ev tm) o=some v)(ht:bX tm o.dst v=tm2)(hq:RD C P lo ops ms rest (i+1) ⟨tm2,h,np,c,wr⟩ R):RD C P lo ops ms (o::rest) i ⟨tm,h,np,c,wr⟩ R:=by
 subst ht
 obtain⟨s',h1,h2⟩:=hq
 exact⟨s',by simp only[dS,fU,if_pos hw,hp,h1],h2⟩
theorem RD.skip(hw:Region.wanted o (yielded ops ⟨tm⟩)=false)(ht:bX tm o.dst undef=tm2)(hq:RD C P lo ops ms rest (i+1) ⟨tm2,h,np,c,wr⟩ R):RD C P lo ops ms (o::rest) i ⟨tm,h,np,c,wr⟩ R:=by
 subst ht
 obtain⟨s',h1,h2⟩:=hq
 exact⟨s',by simp only[dS,fU,hw,Bool.false_eq_true,if_false,h1],h2⟩
theorem RD.act{h1:List Blk}(hw:Region.wanted o (yielded ops ⟨tm⟩)=true)(hp:Rex.pop P (ev tm) o=none)(hx:xop C P (ev tm) o h=some (v,h1,none))(he:Ext h h1)(ht:bX tm o.dst v=tm2)(hq:RD C P lo ops ms rest (i+1) ⟨tm2,h1,i::np,false,wr⟩ R):RD C P lo ops ms (o::rest) i ⟨tm,h,np,false,wr⟩ R:=by
 subst ht
 obtain⟨s',h1',h2⟩:=hq
 exact⟨s',by simp only[dS,fU,if_pos hw,hp,hx,Jl he,h1'],h2⟩
theorem XP.drawn{id:Nat}{l:List Oper}{ms:List Nat}(hok:xU ops=true)(hl:ops.toList=l)(hm:masks l []=ms)(hr:RD C P lo ops ms l 0 ⟨a.tm,h,[],false,none⟩ (fun tm' h'=>Q .normal ⟨tm',a.df⟩ h')):XP C P ro lo (.region id ops true) a h Q:=by
 subst hl
 subst hm
 obtain⟨s',h1,h2,h3⟩:=hr
 exact XP.draws hok h1 h2 h3
end
noncomputable def over(P:Program)(f:FuncId):Ctx:=⟨fun g args h=>if g=f∧args=[] then some (.bool true,h,none) else (lim P).call g args h,(lim P).round⟩
def AwT(P:Program)(f:FuncId):Prop:=∀ w,GW w→NG≤w.heap.size→Calls P f ⟨[]⟩ w (fun e w'=>e = .returned (.bool true)∧Below w.heap.size w w')
theorem Jk{P:Program}(hm:P.follows .mixedOrders=true){k d:Nat}{f:FuncId}(hv:Dz (ecall P k d f [] GH)=true):AwT P f:=Gc hm hv
theorem Tb{P:Program}(hm:P.follows .mixedOrders=true){f:FuncId}(hv:AwT P f):CtxOk P (over P f):=
 ⟨fun {g args h v h' wr} hv'=>by
  intro B lo D m w args' hr hlo hw hargs
  unfold over at hv'
  simp only at hv'
  split at hv'
  ·rename_i hg
   obtain⟨rfl,rfl⟩:=hg
   obtain⟨rfl,rfl,rfl⟩:Value.bool true=v∧h=h'∧none=wr:=by simpa using hv'
   obtain rfl:args'=[]:=by have:=hargs.len;simpa using this
   refine (hv w hr.gl.gw (Nat.le_trans hr.gl.gb hr.le)).mono ?_
   rintro e w' ⟨rfl,hb⟩
   exact⟨_,m,rfl,Post.frame hr hb,VR.of_clean depth _ rfl⟩
  ·exact (Wg hm).call hv' hr hlo hw hargs,
  (Wg hm).round⟩
theorem He{P:Program}{f g:FuncId}{args:List Value}{h:List Blk}:(over P f).call g args h=if g=f∧args=[] then some (.bool true,h,none) else (lim P).call g args h:=rfl
theorem Zs{P:Program}(hm:P.follows .mixedOrders=true){f:FuncId}(hv:AwT P f){g:FuncId}{fd:Func}{c:Code}{args:List Value}{h:List Blk}(hf:P.funcs[g]?=some fd)(hb:fd.body=some c)
 {tm:List Value} (htm:args++List.replicate (fd.ntmps-args.length) undef=tm)
 (hx:XP (over P f) P none h.length c ⟨tm,[]⟩ h (fun e a1 h1=>(e = .normal∨e = .ret)∧a1.df=[]∧∃ vs,nR P h1 a1.tm fd.results.toList=some vs∧iZ vs = .bool true))
 {B lo:Nat} {D:Nat→Prop} {m:NMap} {w:World} {args':List Value} (hr:Rel B lo D m h w) (hlo:lo≤h.length) (hargs:VRs D m args args'):Calls P g ⟨args'⟩ w (fun e w'=>e = .returned (.bool true)∧Below w.heap.size w w'):=by
 subst htm
 obtain⟨K,e,a1,h1,w1,hx,hw,he,hdf,vs,hvs,hR⟩:=hx
 have hcall:hU (over P f) P K g args h=some (.bool true,h,none):=by
  unfold hU
  simp only[hf,hb,hx]
  have hend:jL P fd h.length h a1 h1 w1=some (.bool true,h,none):=by
   simp[jL,hdf,bF,hvs,hR,Sh,hw,show bN (.bool true)=true from rfl]
  rcases he with rfl|rfl<;>exact hend
 refine (rV (Tb hm hv) (fun {_ _ _ _ _ _ _} hv' {_ _ _ _ _ _ _ _ _} hr hlo hA hw hQ=>Ao (Tb hm hv) hm hv' hr hlo hA hw hQ) hcall (hr.still h.length (Nat.le_refl _)) (Nat.le_refl _) (fun n hn=>by cases hn) hargs).mono ?_
 rintro e' w' ⟨v',m',rfl,hp,hvr⟩
 cases hvr
 exact⟨rfl,hp.below⟩
end Go.Rex
namespace Go.Rex
open Go.RowKit
theorem Wz{P:Program}{ρ:Operand→Value}{d:Option Tmp}{x y:Operand}{tys:Array TypeId}{ty:TypeId}{pos:String}{aft:Array Edge}{gd:Option (Nat×Bool)} :
 nG P ρ { dst:=d,op:=.call { callee:=.builtin .max,args:=#[x,y],argTypes:=tys },type:=ty,pos:=pos,after:=aft,guard:=gd }=(match ρ x,ρ y with|.int k a,.int _ b=>some (.int k (if b>a then b else a))|_,_=>aAQ P ρ { dst:=d,op:=.call { callee:=.builtin .max,args:=#[x,y],argTypes:=tys },type:=ty,pos:=pos,after:=aft,guard:=gd }):=by
 split
 ·rename_i k a k' b hx hy
  have h1:([x,y].all fun x=>cU (ρ x))=true:=by simp only[List.all_cons,List.all_nil,hx,hy];rfl
  have h2:prun P (execOp ρ { dst:=d,op:=.call { callee:=.builtin .max,args:=#[x,y],argTypes:=tys },type:=ty,pos:=pos,after:=aft,guard:=gd })=some (.value (.int k (if b>a then b else a))):=by
   simp[execOp,resolve,invoke,hx,hy]
   rfl
  unfold nG
  simp only
  rw[show (Op.call { callee:=.builtin .max,args:=#[x,y],argTypes:=tys }).operands.toList=[x,y] by simp[Op.operands,Call.operands],if_pos h1,h2]
  rfl
 ·rfl
theorem Ye{P:Program}{ρ:Operand→Value}{d:Option Tmp}{x y:Operand}{tys:Array TypeId}{ty:TypeId}{pos:String}{aft:Array Edge}{gd:Option (Nat×Bool)} :
 nG P ρ { dst:=d,op:=.call { callee:=.builtin .min,args:=#[x,y],argTypes:=tys },type:=ty,pos:=pos,after:=aft,guard:=gd }=(match ρ x,ρ y with|.int k a,.int _ b=>some (.int k (if b<a then b else a))|_,_=>aAQ P ρ { dst:=d,op:=.call { callee:=.builtin .min,args:=#[x,y],argTypes:=tys },type:=ty,pos:=pos,after:=aft,guard:=gd }):=by
 split
 ·rename_i k a k' b hx hy
  have h1:([x,y].all fun x=>cU (ρ x))=true:=by simp only[List.all_cons,List.all_nil,hx,hy];rfl
  have h2:prun P (execOp ρ { dst:=d,op:=.call { callee:=.builtin .min,args:=#[x,y],argTypes:=tys },type:=ty,pos:=pos,after:=aft,guard:=gd })=some (.value (.int k (if b<a then b else a))):=by
   simp[execOp,resolve,invoke,hx,hy]
   rfl
  unfold nG
  simp only
  rw[show (Op.call { callee:=.builtin .min,args:=#[x,y],argTypes:=tys }).operands.toList=[x,y] by simp[Op.operands,Call.operands],if_pos h1,h2]
  rfl
 ·rfl
theorem Xw{P:Program}{ρ:Operand→Value}{o:Oper}{v w:Value}(h:nG P ρ o=some v)(hw:prun P (execOp ρ o)=some (.value w)∨prun P (execOp ρ o)=none):v=w:=by
 unfold nG at h
 split at h
 ·cases h
 ·split at h
  ·split at h
   ·rename_i v0 hp
    split at h
    ·obtain rfl:=Option.some.inj h
     rcases hw with hw|hw<;>rw[hw] at hp
     ·cases hp;rfl
     ·cases hp
    ·cases h
   ·cases h
  ·cases h
theorem wJ{P:Program}{ρ:Operand→Value}{o:Oper}{w:Value}(h0:pop0 P ρ o=nG P ρ o)(hn:Be P ρ o=some w)(hw:prun P (execOp ρ o)=some (.value w)∨prun P (execOp ρ o)=none):pop P ρ o=some w:=by
 unfold pop
 rw[h0]
 cases h:nG P ρ o with
 | none=>exact hn
 | some v=>rw[Xw h hw]
theorem Jh{P:Program}{ρ:Operand→Value}{d:Option Tmp}{x y:Operand}{tys:Array TypeId}{ty:TypeId}{pos:String}{aft:Array Edge}{gd:Option (Nat×Bool)}{k:FloatKind}{a b:Nat}(hx:ρ x = .float k a)(hy:ρ y = .float k b) :
 pop P ρ { dst:=d,op:=.call { callee:=.builtin .complex,args:=#[x,y],argTypes:=tys },type:=ty,pos:=pos,after:=aft,guard:=gd }=some (.complex k a b):=by
 refine wJ rfl ?_ (.inl ?_)
 ·simp[Be,Mp,hx,hy]
 ·have e : execOp ρ { dst := d, op := .call { callee := .builtin .complex, args := #[x, y], argTypes := tys }, type := ty, pos := pos, after := aft, guard := gd } = (do pure (.value (← Builtin.complex_ tys ty #[ρ x, ρ y]))) := by
    simp only[execOp,resolve,invoke,List.map_toArray,List.map_cons,List.map_nil]
    rfl
  rw[e,hx,hy]
  show prun P ((if k = k then (pure (Value.complex k a b) : Sem Value) else stuck "complex: parts of different kinds") >>= fun r => pure (Next.value r)) = _
  rw[if_pos rfl]
  rfl
theorem Tz{P:Program}{ρ:Operand→Value}{d:Option Tmp}{x:Operand}{tys:Array TypeId}{ty:TypeId}{pos:String}{aft:Array Edge}{gd:Option (Nat×Bool)}{k:FloatKind}{a b:Nat}(hx:ρ x = .complex k a b) :
 pop P ρ { dst:=d,op:=.call { callee:=.builtin .real,args:=#[x],argTypes:=tys },type:=ty,pos:=pos,after:=aft,guard:=gd }=some (.float k a):=by
 refine wJ rfl ?_ (.inl ?_)
 ·simp[Be,Mp,hx]
 ·simp[execOp,resolve,invoke,hx]
  rfl
theorem Uv{P:Program}{ρ:Operand→Value}{d:Option Tmp}{x:Operand}{tys:Array TypeId}{ty:TypeId}{pos:String}{aft:Array Edge}{gd:Option (Nat×Bool)}{k:FloatKind}{a b:Nat}(hx:ρ x = .complex k a b) :
 pop P ρ { dst:=d,op:=.call { callee:=.builtin .imag,args:=#[x],argTypes:=tys },type:=ty,pos:=pos,after:=aft,guard:=gd }=some (.float k b):=by
 refine wJ rfl ?_ (.inl ?_)
 ·simp[Be,Mp,hx]
 ·simp[execOp,resolve,invoke,hx]
  rfl
inductive TV
 | Z
 | v (x:Value)
 | agg (l:List TV)
 | tuple (l:List TV)
 | func (f:FuncId) (first caps:List TV)
 | list (es:Nat) (rows:List (List TV))
 | fptr (vb:Bool) (row:List TV) (off:Nat)
 | lptr (n r o:Nat)
 | lsl (n o len:Nat)
structure LI where
 ok:Bool
 nm:Option Nat
 es:Nat
 tot:Nat
def noL:Nat→LI:=fun _=>⟨false,none,0,0⟩
def rT:Value→Bool
 | .agg _=>false
 | .tuple _=>false
 | .func (.yield _) ⟨[]⟩ ⟨[]⟩=>true
 | .func ..=>false
 | x=>bN x
inductive VL (Fz:Nat→Prop) (h:List Blk):(Nat→LI)→TV→Value→Prop
 | Z (L:Nat→LI) (x:Value):VL Fz h L .Z x
 | v (L:Nat→LI) (x:Value) (hx:rT x=true):VL Fz h L (.v x) x
 | agg (L:Nat→LI) (l:List TV) (l':List Value) (hl:l'.length=l.length) (ha:∀(i:Nat) p x,l[i]?=some p→l'[i]?=some x→VL Fz h L p x):VL Fz h L (.agg l) (.agg ⟨l'⟩)
 | tuple (L:Nat→LI) (l:List TV) (l':List Value) (hl:l'.length=l.length) (ha:∀(i:Nat) p x,l[i]?=some p→l'[i]?=some x→VL Fz h L p x):VL Fz h L (.tuple l) (.tuple ⟨l'⟩)
 | func (L : Nat → LI) (f : FuncId) (a b : List TV) (a' b' : List Value) (la : a'.length = a.length) (ha : ∀ (i : Nat) p x, a[i]? = some p → a'[i]? = some x → VL Fz h noL p x)
     (lb:b'.length=b.length) (hb:∀(i:Nat) p x,b[i]?=some p→b'[i]?=some x→VL Fz h noL p x):VL Fz h L (.func f a b) (.func (.func f) ⟨a'⟩ ⟨b'⟩)
 | nillist (L:Nat→LI) (es:Nat):VL Fz h L (.list es []) (.slice none 0 0)
 | vague (L:Nat→LI) (es:Nat):VL Fz h L (.list es []) vag
 | list (L : Nat → LI) (es : Nat) (rows : List (List TV)) (n o c : Nat) (cs : List Value) (eb : Nat) (hn : Fz n) (hb : h[n]? = some (.cells eb cs)) (he : eb = es ∨ eb = 0) (hw : ∀ r ∈ rows, r.length = es) (hc : rows.length ≤ c) (hle : o + rows.length * es ≤ cs.length)
     (ha:∀(j:Nat) p x,rows.flatten[j]?=some p→cs[o+j]?=some x→VL Fz h noL p x):VL Fz h L (.list es rows) (.slice (some ⟨n,o,none⟩) rows.length c)
 | fptr (L : Nat → LI) (vb : Bool) (row : List TV) (off n base es : Nat) (cs : List Value) (hn : Fz n) (hb : h[n]? = some (.cells es cs)) (hv : vb = true → es = 0) (hle : base + row.length ≤ cs.length)
     (ha:∀(j:Nat) p x,row[j]?=some p→cs[base+j]?=some x→VL Fz h noL p x):VL Fz h L (.fptr vb row off) (.pointer (some ⟨n,base+off,none⟩))
 | lptr (L:Nat→LI) (n r o nm:Nat) (ok:(L n).ok=true) (hn:(L n).nm=some nm):VL Fz h L (.lptr n r o) (.pointer (some ⟨nm,r*(L n).es+o,none⟩))
 | lslnil (L:Nat→LI) (n:Nat) (ok:(L n).ok=true) (hn:(L n).nm=none):VL Fz h L (.lsl n 0 0) (.slice none 0 0)
 | lsl (L:Nat→LI) (n o len nm:Nat) (ok:(L n).ok=true) (hn:(L n).nm=some nm) (hle:o+len≤(L n).tot):VL Fz h L (.lsl n o len) (.slice (some ⟨nm,o*(L n).es,none⟩) len ((L n).tot-o))
structure VLs(Fz:Nat→Prop)(h:List Blk)(L:Nat→LI)(l:List TV)(l':List Value):Prop where
 len:l'.length=l.length
 at':∀(i:Nat) p x,l[i]?=some p→l'[i]?=some x→VL Fz h L p x
section
variable {Fz Fz':Nat→Prop} {h h':List Blk} {L L':Nat→LI}
theorem VLs.at{l:List TV}{l':List Value}(hs:VLs Fz h L l l'){i:Nat}{p:TV}(hp:l[i]?=some p):∃ x,l'[i]?=some x∧VL Fz h L p x:=by
 have hi:=(List.getElem?_eq_some_iff.1 hp).1
 have hi':i<l'.length:=by rw[hs.len];exact hi
 exact⟨l'[i],List.getElem?_eq_getElem hi',hs.at' i _ _ hp (List.getElem?_eq_getElem hi')⟩
theorem VLs.nil:VLs Fz h L [] []:=⟨rfl,fun i p x hp=>by simp at hp⟩
theorem VLs.cons{p:TV}{x:Value}{l:List TV}{l':List Value}(hp:VL Fz h L p x)(hs:VLs Fz h L l l'):VLs Fz h L (p::l) (x::l'):=by
 refine⟨by simp[hs.len],fun i q y hq hy=>?_⟩
 cases i with
 | zero=>simp at hq hy;subst hq hy;exact hp
 | succ i=>simp at hq hy;exact hs.at' i _ _ hq hy
theorem VLs.append{l1 l2:List TV}{x1 x2:List Value}(ha:VLs Fz h L l1 x1)(hb:VLs Fz h L l2 x2):VLs Fz h L (l1++l2) (x1++x2):=by
 refine⟨by simp[ha.len,hb.len],fun i p x hp hx=>?_⟩
 rw[List.getElem?_append] at hp hx
 rw[ha.len] at hx
 split at hp
 ·rename_i hi;rw[if_pos hi] at hx;exact ha.at' i _ _ hp hx
 ·rename_i hi;rw[if_neg hi] at hx;exact hb.at' _ _ _ hp hx
theorem VLs.extract{l:List TV}{x:List Value}(hs:VLs Fz h L l x)(i j:Nat):VLs Fz h L ((l.drop i).take j) ((x.drop i).take j):=by
 refine⟨by simp[hs.len],fun k p y hp hy=>?_⟩
 simp only[List.getElem?_take,List.getElem?_drop] at hp hy
 split at hp
 ·rename_i hk;rw[if_pos hk] at hy;exact hs.at' _ _ _ hp hy
 ·cases hp
theorem VLs.set{l:List TV}{l':List Value}(hs:VLs Fz h L l l')(i:Nat){p:TV}{x:Value}(hp:VL Fz h L p x):VLs Fz h L (l.set i p) (l'.set i x):=by
 refine⟨by simp[hs.len],fun k q y hq hy=>?_⟩
 rw[List.getElem?_set] at hq hy
 split at hq
 ·rename_i hk
  rw[if_pos hk,hs.len] at hy
  split at hq
  ·rename_i hlt;rw[if_pos hlt] at hy;cases hq;cases hy;exact hp
  ·cases hq
 ·rename_i hk;rw[if_neg hk] at hy;exact hs.at' _ _ _ hq hy
theorem VLs.replicate{p:TV}{x:Value}(hp:VL Fz h L p x)(n:Nat):VLs Fz h L (List.replicate n p) (List.replicate n x):=by
 refine⟨by simp,fun k q y hq hy=>?_⟩
 rw[List.getElem?_replicate] at hq hy
 split at hq
 ·rename_i hk;rw[if_pos hk] at hy;cases hq;cases hy;exact hp
 ·cases hq
theorem VL.agg'{l:List TV}{l':List Value}(hs:VLs Fz h L l l'):VL Fz h L (.agg l) (.agg ⟨l'⟩):=.agg L l l' hs.len hs.at'
theorem VL.tuple'{l:List TV}{l':List Value}(hs:VLs Fz h L l l'):VL Fz h L (.tuple l) (.tuple ⟨l'⟩):=.tuple L l l' hs.len hs.at'
theorem VL.mono{p:TV}{x:Value}(hp:VL Fz h L p x)(hF:∀ n,Fz n→Fz' n)(hh:∀ n,Fz n→h'[n]?=h[n]?):VL Fz' h' L p x:=by
 induction hp with
 | Z L x=>exact .Z L x
 | v L x hx=>exact .v L x hx
 | agg L l l' hl ha ih=>exact .agg L l l' hl ih
 | tuple L l l' hl ha ih=>exact .tuple L l l' hl ih
 | func L f a b a' b' la ha lb hb iha ihb=>exact .func L f a b a' b' la iha lb ihb
 | nillist L es=>exact .nillist L es
 | vague L es=>exact .vague L es
 | list L es rows n o c cs eb hn hb he hw hc hle ha ih=>exact .list L es rows n o c cs eb (hF n hn) (by rw[hh n hn];exact hb) he hw hc hle ih
 | fptr L vb row off n base es cs hn hb hv hle ha ih=>exact .fptr L vb row off n base es cs (hF n hn) (by rw[hh n hn];exact hb) hv hle ih
 | lptr L n r o nm ok hn=>exact .lptr L n r o nm ok hn
 | lslnil L n ok hn=>exact .lslnil L n ok hn
 | lsl L n o len nm ok hn hle=>exact .lsl L n o len nm ok hn hle
theorem VLs.mono{l:List TV}{l':List Value}(hs:VLs Fz h L l l')(hF:∀ n,Fz n→Fz' n)(hh:∀ n,Fz n→h'[n]?=h[n]?):VLs Fz' h' L l l':=
 ⟨hs.len,fun i p x hp hx=>(hs.at' i p x hp hx).mono hF hh⟩
theorem VL.own{p:TV}{x:Value}(hp:VL Fz h L p x)(hL:∀ n,(L n).ok=true→L' n=L n):VL Fz h L' p x:=by
 induction hp generalizing L' with
 | Z L x=>exact .Z L' x
 | v L x hx=>exact .v L' x hx
 | agg L l l' hl ha ih=>exact .agg L' l l' hl (fun i p x h1 h2=>ih i p x h1 h2 hL)
 | tuple L l l' hl ha ih=>exact .tuple L' l l' hl (fun i p x h1 h2=>ih i p x h1 h2 hL)
 | func L f a b a' b' la ha lb hb iha ihb=>exact .func L' f a b a' b' la ha lb hb
 | nillist L es=>exact .nillist L' es
 | vague L es=>exact .vague L' es
 | list L es rows n o c cs eb hn hb he hw hc hle ha ih=>exact .list L' es rows n o c cs eb hn hb he hw hc hle ha
 | fptr L vb row off n base es cs hn hb hv hle ha ih=>exact .fptr L' vb row off n base es cs hn hb hv hle ha
 | lptr L n r o nm ok hn=>have e:=hL n ok;rw[← e] at ok hn ⊢;exact .lptr L' n r o nm ok hn
 | lslnil L n ok hn=>have e:=hL n ok;rw[← e] at ok hn;exact .lslnil L' n ok hn
 | lsl L n o len nm ok hn hle=>have e:=hL n ok;rw[← e] at ok hn hle ⊢;exact .lsl L' n o len nm ok hn hle
theorem VLs.own{l:List TV}{l':List Value}(hs:VLs Fz h L l l')(hL:∀ n,(L n).ok=true→L' n=L n):VLs Fz h L' l l':=
 ⟨hs.len,fun i p x hp hx=>(hs.at' i p x hp hx).own hL⟩
theorem VL.ofNo{p:TV}{x:Value}(hp:VL Fz h noL p x):VL Fz h L p x:=hp.own (fun n hn=>by simp[noL] at hn)
theorem VLs.ofNo{l:List TV}{l':List Value}(hs:VLs Fz h noL l l'):VLs Fz h L l l':=⟨hs.len,fun i p x hp hx=>(hs.at' i p x hp hx).ofNo⟩
def kill(n:Nat):Nat→TV→TV
 | 0,_=>.Z
 | d+1,p=>match p with
  | .lptr m r o=>if m=n then .Z else .lptr m r o
  | .lsl m o l=>if m=n then .Z else .lsl m o l
  | .agg l=>.agg (l.map (kill n d))
  | .tuple l=>.tuple (l.map (kill n d))
  | p=>p
theorem VL.kill{n:Nat}(hL:∀ m,m≠n→L' m=L m):∀(d:Nat) {p:TV} {x:Value},VL Fz h L p x→VL Fz h L' (kill n d p) x
 | 0,p,x,hp=>by rw[Rex.kill];exact .Z L' x
 | d+1,p,x,hp=>by
  have key:∀(l:List TV) (l':List Value),(∀(i:Nat) p x,l[i]?=some p→l'[i]?=some x→VL Fz h L p x)→∀(i:Nat) p x,(l.map (Rex.kill n d))[i]?=some p→l'[i]?=some x→VL Fz h L' p x:=by
   intro l l' ha i p x hp hx
   rw[List.getElem?_map] at hp
   cases hq:l[i]? with
   | none=>rw[hq] at hp;cases hp
   | some q=>rw[hq] at hp;obtain rfl:=Option.some.inj hp;exact VL.kill hL d (ha i q x hq hx)
  cases hp with
  | Z _ x=>exact .Z L' x
  | v _ x hx=>exact .v L' x hx
  | agg _ l l' hl ha=>exact .agg L' _ l' (by simp[hl]) (key l l' ha)
  | tuple _ l l' hl ha=>exact .tuple L' _ l' (by simp[hl]) (key l l' ha)
  | func _ f a b a' b' la ha lb hb=>exact .func L' f a b a' b' la ha lb hb
  | nillist _ es=>exact .nillist L' es
  | vague _ es=>exact .vague L' es
  | list _ es rows n o c cs eb hn hb he hw hc hle ha=>exact .list L' es rows n o c cs eb hn hb he hw hc hle ha
  | fptr _ vb row off n base es cs hn hb hv hle ha=>exact .fptr L' vb row off n base es cs hn hb hv hle ha
  | lptr _ m r o nm ok hn =>
   simp only[Rex.kill]
   split
   ·exact .Z L' _
   ·rename_i hne;rw[← hL m hne] at ok hn ⊢;exact .lptr L' m r o nm ok hn
  | lslnil _ m ok hn =>
   simp only[Rex.kill]
   split
   ·exact .Z L' _
   ·rename_i hne;rw[← hL m hne] at ok hn;exact .lslnil L' m ok hn
  | lsl _ m o len nm ok hn hle =>
   simp only[Rex.kill]
   split
   ·exact .Z L' _
   ·rename_i hne;rw[← hL m hne] at ok hn hle ⊢;exact .lsl L' m o len nm ok hn hle
def lf:Nat→TV→Bool
 | 0,_=>false
 | d+1,p=>match p with
  | .lptr ..=>false
  | .lsl ..=>false
  | .agg l=>l.all (lf d)
  | .tuple l=>l.all (lf d)
  | _=>true
theorem VL.toNo:∀(d:Nat) {p:TV} {x:Value},lf d p=true→VL Fz h L p x→VL Fz h L' p x
 | 0,p,x,hl,hp=>by simp[lf] at hl
 | d+1,p,x,hl,hp=>by
  have key:∀(l:List TV) (l':List Value),l.all (lf d)=true→(∀(i:Nat) p x,l[i]?=some p→l'[i]?=some x→VL Fz h L p x)→∀(i:Nat) p x,l[i]?=some p→l'[i]?=some x→VL Fz h L' p x:=by
   intro l l' hall ha i p x hp hx
   exact VL.toNo d (by simpa using (List.all_eq_true.1 hall) p (List.mem_of_getElem? hp)) (ha i p x hp hx)
  cases hp with
  | Z _ x=>exact .Z L' x
  | v _ x hx=>exact .v L' x hx
  | agg _ l l' hl' ha=>exact .agg L' _ l' hl' (key l l' (by simpa [lf] using hl) ha)
  | tuple _ l l' hl' ha=>exact .tuple L' _ l' hl' (key l l' (by simpa [lf] using hl) ha)
  | func _ f a b a' b' la ha lb hb=>exact .func L' f a b a' b' la ha lb hb
  | nillist _ es=>exact .nillist L' es
  | vague _ es=>exact .vague L' es
  | list _ es rows n o c cs eb hn hb he hw hc hle ha=>exact .list L' es rows n o c cs eb hn hb he hw hc hle ha
  | fptr _ vb row off n base es cs hn hb hv hle ha=>exact .fptr L' vb row off n base es cs hn hb hv hle ha
  | lptr=>simp[lf] at hl
  | lslnil=>simp[lf] at hl
  | lsl=>simp[lf] at hl
def cl:Nat→TV→Bool
 | 0,_=>false
 | d+1,p=>match p with
  | .Z=>true
  | .v _=>true
  | .lptr ..=>true
  | .lsl ..=>true
  | .agg l=>l.all (cl d)
  | .tuple l=>l.all (cl d)
  | _=>false
theorem VL.ofCl:∀(d:Nat) {p:TV} {x:Value},cl d p=true→VL Fz h L p x→VL Fz' h' L p x
 | 0,p,x,hl,hp=>by simp[cl] at hl
 | d+1,p,x,hl,hp=>by
  have key:∀(l:List TV) (l':List Value),l.all (cl d)=true→(∀(i:Nat) p x,l[i]?=some p→l'[i]?=some x→VL Fz h L p x)→∀(i:Nat) p x,l[i]?=some p→l'[i]?=some x→VL Fz' h' L p x:=by
   intro l l' hall ha i p x hp hx
   exact VL.ofCl d (by simpa using (List.all_eq_true.1 hall) p (List.mem_of_getElem? hp)) (ha i p x hp hx)
  cases hp with
  | Z _ x=>exact .Z L x
  | v _ x hx=>exact .v L x hx
  | agg _ l l' hl' ha=>exact .agg L _ l' hl' (key l l' (by simpa [cl] using hl) ha)
  | tuple _ l l' hl' ha=>exact .tuple L _ l' hl' (key l l' (by simpa [cl] using hl) ha)
  | func=>simp[cl] at hl
  | nillist _ es=>simp[cl] at hl
  | vague _ es=>simp[cl] at hl
  | list=>simp[cl] at hl
  | fptr=>simp[cl] at hl
  | lptr _ n r o nm ok hn=>exact .lptr L n r o nm ok hn
  | lslnil _ n ok hn=>exact .lslnil L n ok hn
  | lsl _ n o len nm ok hn hle=>exact .lsl L n o len nm ok hn hle
def er:Nat→TV→Option Value
 | 0,_=>none
 | d+1,p=>match p with
  | .v x=>some x
  | .agg l=>(l.mapM (er d)).map fun l'=>.agg ⟨l'⟩
  | _=>none
theorem zZ{α β:Type}{f:α→Option β}:∀ {l:List α} {l':List β},l.mapM f=some l'→l'.length=l.length∧∀(i:Nat) a b,l[i]?=some a→l'[i]?=some b→f a=some b
 | [],l',hl=>by simp at hl;subst hl;simp
 | a::l,l',hl=>by
  simp only[List.mapM_cons,bind,Option.bind_eq_some_iff,pure] at hl
  obtain⟨b,hb,r,hr,he⟩:=hl
  obtain rfl:=Option.some.inj he
  obtain⟨h1,h2⟩:=zZ hr
  refine⟨by simp[h1],fun i x y hx hy=>?_⟩
  cases i with
  | zero=>simp at hx hy;subst hx hy;exact hb
  | succ i=>simp at hx hy;exact h2 i x y hx hy
theorem VL.er:∀(d:Nat) {p:TV} {x y:Value},er d p=some y→VL Fz h L p x→x=y
 | 0,p,x,y,he,hp=>by simp[Rex.er] at he
 | d+1,p,x,y,he,hp=>by
  cases hp with
  | v _ x hx=>simpa [Rex.er] using he
  | agg _ l l' hl ha =>
   simp only[Rex.er,Option.map_eq_some_iff] at he
   obtain⟨r,hr,rfl⟩:=he
   obtain⟨h1,h2⟩:=zZ hr
   congr 2
   apply List.ext_getElem?
   intro i
   cases hx:l'[i]? with
   | none =>
    rw[List.getElem?_eq_none_iff] at hx
    rw[eq_comm,List.getElem?_eq_none_iff]
    omega
   | some x =>
    have hi:=(List.getElem?_eq_some_iff.1 hx).1
    have hp:l[i]?=some l[i]:=List.getElem?_eq_getElem (by omega)
    have hy:r[i]?=some r[i]:=List.getElem?_eq_getElem (by omega)
    rw[hy,VL.er d (h2 i _ _ hp hy) (ha i _ _ hp hx)]
  | _=>simp[Rex.er] at he
def inj:Nat→Value→TV
 | 0,x=>.v x
 | d+1,x=>match x with
  | .agg ⟨l⟩=>.agg (l.map (inj d))
  | .tuple ⟨l⟩=>.tuple (l.map (inj d))
  | x=>.v x
def pD:Nat→Value→Bool
 | 0,x=>rT x
 | d+1,x=>match x with
  | .agg ⟨l⟩=>l.all (pD d)
  | .tuple ⟨l⟩=>l.all (pD d)
  | x=>rT x
theorem VL.inj:∀(d:Nat) {x:Value},pD d x=true→VL Fz h L (inj d x) x
 | 0,x,hx=>.v L x (by simpa [pD] using hx)
 | d+1,x,hx=>by
  have key:∀(l:List Value),l.all (pD d)=true→VLs Fz h L (l.map (Rex.inj d)) l:=by
   intro l hl
   refine⟨by simp,fun i p x hp hx=>?_⟩
   rw[List.getElem?_map,hx] at hp
   obtain rfl:=Option.some.inj hp
   exact VL.inj d (by simpa using (List.all_eq_true.1 hl) x (List.mem_of_getElem? hx))
  unfold Rex.inj
  unfold pD at hx
  split at hx
  ·exact .agg' (key _ hx)
  ·exact .tuple' (key _ hx)
  ·exact .v L _ hx
end
end Go.Rex
namespace Go.Rex
open Go.RowKit
inductive TB
 | dead
 | rows (es:Nat) (rows:List (List TV))
 | var (row:List TV)
structure TS where
 tm:List TV
 hp:List TB
def BR(lo:Nat)(Fz:Nat→Prop)(h:List Blk)(L:Nat→LI)(n:Nat):TB→Prop
 | .dead=>True
 | .rows es rows => (L n).ok = true ∧ (L n).es = es ∧ (L n).tot = rows.length ∧ (∀ r ∈ rows, r.length = es) ∧
     (((L n).nm=none∧rows=[])∨∃ nm cs,(L n).nm=some nm∧lo≤nm∧¬ Fz nm∧h[nm]?=some (.cells es cs)∧VLs Fz h noL rows.flatten cs)
 | .var row=>(L n).ok=true∧∃ nm cs,(L n).nm=some nm∧lo≤nm∧¬ Fz nm∧h[nm]?=some (.cells 0 cs)∧VLs Fz h L row cs
def TB.live:TB→Bool
 | .dead=>false
 | _=>true
structure FZ(Fz:Nat→Prop)(h:List Blk):Prop where
 lt:∀ n,Fz n→n<h.length
 gl:∀ g,g<NG→Fz g∧h[g]?=GH[g]?
instance {Fz:Nat→Prop} {h:List Blk}:CoeFun (FZ Fz h) (fun _=>∀ n,Fz n→n<h.length):=⟨FZ.lt⟩
instance {Fz:Nat→Prop} {h:List Blk}:Coe (FZ Fz h) (∀ n,Fz n→n<h.length):=⟨FZ.lt⟩
theorem FZ.to{Fz Fz':Nat→Prop}{h h':List Blk}(hf:FZ Fz h)(hF:∀ n,Fz n→Fz' n)(hh:∀ n,Fz n→h'[n]?=h[n]?)(hl:∀ n,Fz' n→n<h'.length):FZ Fz' h':=
 ⟨hl,fun g hg=>⟨hF g (hf.gl g hg).1,(hh g (hf.gl g hg).1).trans (hf.gl g hg).2⟩⟩
structure St(h0:List Blk)(Fz:Nat→Prop)(L:Nat→LI)(s:TS)(tm:List Value)(h:List Blk):Prop where
 tmr:VLs Fz h L s.tm tm
 blk:∀ n b,s.hp[n]?=some b→BR h0.length Fz h L n b
 dom:∀ n,(L n).ok=true→n<s.hp.length
 inj:∀ n n' b b' nm,s.hp[n]?=some b→s.hp[n']?=some b'→b.live=true→b'.live=true→(L n).nm=some nm→(L n').nm=some nm→n=n'
 fz:FZ Fz h
 ext:Ext h0 h
structure Grow(h0:List Blk)(Fz Fz':Nat→Prop)(h h':List Blk):Prop where
 fz:∀ n,Fz n→Fz' n
 new:∀ n,Fz' n→Fz n∨h0.length≤n
 same:∀ n,Fz n→h'[n]?=h[n]?
theorem Grow.refl(h0:List Blk)(Fz:Nat→Prop){h:List Blk}:Grow h0 Fz Fz h h:=⟨fun _ h=>h,fun _ h=>.inl h,fun _ _=>rfl⟩
theorem Grow.trans{h0 h h1 h2:List Blk}{A B C:Nat→Prop}(a:Grow h0 A B h h1)(b:Grow h0 B C h1 h2):Grow h0 A C h h2:=
 ⟨fun n h=>b.1 n (a.1 n h),fun n h=>by rcases b.2 n h with h|h;exact a.2 n h;exact .inr h,fun n hn=>(b.3 n (a.1 n hn)).trans (a.3 n hn)⟩
theorem Grow.ext{h0 h h':List Blk}{Fz:Nat→Prop}(hz:∀ n,Fz n→n<h.length)(he:Ext h h'):Grow h0 Fz Fz h h':=
 ⟨fun _ h=>h,fun _ h=>.inl h,fun n hn=>by obtain⟨t,rfl⟩:=he;exact List.getElem?_append_left (hz n hn)⟩
theorem Grow.set{h0 h:List Blk}{Fz:Nat→Prop}{nm:Nat}{b:Blk}(hn:¬ Fz nm):Grow h0 Fz Fz h (h.set nm b):=
 ⟨fun _ h=>h,fun _ h=>.inl h,fun n hf=>List.getElem?_set_ne (by rintro rfl;exact hn hf)⟩
def Wk(s s':TS):Prop:=∀ h0 Fz L tm h,St h0 Fz L s tm h→∃ Fz' L',Grow h0 Fz Fz' h h∧St h0 Fz' L' s' tm h
theorem Wk.refl(s:TS):Wk s s:=fun _ Fz L _ _ hs=>⟨Fz,L,Grow.refl _ _,hs⟩
section
variable {C:Ctx} {P:Program}
def TX(C:Ctx)(P:Program)(c:Code)(s:TS)(Q:Exit→TS→Prop):Prop:=
 ∀ h0 Fz L tm h,St h0 Fz L s tm h→XP C P none h0.length c ⟨tm,[]⟩ h (fun e a' h'=>a'.df=[]∧∃ s' Fz' L',Q e s'∧Grow h0 Fz Fz' h h'∧St h0 Fz' L' s' a'.tm h')
variable {s s':TS} {Q Q':Exit→TS→Prop}
theorem TX.mono{c:Code}(hx:TX C P c s Q)(hq:∀ e s,Q e s→Q' e s):TX C P c s Q':=by
 intro h0 Fz L tm h hs
 refine (hx h0 Fz L tm h hs).mono ?_
 rintro e a' h' ⟨hd,s',F',L',q,g,hs'⟩
 exact⟨hd,s',F',L',hq _ _ q,g,hs'⟩
theorem TX.weak{c:Code}(hw:Wk s s')(hx:TX C P c s' Q):TX C P c s Q:=by
 intro h0 Fz L tm h hs
 obtain⟨F1,L1,g1,s1⟩:=hw h0 Fz L tm h hs
 refine (hx h0 F1 L1 tm h s1).mono ?_
 rintro e a' h' ⟨hd,s',F',L',q,g,hs'⟩
 exact⟨hd,s',F',L',q,g1.trans g,hs'⟩
theorem TX.post{c:Code}(hx:TX C P c s (fun e s=>∃ s',Wk s s'∧Q e s')):TX C P c s Q:=by
 intro h0 Fz L tm h hs
 refine (hx h0 Fz L tm h hs).mono ?_
 rintro e a' h' ⟨hd,s',F',L',⟨s2,w,q⟩,g,hs'⟩
 obtain⟨F2,L2,g2,hs2⟩:=w h0 F' L' a'.tm h' hs'
 exact⟨hd,s2,F2,L2,q,g.trans g2,hs2⟩
theorem TX.skip(hq:Q .normal s):TX C P .skip s Q:=fun _ Fz L _ _ hs=>XP.skip ⟨rfl,s,Fz,L,hq,Grow.refl _ _,hs⟩
theorem TX.exit{id:Nat}(hq:Q (.exit id) s):TX C P (.exit id) s Q:=fun _ Fz L _ _ hs=>XP.exit ⟨rfl,s,Fz,L,hq,Grow.refl _ _,hs⟩
theorem TX.ret(hq:Q .ret s):TX C P .ret s Q:=fun _ Fz L _ _ hs=>XP.ret ⟨rfl,s,Fz,L,hq,Grow.refl _ _,hs⟩
def Eg(next:TS→Prop)(Q:Exit→TS→Prop):Exit→TS→Prop
 | .normal,s=>next s
 | e,s=>Q e s
theorem TX.seq{x y:Code}(hx:TX C P x s (Eg (fun s=>TX C P y s Q) Q)):TX C P (.seq x y) s Q:=by
 intro h0 Fz L tm h hs
 refine XP.seq ((hx h0 Fz L tm h hs).mono ?_)
 rintro e ⟨tm',df'⟩ h' ⟨hd,s',F',L',q,g,hs'⟩
 obtain rfl:df'=[]:=hd
 cases e with
 | normal =>
  refine Vw ?_
  refine (q h0 F' L' tm' h' hs').mono ?_
  rintro e a' h' ⟨hd,s',F',L',q,g',hs'⟩
  exact⟨hd,s',F',L',q,g.trans g',hs'⟩
 | _=>exact⟨rfl,s',F',L',q,g,hs'⟩
def mT(id:Nat)(Q:Exit→TS→Prop):Exit→TS→Prop
 | .exit id',s=>if id'=id then Q .normal s else Q (.exit id') s
 | e,s=>Q e s
theorem TX.block{id:Nat}{b:Code}(hx:TX C P b s (mT id Q)):TX C P (.block id b) s Q:=by
 intro h0 Fz L tm h hs
 refine XP.block ((hx h0 Fz L tm h hs).mono ?_)
 rintro e ⟨tm',df'⟩ h' ⟨hd,s',F',L',q,g,hs'⟩
 cases e with
 | exit id' =>
  simp only[mT] at q
  simp only[Dt]
  split at q
  ·rename_i hi;rw[if_pos hi];exact⟨hd,s',F',L',q,g,hs'⟩
  ·rename_i hi;rw[if_neg hi];exact⟨hd,s',F',L',q,g,hs'⟩
 | _=>exact⟨hd,s',F',L',q,g,hs'⟩
theorem aBD{next:TS→Prop}(hq:next s):Eg next Q .normal s:=hq
theorem aBR{next:TS→Prop}{id:Nat}(hq:Q (.exit id) s):Eg next Q (.exit id) s:=hq
theorem aCj{next:TS→Prop}(hq:Q .ret s):Eg next Q .ret s:=hq
theorem Xc{id:Nat}(hq:Q .normal s):mT id Q .normal s:=hq
theorem Zh{id:Nat}(hq:Q .ret s):mT id Q .ret s:=hq
theorem Yj{id:Nat}(hq:Q .normal s):mT id Q (.exit id) s:=by simpa only[mT,if_true] using hq
theorem Ue{id id':Nat}(hn:(id'==id)=false)(hq:Q (.exit id') s):mT id Q (.exit id') s:=by
 have:¬ id'=id:=by intro e;subst e;simp at hn
 simpa only[mT,if_neg this] using hq
def tnth:List TV→Nat→TV
 | [],_=>.tuple []
 | v::_,0=>v
 | _::l,n+1=>tnth l n
theorem zN:∀(l:List TV) (n:Nat),tnth l n=l[n]?.getD (.tuple [])
 | [],n=>by simp[tnth]
 | v::l,0=>by simp[tnth]
 | v::l,n+1=>by simp[tnth,zN l n]
def gtab(g:Nat):TV:=match ghCells[g]? with
 | some (_,cs)=>if cs.all rT=true then .fptr false (cs.map .v) 0 else .Z
 | none=>.Z
def tev(tm:List TV):Operand→TV
 | .tmp t=>tnth tm t
 | .const v=>if pD 3 v=true then inj 3 v else .Z
 | .global g=>gtab g
 | .func f=>.func f [] []
theorem dU{Fz:Nat→Prop}{h:List Blk}{L:Nat→LI}{tm:List TV}{vm:List Value}(hz:FZ Fz h)(hs:VLs Fz h L tm vm)(x:Operand):VL Fz h L (tev tm x) (ev vm x):=by
 cases x with
 | tmp t =>
  simp only[tev,ev]
  rw[zN,rQ]
  cases hp:tm[t]? with
  | none =>
   have:vm[t]?=none:=by
    rw[List.getElem?_eq_none_iff] at hp ⊢
    rw[hs.len];exact hp
   rw[this]
   exact .tuple L [] [] rfl (fun i p x h=>by simp at h)
  | some p =>
   obtain⟨x,hx,hv⟩:=hs.at hp
   rw[hx];exact hv
 | const v =>
  simp only[tev,ev]
  split
  ·rename_i hi;exact VL.inj 3 hi
  ·exact .Z L _
 | global g =>
  simp only[tev,ev,gtab]
  split
  ·rename_i es cs hg
   split
   ·rename_i hall
    have hlt:g<NG:=by
     have:=(List.getElem?_eq_some_iff.1 hg).1
     simpa [NG,GH] using this
    have hgh:GH[g]?=some (.cells es cs):=by unfold GH;rw[List.getElem?_map,hg];rfl
    obtain⟨h1,h2⟩:=hz.gl g hlt
    refine .fptr L false (cs.map .v) 0 g 0 es cs h1 (h2.trans hgh) (fun h=>by cases h) (by simp) ?_
    intro j p x hp hx
    rw[Nat.zero_add] at hx
    rw[List.getElem?_map,hx] at hp
    obtain rfl:=Option.some.inj hp
    exact .v noL x (List.all_eq_true.1 hall x (List.mem_of_getElem? hx))
   ·exact .Z L _
  ·exact .Z L _
 | func f=>exact .func L f [] [] [] [] rfl (fun i p x h=>by simp at h) rfl (fun i p x h=>by simp at h)
theorem aBS{Fz:Nat→Prop}{h:List Blk}{L:Nat→LI}{tm:List TV}{vm:List Value}(hs:VLs Fz h L tm vm)(t:Tmp):VL Fz h L (tev tm (.tmp t)) (ev vm (.tmp t)):=by
 simp only[tev,ev]
 rw[zN,rQ]
 cases hp:tm[t]? with
 | none =>
  have:vm[t]?=none:=by
   rw[List.getElem?_eq_none_iff] at hp ⊢
   rw[hs.len];exact hp
  rw[this]
  exact .tuple L [] [] rfl (fun i p x h=>by simp at h)
 | some p =>
  obtain⟨x,hx,hv⟩:=hs.at hp
  rw[hx];exact hv
def tput(tm:List TV)(dst:Option Tmp)(v:TV):List TV:=
 match dst with
 | some d=>tm.set d v
 | none=>tm
theorem Db{Fz:Nat→Prop}{h:List Blk}{L:Nat→LI}{tm:List TV}{vm:List Value}(hs:VLs Fz h L tm vm)(dst:Option Tmp){p:TV}{x:Value}(hp:VL Fz h L p x):VLs Fz h L (tput tm dst p) (bX vm dst x):=by
 cases dst with
 | none=>exact hs
 | some d=>exact hs.set d hp
theorem VL.bool_inv{Fz:Nat→Prop}{h:List Blk}{L:Nat→LI}{x y:Value}(hp:VL Fz h L (.v x) y):y=x:=by cases hp;rfl
theorem TX.cond_true{c:Operand}{x y:Code}(ho:lY c=true)(hc:tev s.tm c = .v (.bool true))(hx:TX C P x s Q):TX C P (.cond c x y) s Q:=by
 intro h0 Fz L tm h hs
 have:=dU hs.fz hs.tmr c
 rw[hc] at this
 exact XP.cond_true ho this.bool_inv (hx h0 Fz L tm h hs)
theorem TX.cond_false{c:Operand}{x y:Code}(ho:lY c=true)(hc:tev s.tm c = .v (.bool false))(hx:TX C P y s Q):TX C P (.cond c x y) s Q:=by
 intro h0 Fz L tm h hs
 have:=dU hs.fz hs.tmr c
 rw[hc] at this
 exact XP.cond_false ho this.bool_inv (hx h0 Fz L tm h hs)
inductive Runs {σ ε:Type} (step:σ→Option (σ ⊕ ε)):σ→ε→Prop
 | stop {s:σ} {e:ε} (h:step s=some (.inr e)):Runs step s e
 | next {s s':σ} {e:ε} (h:step s=some (.inl s')) (hr:Runs step s' e):Runs step s e
theorem Runs.det{σ ε:Type}{step:σ→Option (σ ⊕ ε)}{s:σ}{e e':ε}(h:Runs step s e)(h':Runs step s e'):e=e':=by
 induction h with
 | stop h=>cases h' with
  | stop g=>rw[h] at g;injection g with g;injection g
  | next g _=>rw[h] at g;injection g with g;cases g
 | next h _ ih=>cases h' with
  | stop g=>rw[h] at g;injection g with g;cases g
  | next g gr=>rw[h] at g;injection g with g;injection g with g;subst g;exact ih gr
open Classical in
noncomputable def run{σ ε:Type}(step:σ→Option (σ ⊕ ε))(s:σ):Option ε:=if h:∃ e,Runs step s e then some (Classical.choose h) else none
theorem run_iff{σ ε:Type}{step:σ→Option (σ ⊕ ε)}{s:σ}{e:ε}:run step s=some e↔Runs step s e:=by
 unfold run
 constructor
 ·intro h
  split at h
  ·rename_i hx
   obtain rfl:=Option.some.inj h
   exact Classical.choose_spec hx
  ·cases h
 ·intro h
  have hx:∃ e,Runs step s e:=⟨e,h⟩
  rw[dif_pos hx]
  exact congrArg some (Runs.det (Classical.choose_spec hx) h)
theorem mB{σ ε:Type}{step:σ→Option (σ ⊕ ε)}{s:σ}{e:ε}(h:step s=some (.inr e)):run step s=some e:=run_iff.2 (.stop h)
theorem vP{σ ε:Type}{step:σ→Option (σ ⊕ ε)}{s s':σ}(h:step s=some (.inl s')):run step s=run step s':=by
 cases hr:run step s' with
 | none =>
  cases hs:run step s with
  | none=>rfl
  | some e =>
   have:=run_iff.1 hs
   cases this with
   | stop g=>rw[h] at g;injection g with g;cases g
   | next g gr=>rw[h] at g;injection g with g;injection g with g;subst g;rw[run_iff.2 gr] at hr;cases hr
 | some e=>exact run_iff.2 (.next h (run_iff.1 hr))
theorem TX.loop{σ ε:Type}{b:Code}{step:σ→Option (σ ⊕ ε)}{x:σ}{e:ε}(hr:run step x=some e)(I:σ→TS)(J:ε→Exit→TS→Prop)
 (hI:∀ x x',step x=some (.inl x')→TX C P b (I x) (fun ex st=>ex = .normal∧Wk st (I x'))) (hJ:∀ x e,step x=some (.inr e)→TX C P b (I x) (fun ex st=>ex ≠ .normal∧J e ex st)):TX C P (.loop b) (I x) (J e):=by
 have hr':=run_iff.1 hr
 clear hr
 induction hr' with
 | @stop x e h =>
  intro h0 Fz L tm hh hs
  obtain⟨K,ex,a',h',wr,h1,h2,hd,s',F',L',⟨hne,q⟩,g,hs'⟩:=hJ _ _ h h0 Fz L tm hh hs
  cases ex with
  | normal=>exact absurd rfl hne
  | _=>exact⟨K+1,_,a',h',wr,by simp only[exec,h1],h2,hd,s',F',L',q,g,hs'⟩
 | @next x x1 e h hr ih =>
  intro h0 Fz L tm hh hs
  obtain⟨K,ex,⟨tm',df'⟩,h',wr,h1,h2,hd,s',F',L',⟨rfl,hw⟩,g,hs'⟩:=hI _ _ h h0 Fz L tm hh hs
  obtain rfl:df'=[]:=hd
  obtain⟨F2,L2,g2,hs2⟩:=hw h0 F' L' tm' h' hs'
  obtain⟨K2,ex,a2,h2',wr2,k1,k2,kd,s3,F3,L3,q,g3,hs3⟩:=ih h0 F2 L2 tm' h' hs2
  refine⟨max K K2+1,ex,a2,h2',wmin wr wr2,?_,jD h2 k2,kd,s3,F3,L3,q,(g.trans g2).trans g3,hs3⟩
  simp only[exec]
  rw[jU (Nat.le_max_left K K2) h1]
  simp only
  rw[jU (Nat.le_max_right K K2) k1]
  rfl
end
end Go.Rex
namespace Go.Rex
open Go.RowKit
section
variable {h0 h h':List Blk} {Fz Fz':Nat→Prop} {L L':Nat→LI} {s s':TS} {tm:List Value}
theorem St.put(hs:St h0 Fz L s tm h)(dst:Option Tmp){p:TV}{v:Value}(hp:VL Fz h L p v):St h0 Fz L ⟨tput s.tm dst p,s.hp⟩ (bX tm dst v) h:=
 ⟨Db hs.tmr dst hp,hs.blk,hs.dom,hs.inj,hs.fz,hs.ext⟩
theorem BR.mono{lo n:Nat}{b:TB}(hb:BR lo Fz h L n b)(hF:∀ n,Fz n→Fz' n)(hh:∀ n,Fz n→h'[n]?=h[n]?)(hn:∀ nm b,¬ Fz nm→h[nm]?=some b→(L n).nm=some nm→h'[nm]?=some b∧¬ Fz' nm):BR lo Fz' h' L n b:=by
 cases b with
 | dead=>trivial
 | rows es rows =>
  obtain⟨h1,h2,h3,h4,h5⟩:=hb
  refine⟨h1,h2,h3,h4,?_⟩
  rcases h5 with h5|⟨nm,cs,e1,e2,e3,e4,e5⟩
  ·exact .inl h5
  ·obtain⟨q1,q2⟩:=hn nm _ e3 e4 e1
   exact .inr ⟨nm,cs,e1,e2,q2,q1,e5.mono hF hh⟩
 | var row =>
  obtain⟨h1,nm,cs,e1,e2,e3,e4,e5⟩:=hb
  obtain⟨q1,q2⟩:=hn nm _ e3 e4 e1
  exact⟨h1,nm,cs,e1,e2,q2,q1,e5.mono hF hh⟩
theorem BR.own{lo n n':Nat}{b:TB}(hb:BR lo Fz h L n b)(hL:∀ n,(L n).ok=true→L' n=L n)(hn:L' n'=L n):BR lo Fz h L' n' b:=by
 cases b with
 | dead=>trivial
 | rows es rows =>
  obtain⟨h1,h2,h3,h4,h5⟩:=hb
  unfold BR
  rw[hn]
  exact⟨h1,h2,h3,h4,h5⟩
 | var row =>
  obtain⟨h1,nm,cs,e1,e2,e3,e4,e5⟩:=hb
  unfold BR
  rw[hn]
  exact⟨h1,nm,cs,e1,e2,e3,e4,e5.own hL⟩
theorem St.heap(hs:St h0 Fz L s tm h)(hx:Ext h h')(hF:∀ n,Fz n→Fz' n)(hF2:∀ n,Fz' n→Fz n∨(h.length≤n∧n<h'.length)):St h0 Fz' L s tm h':=by
 have hh:∀ n,Fz n→h'[n]?=h[n]?:=fun n hn=>by
  have:=hs.fz n hn
  rw[List.getElem?_eq_getElem this]
  exact hx.at (List.getElem?_eq_getElem this)
 refine⟨hs.tmr.mono hF hh,fun n b hb=>(hs.blk n b hb).mono hF hh (fun nm b hn hb _=>⟨hx.at hb,fun hf=>?_⟩),hs.dom,hs.inj,hs.fz.to hF hh fun n hn=>?_,hs.ext.trans hx⟩
 ·rcases hF2 nm hf with h1|h1
  ·exact hn h1
  ·have:=(List.getElem?_eq_some_iff.1 hb).1;omega
 ·have:=hx.le
  rcases hF2 n hn with h1|h1
  ·have:=hs.fz n h1;omega
  ·exact h1.2
def shift(k:Nat):Nat→TV→TV
 | 0,_=>.Z
 | d+1,p=>match p with
  | .lptr m r o=>.lptr (k+m) r o
  | .lsl m o l=>.lsl (k+m) o l
  | .agg l=>.agg (l.map (shift k d))
  | .tuple l=>.tuple (l.map (shift k d))
  | p=>p
theorem VL.shift{k:Nat}(hL:∀ n,(L n).ok=true→L' (k+n)=L n):∀(d:Nat) {p:TV} {x:Value},VL Fz h L p x→VL Fz h L' (shift k d p) x
 | 0,p,x,hp=>by rw[Rex.shift];exact .Z L' x
 | d+1,p,x,hp=>by
  have key:∀(l:List TV) (l':List Value),(∀(i:Nat) p x,l[i]?=some p→l'[i]?=some x→VL Fz h L p x)→∀(i:Nat) p x,(l.map (Rex.shift k d))[i]?=some p→l'[i]?=some x→VL Fz h L' p x:=by
   intro l l' ha i p x hp hx
   rw[List.getElem?_map] at hp
   cases hq:l[i]? with
   | none=>rw[hq] at hp;cases hp
   | some q=>rw[hq] at hp;obtain rfl:=Option.some.inj hp;exact VL.shift hL d (ha i q x hq hx)
  cases hp with
  | Z _ x=>exact .Z L' x
  | v _ x hx=>exact .v L' x hx
  | agg _ l l' hl ha=>exact .agg L' _ l' (by simp[hl]) (key l l' ha)
  | tuple _ l l' hl ha=>exact .tuple L' _ l' (by simp[hl]) (key l l' ha)
  | func _ f a b a' b' la ha lb hb=>exact .func L' f a b a' b' la ha lb hb
  | nillist _ es=>exact .nillist L' es
  | vague _ es=>exact .vague L' es
  | list _ es rows n o c cs eb hn hb he hw hc hle ha=>exact .list L' es rows n o c cs eb hn hb he hw hc hle ha
  | fptr _ vb row off n base es cs hn hb hv hle ha=>exact .fptr L' vb row off n base es cs hn hb hv hle ha
  | lptr _ m r o nm ok hn =>
   have e:=hL m ok
   simp only[Rex.shift]
   rw[← e] at ok hn ⊢
   exact .lptr L' (k+m) r o nm ok hn
  | lslnil _ m ok hn =>
   have e:=hL m ok
   simp only[Rex.shift]
   rw[← e] at ok hn
   exact .lslnil L' (k+m) ok hn
  | lsl _ m o len nm ok hn hle =>
   have e:=hL m ok
   simp only[Rex.shift]
   rw[← e] at ok hn hle ⊢
   exact .lsl L' (k+m) o len nm ok hn hle
def Ce:TB→Bool
 | .var row=>row.all (lf 4)
 | _=>true
theorem St.adopt(hs:St h0 Fz L s tm h)(dst:Option Tmp){p:TV}{v:Value}{th:List TB}{L2:Nat→LI}(hr:St h Fz' L2 ⟨[p],th⟩ [v] h')(hth:th.all Ce=true)(g:Grow h Fz Fz' h h') :
 ∃ L3,St h0 Fz' L3 ⟨tput s.tm dst (shift s.hp.length 4 p),s.hp++th⟩ (bX tm dst v) h':=by
 have hle:=hr.ext.le
 have hh1:St h0 Fz' L s tm h':=hs.heap hr.ext g.1 (fun n hn=>by
  rcases g.2 n hn with h1|h1
  ·exact .inl h1
  ·exact .inr ⟨h1,hr.fz n hn⟩)
 refine⟨fun n=>if n<s.hp.length then L n else L2 (n-s.hp.length),?_⟩
 have hold:∀ n,(L n).ok=true→(fun n=>if n<s.hp.length then L n else L2 (n-s.hp.length)) n=L n:=fun n hn=>by
  have:=hs.dom n hn
  simp only[if_pos this]
 have hnew:∀ n,(L2 n).ok=true→(fun n=>if n<s.hp.length then L n else L2 (n-s.hp.length)) (s.hp.length+n)=L2 n:=fun n _=>by
  simp;omega
 have hlow:∀ n b nm,s.hp[n]?=some b→b.live=true→(L n).nm=some nm→nm<h.length:=by
  intro n b nm hb hlv hn
  have:=hs.blk n b hb
  cases b with
  | dead=>cases hlv
  | rows es rows =>
   obtain⟨-,-,-,-,h5⟩:=this
   rcases h5 with h5|⟨nm',cs,e1,e2,e3,e4,e5⟩
   ·rw[h5.1] at hn;cases hn
   ·rw[e1] at hn;obtain rfl:=Option.some.inj hn
    exact (List.getElem?_eq_some_iff.1 e4).1
  | var row =>
   obtain⟨-,nm',cs,e1,e2,e3,e4,e5⟩:=this
   rw[e1] at hn;obtain rfl:=Option.some.inj hn
   exact (List.getElem?_eq_some_iff.1 e4).1
 have hhigh:∀ n b nm,th[n]?=some b→b.live=true→(L2 n).nm=some nm→h.length≤nm:=by
  intro n b nm hb hlv hn
  have:=hr.blk n b hb
  cases b with
  | dead=>cases hlv
  | rows es rows =>
   obtain⟨-,-,-,-,h5⟩:=this
   rcases h5 with h5|⟨nm',cs,e1,e2,e3,e4,e5⟩
   ·rw[h5.1] at hn;cases hn
   ·rw[e1] at hn;obtain rfl:=Option.some.inj hn
    exact e2
  | var row =>
   obtain⟨-,nm',cs,e1,e2,e3,e4,e5⟩:=this
   rw[e1] at hn;obtain rfl:=Option.some.inj hn
   exact e2
 have hp:VL Fz' h' L2 p v:=hr.tmr.at' 0 p v rfl rfl
 refine⟨Db (hh1.tmr.own hold) dst (hp.shift hnew 4),?_,?_,?_,hr.fz,hh1.ext⟩
 ·intro n b hb
  rcases Nat.lt_or_ge n s.hp.length with hlt|hge
  ·rw[List.getElem?_append_left hlt] at hb
   exact (hh1.blk n b hb).own hold (by simp only[if_pos hlt])
  ·rw[List.getElem?_append_right hge] at hb
   have hb':=hr.blk _ b hb
   have e:(fun n=>if n<s.hp.length then L n else L2 (n-s.hp.length)) n=L2 (n-s.hp.length):=by
    simp only[if_neg (show ¬ n<s.hp.length by omega)]
   cases b with
   | dead=>trivial
   | rows es rows =>
    obtain⟨h1,h2,h3,h4,h5⟩:=hb'
    unfold BR
    rw[e]
    refine⟨h1,h2,h3,h4,?_⟩
    rcases h5 with h5|⟨nm,cs,e1,e2,e3,e4,e5⟩
    ·exact .inl h5
    ·exact .inr ⟨nm,cs,e1,Nat.le_trans hs.ext.le e2,e3,e4,e5⟩
   | var row =>
    obtain⟨h1,nm,cs,e1,e2,e3,e4,e5⟩:=hb'
    have hlf:row.all (lf 4)=true:=by
     have:=List.all_eq_true.1 hth _ (List.mem_of_getElem? hb)
     simpa [Ce] using this
    unfold BR
    rw[e]
    refine⟨h1,nm,cs,e1,Nat.le_trans hs.ext.le e2,e3,e4,e5.len,fun i p x hp hx=>?_⟩
    exact VL.toNo 4 (by simpa using List.all_eq_true.1 hlf p (List.mem_of_getElem? hp)) (e5.at' i p x hp hx)
 ·intro n hn
  rw[List.length_append]
  rcases Nat.lt_or_ge n s.hp.length with hlt|hge
  ·omega
  ·simp only[if_neg (show ¬ n<s.hp.length by omega)] at hn
   have:=hr.dom _ hn
   simp only at this
   omega
 ·intro n n' b b' nm hb hb' l1 l2 e1 e2
  rcases Nat.lt_or_ge n s.hp.length with hlt|hge<;>rcases Nat.lt_or_ge n' s.hp.length with hlt'|hge'
  ·rw[List.getElem?_append_left hlt] at hb
   rw[List.getElem?_append_left hlt'] at hb'
   simp only[if_pos hlt] at e1
   simp only[if_pos hlt'] at e2
   exact hs.inj n n' b b' nm hb hb' l1 l2 e1 e2
  ·rw[List.getElem?_append_left hlt] at hb
   rw[List.getElem?_append_right hge'] at hb'
   simp only[if_pos hlt] at e1
   simp only[if_neg (show ¬ n'<s.hp.length by omega)] at e2
   have:=hlow n b nm hb l1 e1
   have:=hhigh _ b' nm hb' l2 e2
   omega
  ·rw[List.getElem?_append_right hge] at hb
   rw[List.getElem?_append_left hlt'] at hb'
   simp only[if_neg (show ¬ n<s.hp.length by omega)] at e1
   simp only[if_pos hlt'] at e2
   have:=hlow n' b' nm hb' l2 e2
   have:=hhigh _ b nm hb l1 e1
   omega
  ·rw[List.getElem?_append_right hge] at hb
   rw[List.getElem?_append_right hge'] at hb'
   simp only[if_neg (show ¬ n<s.hp.length by omega)] at e1
   simp only[if_neg (show ¬ n'<s.hp.length by omega)] at e2
   have:=hr.inj _ _ b b' nm hb hb' l1 l2 e1 e2
   omega
theorem St.write(hs:St h0 Fz L s tm h){n nm es:Nat}{b b':TB}{cs cs':List Value}(hb:s.hp[n]?=some b)(hlv:b.live=true)(hn:(L n).nm=some nm)(hc:h[nm]?=some (.cells es cs))(hlo:h0.length≤nm)(hnf:¬ Fz nm)
 (hb':BR h0.length Fz (h.set nm (.cells es cs')) L n b'):St h0 Fz L ⟨s.tm,s.hp.set n b'⟩ tm (h.set nm (.cells es cs')):=by
 have hlt:=(List.getElem?_eq_some_iff.1 hc).1
 have hh:∀ k,Fz k→(h.set nm (.cells es cs'))[k]?=h[k]?:=fun k hk=>by
  rw[List.getElem?_set_ne];rintro rfl;exact hnf hk
 refine⟨hs.tmr.mono (fun _ h=>h) hh,?_,fun k hk=>by simpa using hs.dom k hk,?_,hs.fz.to (fun _ h=>h) hh fun k hk=>by simpa using hs.fz k hk,?_⟩
 ·intro k bk hk
  rw[List.getElem?_set] at hk
  split at hk
  ·rename_i e
   subst e
   split at hk
   ·obtain rfl:=Option.some.inj hk;exact hb'
   ·cases hk
  ·rename_i e
   by_cases hlk:bk.live=true
   ·refine (hs.blk k bk hk).mono (fun _ h=>h) hh (fun nm' b hf hb hn'=>⟨?_,hf⟩)
    rw[List.getElem?_set_ne]
    ·exact hb
    ·rintro rfl
     exact e (hs.inj n k _ bk nm (by assumption) hk hlv hlk hn hn')
   ·cases bk with
    | dead=>trivial
    | _=>exact absurd rfl hlk
 ·intro k k' c c' nm' h1 h2 l1 l2 e1 e2
  have f:∀(k:Nat) (c:TB),(s.hp.set n b')[k]?=some c→c.live=true→∃ c0:TB,s.hp[k]?=some c0∧c0.live=true:=by
   intro k c hk hl
   rw[List.getElem?_set] at hk
   split at hk
   ·rename_i e;subst e;exact⟨b,hb,hlv⟩
   ·exact⟨c,hk,hl⟩
  obtain⟨c1,g1,g2⟩:=f k c h1 l1
  obtain⟨c2,g3,g4⟩:=f k' c' h2 l2
  exact hs.inj k k' c1 c2 nm' g1 g3 g2 g4 e1 e2
 ·obtain⟨t,rfl⟩:=hs.ext
  exact⟨t.set (nm-h0.length) (.cells es cs'),by rw[List.set_append_right _ _ hlo]⟩
end
end Go.Rex
namespace Go.Rex
open Go.RowKit
section
variable {C:Ctx} {P:Program}
def Spec(C:Ctx)(f:FuncId)(args:List TV)(r:TS):Prop:=
 ∀ Fz h vs,FZ Fz h→VLs Fz h noL args vs→∃ v h' Fz' L',C.call f vs h=some (v,h',none)∧Grow h Fz Fz' h h'∧St h Fz' L' r [v] h'
def OpP(P:Program)(o:Oper)(s s':TS):Prop:=
 s'.hp=s.hp∧∀ h0 Fz L tm h,St h0 Fz L s tm h→∃ v,Rex.pop P (ev tm) o=some v∧St h0 Fz L s' (bX tm o.dst v) h
def OpG(C:Ctx)(P:Program)(o:Oper)(s s':TS):Prop:=
 ∀ h0 Fz L tm h,St h0 Fz L s tm h→Rex.pop P (ev tm) o=none∧∃ v h1,xop C P (ev tm) o h=some (v,h1,none)∧Ext h h1∧∃ Fz' L',Grow h0 Fz Fz' h h1∧St h0 Fz' L' s' (bX tm o.dst v) h1
def OpW(C:Ctx)(P:Program)(o:Oper)(s s':TS):Prop:=
 ∀ h0 Fz L tm h,St h0 Fz L s tm h→(∃ v,Rex.pop P (ev tm) o=some v∧∃ Fz' L',Grow h0 Fz Fz' h h∧St h0 Fz' L' s' (bX tm o.dst v) h)∨Rex.pop P (ev tm) o=none∧∃ v h1 w1,xop C P (ev tm) o h=some (v,h1,w1)∧((w1=none∧Ext h h1)∨∃ nm,w1=some nm∧h0.length≤nm∧nm<h.length∧h.length≤h1.length) ∧
  ∃ Fz' L',Grow h0 Fz Fz' h h1∧St h0 Fz' L' s' (bX tm o.dst v) h1
def OpM(C:Ctx)(P:Program)(o:Oper)(s s':TS):Prop:=
 ∀ h0 Fz L tm h,St h0 Fz L s tm h→(∃ v,Rex.pop P (ev tm) o=some v∧∃ Fz' L',Grow h0 Fz Fz' h h∧St h0 Fz' L' s' (bX tm o.dst v) h)∨Rex.pop P (ev tm) o=none∧∃ v h1,xop C P (ev tm) o h=some (v,h1,none)∧Ext h h1∧∃ Fz' L',Grow h0 Fz Fz' h h1∧St h0 Fz' L' s' (bX tm o.dst v) h1
theorem OpG.toW{o:Oper}{s s':TS}(h:OpG C P o s s'):OpW C P o s s':=by
 intro h0 Fz L tm hh hs
 obtain⟨h1,v,h2,h3,h4,h5⟩:=h h0 Fz L tm hh hs
 exact .inr ⟨h1,v,h2,none,h3,.inl ⟨rfl,h4⟩,h5⟩
def twant(ops:Array Oper)(tm:List TV)(o:Oper):Option Bool:=
 match o.guard with
 | none=>some true
 | some (j,want)=>match (ops[j]?).bind (·.dst) with
  | none=>none
  | some d=>match tnth tm d with
   | .v (.bool b)=>some (b==want)
   | .tuple _=>some false
   | _=>none
theorem gU{ops:Array Oper}{Fz:Nat→Prop}{h:List Blk}{L:Nat→LI}{tm:List TV}{vm:List Value}{o:Oper}{b:Bool}(hs:VLs Fz h L tm vm)(hw:twant ops tm o=some b):Region.wanted o (yielded ops ⟨vm⟩)=b:=by
 unfold twant at hw
 unfold Region.wanted
 split at hw
 ·rename_i hg
  rw[hg]
  exact Option.some.inj hw
 ·rename_i j want hg
  rw[hg]
  simp only
  split at hw
  ·cases hw
  ·rename_i d hd
   have hv:=aBS hs d
   simp only[tev,ev] at hv
   rw[zN,rQ] at hv
   rw[zN] at hw
   have e:yielded ops ⟨vm⟩ j=match vm[d]? with|some (.bool b)=>some b|_=>none:=by
    unfold yielded
    rw[hd]
    simp only[Option.bind_some,List.getElem?_toArray]
    rfl
   rw[e]
   cases hx:vm[d]? with
   | none =>
    rw[hx] at hv
    have:tm[d]?=none:=by
     rw[List.getElem?_eq_none_iff] at hx ⊢
     rw[← hs.len];exact hx
    rw[this] at hw
    simp at hw
    subst hw
    rfl
   | some x =>
    rw[hx] at hv
    simp only[Option.getD_some] at hv
    split at hw
    ·rename_i b' hb
     rw[hb] at hv
     obtain rfl:=hv.bool_inv
     obtain rfl:=Option.some.inj hw
     cases b'<;>cases want<;>rfl
    ·rename_i l hb
     rw[hb] at hv
     obtain rfl:=Option.some.inj hw
     cases hv
     rfl
    ·cases hw
def TO(C:Ctx)(P:Program)(ops:Array Oper)(l:List Oper)(s:TS)(Q:TS→Prop):Prop:=
 ∀ h0 Fz L tm h,St h0 Fz L s tm h→RO C P h0.length ops l tm h (fun tm' h'=>∃ s' Fz' L',Q s'∧Grow h0 Fz Fz' h h'∧St h0 Fz' L' s' tm' h')
variable {ops:Array Oper} {o:Oper} {rest:List Oper} {s s':TS} {Q:TS→Prop}
theorem TO.nil(hq:Q s):TO C P ops [] s Q:=fun _ Fz L _ _ hs=>RO.nil ⟨s,Fz,L,hq,Grow.refl _ _,hs⟩
theorem TO.p(hw:twant ops s.tm o=some true)(ho:OpP P o s s')(hq:TO C P ops rest s' Q):TO C P ops (o::rest) s Q:=by
 intro h0 Fz L tm h hs
 obtain⟨v,h1,s1⟩:=ho.2 h0 Fz L tm h hs
 obtain⟨tm',h',wr,q1,q2,s2,F2,L2,q3,g2,s3⟩:=hq h0 Fz L _ h s1
 exact RO.pop (gU hs.tmr hw) h1 rfl ⟨tm',h',wr,q1,q2,s2,F2,L2,q3,g2,s3⟩
theorem TO.w(hw:twant ops s.tm o=some true)(ho:OpW C P o s s')(hq:TO C P ops rest s' Q):TO C P ops (o::rest) s Q:=by
 intro h0 Fz L tm h hs
 rcases ho h0 Fz L tm h hs with⟨v,h1,F1,L1,g1,s1⟩|⟨hn,v,h1,w1,hx,hw1,F1,L1,g1,s1⟩
 ·obtain⟨tm',h',wr,q1,q2,s2,F2,L2,q3,g2,s3⟩:=hq h0 F1 L1 _ h s1
  exact RO.pop (gU hs.tmr hw) h1 rfl ⟨tm',h',wr,q1,q2,s2,F2,L2,q3,g1.trans g2,s3⟩
 obtain⟨tm',h',wr,q1,q2,s2,F2,L2,q3,g2,s3⟩:=hq h0 F1 L1 _ h1 s1
 refine RO.act (gU hs.tmr hw) hn hx ?_ rfl ⟨tm',h',wr,q1,q2,s2,F2,L2,q3,g1.trans g2,s3⟩
 rcases hw1 with⟨rfl,_⟩|⟨nm,rfl,hl,_⟩
 ·rfl
 ·simpa [wge] using hl
theorem TO.g(hw:twant ops s.tm o=some true)(ho:OpG C P o s s')(hq:TO C P ops rest s' Q):TO C P ops (o::rest) s Q:=TO.w hw ho.toW hq
theorem TO.skip(hw:twant ops s.tm o=some false)(hq:TO C P ops rest ⟨tput s.tm o.dst (.tuple []),s.hp⟩ Q):TO C P ops (o::rest) s Q:=by
 intro h0 Fz L tm h hs
 exact RO.skip (gU hs.tmr hw) rfl (hq h0 Fz L _ h (hs.put o.dst (.tuple L [] [] rfl (fun i p x h=>by simp at h))))
theorem TO.weak{l:List Oper}(hw:Wk s s')(hx:TO C P ops l s' Q):TO C P ops l s Q:=by
 intro h0 Fz L tm h hs
 obtain⟨F1,L1,g1,s1⟩:=hw h0 Fz L tm h hs
 obtain⟨tm',h',wr,q1,q2,s2,F2,L2,q3,g2,s3⟩:=hx h0 F1 L1 tm h s1
 exact⟨tm',h',wr,q1,q2,s2,F2,L2,q3,g1.trans g2,s3⟩
theorem TX.region{id:Nat}{l:List Oper}{Q:Exit→TS→Prop}(hl:ops.toList=l)(hreg:Nu l=true)(hr:TO C P ops l s (fun s'=>Q .normal s')):TX C P (.region id ops false) s Q:=by
 intro h0 Fz L tm h hs
 refine XP.region hl hreg ?_
 obtain⟨tm',h',wr,q1,q2,s2,F2,L2,q3,g2,s3⟩:=hr h0 Fz L tm h hs
 exact⟨tm',h',wr,q1,q2,rfl,s2,F2,L2,q3,g2,s3⟩
def TA(C:Ctx)(P:Program)(ops:Array Oper)(ms:List Nat)(l:List Oper)(i:Nat)(np:List Nat)(c:Nat)(s:TS)(Q:TS→Prop):Prop:=
 ∀ h0 Fz L tm h np' c' wr,St h0 Fz L s tm h→wge wr h0.length=true→(c=0→c'=false)∧(∀ j,j∈np'→j∈np)→RD C P h0.length ops ms l i ⟨tm,h,np',c',wr⟩ (fun tm' h'=>∃ s' Fz' L',Q s'∧Grow h0 Fz Fz' h h'∧St h0 Fz' L' s' tm' h')
variable {ms:List Nat} {i:Nat} {np:List Nat} {c:Nat}
theorem TA.nil(hq:Q s):TA C P ops ms [] i np c s Q:=fun _ Fz L _ _ _ _ _ hs hw _=>RD.nil hw ⟨s,Fz,L,hq,Grow.refl _ _,hs⟩
theorem TA.p(hw:twant ops s.tm o=some true)(ho:OpP P o s s')(hq:TA C P ops ms rest (i+1) np c s' Q):TA C P ops ms (o::rest) i np c s Q:=by
 intro h0 Fz L tm h np' c' wr hs hwr hc
 obtain⟨v,h1,s1⟩:=ho.2 h0 Fz L tm h hs
 obtain⟨s2,q1,q2,t2,F2,L2,q3,g2,s3⟩:=hq h0 Fz L _ h np' c' wr s1 hwr hc
 exact RD.pop (gU hs.tmr hw) h1 rfl ⟨s2,q1,q2,t2,F2,L2,q3,g2,s3⟩
theorem TA.skip(hw:twant ops s.tm o=some false)(hq:TA C P ops ms rest (i+1) np c ⟨tput s.tm o.dst (.tuple []),s.hp⟩ Q):TA C P ops ms (o::rest) i np c s Q:=by
 intro h0 Fz L tm h np' c' wr hs hwr hc
 exact RD.skip (gU hs.tmr hw) rfl (hq h0 Fz L _ h np' c' wr (hs.put o.dst (.tuple L [] [] rfl (fun i p x h=>by simp at h))) hwr hc)
theorem TA.g(hw:twant ops s.tm o=some true)(ho:OpG C P o s s')(hq:TA C P ops ms rest (i+1) (i::np) 0 s' Q):TA C P ops ms (o::rest) i np 0 s Q:=by
 intro h0 Fz L tm h np' c' wr hs hwr hc
 obtain rfl:c'=false:=hc.1 rfl
 obtain⟨hn,v,h1,hx,he,F1,L1,g1,s1⟩:=ho h0 Fz L tm h hs
 obtain⟨s2,q1,q2,t2,F2,L2,q3,g2,s3⟩:=hq h0 F1 L1 _ h1 (i::np') false wr s1 hwr ⟨fun _=>rfl,fun j hj=>by
  rcases List.mem_cons.1 hj with rfl|hj
  ·simp
  ·exact List.mem_cons_of_mem _ (hc.2 j hj)⟩
 exact RD.act (gU hs.tmr hw) hn hx he rfl ⟨s2,q1,q2,t2,F2,L2,q3,g1.trans g2,s3⟩
theorem TA.w(hw:twant ops s.tm o=some true)(ho:OpW C P o s s')(hnp:np.all (fun j=>(aP ms i).testBit j)=true)(hq:TA C P ops ms rest (i+1) (i::np) 1 s' Q):TA C P ops ms (o::rest) i np c s Q:=by
 intro h0 Fz L tm h np' c' wr hs hwr hc
 have hwant:=gU hs.tmr hw
 have hsub:∀ j,j∈i::np'→j∈i::np:=fun j hj=>by
  rcases List.mem_cons.1 hj with rfl|hj
  ·simp
  ·exact List.mem_cons_of_mem _ (hc.2 j hj)
 have hnp:np'.all (fun j=>(aP ms i).testBit j)=true:=by
  rw[List.all_eq_true] at hnp ⊢
  exact fun j hj=>hnp j (hc.2 j hj)
 rcases ho h0 Fz L tm h hs with⟨v,h1,F1,L1,g1,s1⟩|⟨hn,v,h1,w1,hx,hw1,F1,L1,g1,s1⟩
 ·obtain⟨s2,q1,q2,t2,F2,L2,q3,g2,s3⟩:=hq h0 F1 L1 _ h np' c' wr s1 hwr ⟨fun h=>absurd h (by decide),fun j hj=>List.mem_cons_of_mem _ (hc.2 j hj)⟩
  exact RD.pop hwant h1 rfl ⟨s2,q1,q2,t2,F2,L2,q3,g1.trans g2,s3⟩
 have second:∀ wr',(w1=none∨∃ nm,w1=some nm∧h0.length≤nm)→wr'=wmin wr w1→wge wr' h0.length=true:=by
  rintro wr' (rfl|⟨nm,rfl,hl⟩) rfl
  ·rw[Sh];exact hwr
  ·exact jD hwr (by simpa [wge] using hl)
 rcases hw1 with⟨rfl,he⟩|⟨nm,rfl,hl,hlt,hle⟩
 ·cases c' with
  | false =>
   obtain⟨s2,q1,q2,t2,F2,L2,q3,g2,s3⟩:=hq h0 F1 L1 _ h1 (i::np') false wr s1 hwr ⟨fun h=>absurd h (by decide),hsub⟩
   exact RD.act hwant hn hx he rfl ⟨s2,q1,q2,t2,F2,L2,q3,g1.trans g2,s3⟩
  | true =>
   obtain⟨s2,q1,q2,t2,F2,L2,q3,g2,s3⟩:=hq h0 F1 L1 _ h1 (i::np') true (wmin wr none) s1 (second _ (.inl rfl) rfl) ⟨fun h=>absurd h (by decide),hsub⟩
   refine⟨s2,?_,q2,t2,F2,L2,q3,g1.trans g2,s3⟩
   have hle:=he.le
   simp only[dS,fU,if_pos hwant,hn,hx,oY]
   rw[if_neg (by simp),if_pos ⟨hnp,hle⟩]
   exact q1
 ·obtain⟨s2,q1,q2,t2,F2,L2,q3,g2,s3⟩:=hq h0 F1 L1 _ h1 (i::np') true (wmin wr (some nm)) s1 (second _ (.inr ⟨nm,rfl,hl⟩) rfl) ⟨fun h=>absurd h (by decide),hsub⟩
  refine⟨s2,?_,q2,t2,F2,L2,q3,g1.trans g2,s3⟩
  simp only[dS,fU,if_pos hwant,hn,hx,oY]
  rw[if_neg (by simp[wge];omega),if_pos ⟨hnp,hle⟩]
  exact q1
theorem TA.weak{l:List Oper}(hw:Wk s s')(hx:TA C P ops ms l i np c s' Q):TA C P ops ms l i np c s Q:=by
 intro h0 Fz L tm h np' c' wr hs hwr hc
 obtain⟨F1,L1,g1,s1⟩:=hw h0 Fz L tm h hs
 obtain⟨s2,q1,q2,t2,F2,L2,q3,g2,s3⟩:=hx h0 F1 L1 tm h np' c' wr s1 hwr hc
 exact⟨s2,q1,q2,t2,F2,L2,q3,g1.trans g2,s3⟩
variable {dst:Option Tmp} {ty:TypeId} {pos:String} {aft:Array Edge} {gd:Option (Nat×Bool)}
def Ci(ops:Array Oper)(j:Nat):Option Tmp:=match ops[j]? with
 | some o=>match o.op with
  | .load _ (.tmp t)=>some t
  | _=>none
 | none=>none
def Lt(ops:Array Oper)(j:Nat):Bool:=match ops[j]? with
 | some o=>match o.op with
  | .alloc _=>true
  | .box _ _=>true
  | .buildSlice _ _ _=>true
  | .makeSlice _ _ _=>true
  | _=>false
 | none=>false
def Tv(o:Oper):Bool:=match o.op with
 | .mapUpdate _ _ _ _=>false
 | .insert _ _ _ _=>false
 | .call c=>match c.callee with
  | .builtin b=>b != .append
  | _=>true
 | _=>true
def vN(ops:Array Oper):Bool:=(List.range ops.size).all fun i=>(List.range (i+1)).all fun j=>match Ci ops j,(ops[i]?).bind (·.dst) with
 | some t,some d=>t != d
 | _,_=>true
def aCv(ops:Array Oper):Bool:=zE ops&&(!oW ops||vN ops)
theorem Gw(h:vN ops=true){i j:Nat}{t:Tmp}(ho:ops[i]?=some o)(hj:j≤i)(hr:Ci ops j=some t):o.dst≠some t:=by
 intro hd
 have hi:i<ops.size:=(Array.getElem?_eq_some_iff.1 ho).1
 have h1:=List.all_eq_true.1 (List.all_eq_true.1 h i (List.mem_range.2 hi)) j (List.mem_range.2 (by omega))
 rw[hr,ho] at h1
 simp[hd] at h1
theorem Nr{tm:List Value}{d:Option Tmp}{v:Value}{t:Tmp}(h:d≠some t):nth (bX tm d v) t=nth tm t:=by
 cases d with
 | none=>rfl
 | some d=>exact Qk (fun e=>h (by rw[e]))
structure FI(ops:Array Oper)(i:Nat)(np:List Nat)(c:Nat)(tm:List Value)(rs:List Rc)(bar:Option Nat):Prop where
 lt:∀ r∈rs,r.i<i
 mem:∀ r∈rs,r.i∈np
 ma:∀ r∈rs,Lt ops r.i=true→r.k = .mk
 rd:∀ r∈rs,∀ t,Ci ops r.i=some t→∃ n,r.k = .rd n∧aJ (nth tm t)=some n
 wr:c=0→∀ r∈rs,wrT r.k=none
 ba:∀ q,bar=some q→c=1∧q∈np∧Lt ops q=false∧Ci ops q=none
theorem FI.put{rs:List Rc}{bar:Option Nat}{tm:List Value}{v:Value}{np':List Nat}{c c':Nat}(hf:FI ops i np c tm rs bar)(ha:vN ops=true)(ho:ops[i]?=some o)(hn:∀ j∈np,j∈np')(hc:c'=0→c=0)(h1:c=1→c'=1):FI ops (i+1) np' c' (bX tm o.dst v) rs bar where
 lt r hr:=Nat.lt_succ_of_lt (hf.lt r hr)
 mem r hr:=hn _ (hf.mem r hr)
 ma:=hf.ma
 rd r hr t ht:=by
  obtain⟨n,h1,h2⟩:=hf.rd r hr t ht
  exact⟨n,h1,by rw[Nr (Gw ha ho (Nat.le_of_lt (hf.lt r hr)) ht)];exact h2⟩
 wr h:=hf.wr (hc h)
 ba q hq:=by
  obtain⟨e1,h2,h3⟩:=hf.ba q hq
  exact⟨h1 e1,hn q h2,h3⟩
theorem FI.add{rs:List Rc}{bar:Option Nat}{tm:List Value}{v:Value}{l0 l1:Nat}{k:Tk}{c c':Nat}(hf:FI ops i np c tm rs bar)(ha:vN ops=true)(ho:ops[i]?=some o)(hc:c'=0→c=0∧wrT k=none)(hc1:c=1→c'=1)(hk:Lt ops i=true→k = .mk)(hr:∀ t,Ci ops i=some t→∃ n,k = .rd n∧aJ (nth tm t)=some n) :
 FI ops (i+1) (i::np) c' (bX tm o.dst v) (⟨i,l0,l1,k⟩::rs) bar:=by
 have h1:FI ops (i+1) (i::np) c' (bX tm o.dst v) rs bar:=hf.put ha ho (fun j hj=>List.mem_cons_of_mem _ hj) (fun h=>(hc h).1) hc1
 refine⟨fun r hr=>?_,fun r hr=>?_,fun r hr=>?_,fun r hr'=>?_,fun hf' r hr=>?_,h1.ba⟩
 ·rcases List.mem_cons.1 hr with rfl|hr
  ·exact Nat.lt_succ_self _
  ·exact h1.lt r hr
 ·rcases List.mem_cons.1 hr with rfl|hr
  ·simp
  ·exact h1.mem r hr
 ·rcases List.mem_cons.1 hr with rfl|hr
  ·exact hk
  ·exact h1.ma r hr
 ·rcases List.mem_cons.1 hr' with rfl|hr'
  ·intro t ht
   obtain⟨n,e1,e2⟩:=hr t ht
   exact⟨n,e1,by rw[Nr (Gw ha ho (Nat.le_refl _) ht)];exact e2⟩
  ·exact h1.rd r hr'
 ·rcases List.mem_cons.1 hr with rfl|hr
  ·exact (hc hf').2
  ·exact h1.wr hf' r hr
def aCN(Fz:Nat→Prop)(L:Nat→LI)(hp:List TB)(idx n:Nat):Prop:=¬ Fz n∧∀ j b,hp[j]?=some b→b.live=true→j≠idx→(L j).nm≠some n
def OwnF(Fz:Nat→Prop)(L:Nat→LI)(hp:List TB)(c:Nat)(rs:List Rc):Prop:=∀ idx,c=idx+2→∀ r∈rs,∀ n,wrT r.k=some n→aCN Fz L hp idx n
theorem OwnF.lo{Fz:Nat→Prop}{L:Nat→LI}{hp:List TB}{c:Nat}{rs:List Rc}(h:c≤1):OwnF Fz L hp c rs:=fun _ e=>by omega
def TF(C:Ctx)(P:Program)(ops:Array Oper)(ms:List Nat)(l:List Oper)(i:Nat)(np:List Nat)(c:Nat)(s:TS)(Q:TS→Prop):Prop:=
 ∀ h0 Fz L tm h rs b bar wr,ops.toList.drop i=l→vN ops=true→St h0 Fz L s tm h→wge wr h0.length=true→FI ops i np c tm rs bar→OwnF Fz L s.hp c rs →
  ∃ s2:Fr,dT C P ops ms l i ⟨tm,h,rs,b,bar,wr⟩=some s2∧wge s2.wr h0.length=true∧∃ s' Fz' L',Q s'∧Grow h0 Fz Fz' h s2.h∧St h0 Fz' L' s' s2.tm s2.h
theorem wT{l:List Oper}{i:Nat}(h:ops.toList.drop i=o::l):ops[i]?=some o∧ops.toList.drop (i+1)=l:=by
 have h1:(ops.toList.drop i)[0]?=some o:=by rw[h];rfl
 rw[List.getElem?_drop] at h1
 refine⟨by rw[← Array.getElem?_toList];simpa using h1,?_⟩
 rw[← List.drop_drop,h]
 rfl
theorem TF.nil(hq:Q s):TF C P ops ms [] i np c s Q:=fun _ Fz L _ _ _ _ _ _ _ _ hs hw _ _=>⟨_,rfl,hw,s,Fz,L,hq,Grow.refl _ _,hs⟩
theorem TF.p(hw:twant ops s.tm o=some true)(ho:OpP P o s s')(hq:TF C P ops ms rest (i+1) np c s' Q):TF C P ops ms (o::rest) i np c s Q:=by
 intro h0 Fz L tm h rs b bar wr hl ha hs hwr hf how
 obtain⟨hi,hd⟩:=wT hl
 obtain⟨v,h1,s1⟩:=ho.2 h0 Fz L tm h hs
 obtain⟨s2,q1,q2,t2,F2,L2,q3,g2,s3⟩:=hq h0 Fz L _ h rs b bar wr hd ha s1 hwr (hf.put ha hi (fun j hj=>hj) (fun h=>h) (fun h=>h)) (by rw[ho.1];exact how)
 exact⟨s2,by simp only[dT,fV,if_pos (gU hs.tmr hw),h1,q1],q2,t2,F2,L2,q3,g2,s3⟩
theorem TF.skip(hw:twant ops s.tm o=some false)(hq:TF C P ops ms rest (i+1) np c ⟨tput s.tm o.dst (.tuple []),s.hp⟩ Q):TF C P ops ms (o::rest) i np c s Q:=by
 intro h0 Fz L tm h rs b bar wr hl ha hs hwr hf how
 obtain⟨hi,hd⟩:=wT hl
 obtain⟨s2,q1,q2,t2,F2,L2,q3,g2,s3⟩:=hq h0 Fz L _ h rs b bar wr hd ha (hs.put o.dst (.tuple L [] [] rfl (fun i p x h=>by simp at h))) hwr (hf.put ha hi (fun j hj=>hj) (fun h=>h) (fun h=>h)) how
 exact⟨s2,by simp only[dT,fV,gU hs.tmr hw,Bool.false_eq_true,if_false];exact q1,q2,t2,F2,L2,q3,g2,s3⟩
theorem TF.act{h0:List Blk}{Fz Fz1:Nat→Prop}{L L1:Nat→LI}{tm:List Value}{h h1:List Blk}{rs rs':List Rc}{b b':Nat}{bar bar' wr wr' w1:Option Nat}{v:Value}{np':List Nat}{c':Nat}(hw:twant ops s.tm o=some true)(hs:St h0 Fz L s tm h)(hl:ops.toList.drop i=o::rest)(ha:vN ops=true)
 (hp:Rex.pop P (ev tm) o=none) (hx:xop C P (ev tm) o h=some (v,h1,w1)) (hh:mE ms (aP ms i) i (ev tm) o ⟨tm,h,rs,b,bar,wr⟩ (some (v,h1,w1))=some ⟨bX tm o.dst v,h1,rs',b',bar',wr'⟩) (hwr:wge wr' h0.length=true) (hf:FI ops (i+1) np' c' (bX tm o.dst v) rs' bar') (how:OwnF Fz1 L1 s'.hp c' rs') (hq:TF C P ops ms rest (i+1) np' c' s' Q) (g1:Grow h0 Fz Fz1 h h1) (s1:St h0 Fz1 L1 s' (bX tm o.dst v) h1) :
 ∃ s2:Fr,dT C P ops ms (o::rest) i ⟨tm,h,rs,b,bar,wr⟩=some s2∧wge s2.wr h0.length=true∧∃ s' Fz' L',Q s'∧Grow h0 Fz Fz' h s2.h∧St h0 Fz' L' s' s2.tm s2.h:=by
 obtain⟨s2,q1,q2,t2,F2,L2,q3,g2,s3⟩:=hq h0 Fz1 L1 _ h1 rs' b' bar' wr' (wT hl).2 ha s1 hwr hf how
 exact⟨s2,by simp only[dT,fV,if_pos (gU hs.tmr hw),hp,hx,hh,q1],q2,t2,F2,L2,q3,g1.trans g2,s3⟩
theorem tJ{ρ:Operand→Value}(ho:ops[i]?=some o)(h:Lt ops i=true):touch ρ o=some .mk:=by
 unfold Lt at h
 rw[ho] at h
 simp only at h
 split at h<;>rename_i he<;>first|(cases h;done)|simp only[touch,he]
theorem Rd{ρ:Operand→Value}{t:Tmp}(ho:ops[i]?=some o)(h:Ci ops i=some t):touch ρ o=(aJ (ρ (.tmp t))).map .rd:=by
 unfold Ci at h
 rw[ho] at h
 simp only at h
 split at h
 ·rename_i he
  obtain rfl:=Option.some.inj h
  simp only[touch,he]
 ·cases h
theorem wE{tm:List Value}{hh:List Blk}{r:Value×List Blk×Option Nat}{t:Tmp}(ho:ops[i]?=some o)(h:Ci ops i=some t)(hx:xop C P (ev tm) o hh=some r):∃ n,touch (ev tm) o=some (.rd n)∧aJ (nth tm t)=some n:=by
 rw[Rd ho h]
 unfold Ci at h
 rw[ho] at h
 simp only at h
 split at h
 ·rename_i he
  obtain rfl:=Option.some.inj h
  simp only[xop,hop,he] at hx
  have hev:∀ t,ev tm (.tmp t)=nth tm t:=fun _=>rfl
  rw[hev] at hx ⊢
  split at hx
  ·rename_i r' hr
   split at hr
   ·rename_i hz;rw[hz];exact⟨_,rfl,rfl⟩
   ·cases hr
  ·cases hx
 ·cases h
theorem aAR{ρ:Operand→Value}{n n2:Nat}(h:Tv o=true):touch ρ o≠some (.ap n n2):=by
 intro ht
 unfold Tv at h
 unfold touch at ht
 split at h<;>rename_i he<;>try (cases h;done)
 ·rw[he] at ht
  simp only at ht
  split at h
  ·rename_i hb
   rw[hb] at ht
   simp only at ht
   rw[if_neg (by simpa using h)] at ht
   cases ht
  ·rename_i hb
   split at ht
   ·rename_i b hb';exact hb b hb'
   ·cases ht
 ·split at ht<;>rename_i he2<;>first|(cases ht;done)|(cases hpn:aJ _<;>rw[hpn] at ht<;>cases ht;done)|(split at ht<;>cases ht;done)|skip
  all_goals first|(rename_i c;exact absurd he2 (by rename_i h3;exact h3 _))|(simp_all)
theorem Vr{ρ:Operand→Value}{n:Nat}{C:Ctx}{hh:List Blk}{v:Value}{h1:List Blk}(h:Tv o=true)(ht:touch ρ o=some (.wr n)):xop C P ρ o hh≠some (v,h1,none):=by
 intro hx
 obtain⟨dst,op,ty,pos,aft,gd⟩:=o
 cases op<;>simp only[Tv,touch,xop,hop] at h ht hx
 case store t a x =>
  split at hx
  ·rename_i r hr
   split at hr
   ·rename_i hs
    cases hv:lC P t hh _ _ (ρ x) with
    | none=>rw[hv] at hr;cases hr
    | some h' =>
     rw[hv] at hr
     obtain rfl:=Option.some.inj hr
     cases hx
   ·cases hr
  ·cases hx
 case mapUpdate=>cases h
 case insert=>cases h
 case call c =>
  split at ht
  ·split at ht
   ·rename_i b hb hap
    subst hap
    split at h
    ·rename_i b' hb';rw[hb] at hb';cases hb';simp at h
    ·rename_i hb';exact hb' _ hb
   ·cases ht
  ·cases ht
 all_goals first
  | (cases ht;done)
  | (cases hp:aJ _<;>rw[hp] at ht<;>cases ht;done)
  | (split at ht<;>cases ht;done)
def noT(o:Oper)(s:TS):Prop:=Tv o=true∨∀ Fz h L vm,VLs Fz h L s.tm vm→(∀ k,touch (ev vm) o≠some (.wr k))∧∀ k k2,touch (ev vm) o≠some (.ap k k2)
theorem Pw{tm:List Value}{h h1:List Blk}{rs:List Rc}{b:Nat}{wr:Option Nat}{v:Value}{m:Nat}(hn1:∀ k,touch (ev tm) o≠some (.wr k))(hn2:∀ k k2,touch (ev tm) o≠some (.ap k k2))(ha:vN ops=true)(ho:ops[i]?=some o)(hx:xop C P (ev tm) o h=some (v,h1,none))(he:Ext h h1)(hf:FI ops i np 0 tm rs none) :
 ∃ rs',mE ms m i (ev tm) o ⟨tm,h,rs,b,none,wr⟩ (some (v,h1,none))=some ⟨bX tm o.dst v,h1,rs',b,none,wr⟩∧FI ops (i+1) (i::np) 0 (bX tm o.dst v) rs' none:=by
 unfold mE
 simp only[vT,if_true]
 have hadd:∀ k:Tk,wrT k=none→touch (ev tm) o=some k∨(k = .all∧touch (ev tm) o=none)→FI ops (i+1) (i::np) 0 (bX tm o.dst v) (⟨i,h.length,h1.length,k⟩::rs) none:=by
  intro k hk ht
  refine hf.add ha ho (fun _=>⟨rfl,hk⟩) (fun h=>h) (fun hm=>?_) (fun t hr=>?_)
  ·have:=tJ (ρ:=ev tm) ho hm
   rcases ht with ht|⟨_,ht⟩<;>rw[ht] at this<;>first|exact Option.some.inj this|cases this
  ·obtain⟨n,e1,e2⟩:=wE ho hr hx
   rcases ht with ht|⟨_,ht⟩<;>rw[ht] at e1
   ·exact⟨n,Option.some.inj e1,e2⟩
   ·cases e1
 have hex:h++h1.drop h.length=h1:=by obtain⟨t,rfl⟩:=he;simp
 split
 ·rename_i ht
  exact⟨_,rfl,hadd _ rfl (.inl ht)⟩
 ·rename_i n ht
  rw[if_pos (show Ka m rs n=true from List.all_eq_true.2 fun r hr=>by rw[hf.wr rfl r hr];rfl)]
  exact⟨_,rfl,hadd _ rfl (.inl ht)⟩
 ·rename_i n ht
  exact absurd ht (hn1 n)
 ·rename_i n n2 ht
  exact absurd ht (hn2 n n2)
 ·rename_i e1 e2 e3 e4
  have ht:touch (ev tm) o=none∨touch (ev tm) o=some .all:=by
   cases hk:touch (ev tm) o with
   | none=>exact .inl rfl
   | some k=>cases k with
    | mk=>exact absurd hk e1
    | all=>exact .inr rfl
    | rd n=>exact absurd hk (e2 n)
    | wr n=>exact absurd hk (e3 n)
    | ap n n2=>exact absurd hk (e4 n n2)
  rw[if_pos ⟨rfl,he.le,show Xy m i rs b=true from List.all_eq_true.2 fun r hr=>by rw[hf.wr rfl r hr]⟩,hex]
  refine⟨_,rfl,hadd .all rfl ?_⟩
  rcases ht with ht|ht
  ·exact .inr ⟨rfl,ht⟩
  ·exact .inl ht
theorem Qq{tm:List Value}{h h0 h1:List Blk}{rs:List Rc}{b:Nat}{wr bar w1:Option Nat}{v:Value}{m:Nat}(ha:vN ops=true)(ho:ops[i]?=some o)(hx:xop C P (ev tm) o h=some (v,h1,w1))(hw1:(w1=none∧Ext h h1)∨∃ nm,w1=some nm∧h0.length≤nm∧nm<h.length∧h.length≤h1.length)(hnp:np.all (fun j=>m.testBit j)=true)(hf:FI ops i np c tm rs bar)(hwr:wge wr h0.length=true) :
 ∃ rs' b' bar' wr',mE ms m i (ev tm) o ⟨tm,h,rs,b,bar,wr⟩ (some (v,h1,w1))=some ⟨bX tm o.dst v,h1,rs',b',bar',wr'⟩∧wge wr' h0.length=true∧FI ops (i+1) (i::np) 1 (bX tm o.dst v) rs' bar':=by
 have hmem:∀ j∈np,m.testBit j=true:=List.all_eq_true.1 hnp
 have hrs:∀ r∈rs,m.testBit r.i=true:=fun r hr=>hmem _ (hf.mem r hr)
 have hwm:wge (wmin wr w1) h0.length=true:=by
  refine jD hwr ?_
  rcases hw1 with⟨rfl,_⟩|⟨nm,rfl,hl,_⟩
  ·rfl
  ·simpa [wge] using hl
 have hle:h.length≤h1.length:=by
  rcases hw1 with⟨_,he⟩|⟨_,_,_,_,hle⟩
  ·exact he.le
  ·exact hle
 have hbar:vT m bar=true:=by
  cases hb:bar with
  | none=>rfl
  | some q=>exact hmem q (hf.ba q hb).2.1
 unfold mE
 simp only[hbar,if_true]
 have hadd:∀(k:Tk) (a z:Nat),touch (ev tm) o=some k∨(k = .all∧touch (ev tm) o=none)→FI ops (i+1) (i::np) 1 (bX tm o.dst v) (⟨i,a,z,k⟩::rs) bar:=by
  intro k a z ht
  refine hf.add ha ho (fun h=>absurd h (by decide)) (fun _=>rfl) (fun hm=>?_) (fun t hr=>?_)
  ·have:=tJ (ρ:=ev tm) ho hm
   rcases ht with ht|⟨_,ht⟩<;>rw[ht] at this<;>first|exact Option.some.inj this|cases this
  ·obtain⟨n,e1,e2⟩:=wE ho hr hx
   rcases ht with ht|⟨_,ht⟩<;>rw[ht] at e1
   ·exact⟨n,Option.some.inj e1,e2⟩
   ·cases e1
 split
 ·rename_i ht
  exact⟨_,_,_,_,rfl,hwr,hadd _ _ _ (.inl ht)⟩
 ·rename_i n ht
  rw[if_pos (show Ka m rs n=true from List.all_eq_true.2 fun r hr=>by simp[hrs r hr])]
  exact⟨_,_,_,_,rfl,hwr,hadd _ _ _ (.inl ht)⟩
 ·rename_i n ht
  rw[if_pos (show Kc ms m rs b n=true from List.all_eq_true.2 fun r hr=>by split<;>simp[hrs r hr])]
  exact⟨_,_,_,_,rfl,hwm,hadd _ _ _ (.inl ht)⟩
 ·rename_i n n2 ht
  rw[if_pos ⟨show Kc ms m rs b n=true from List.all_eq_true.2 fun r hr=>by split<;>simp[hrs r hr],show Ka m rs n2=true from List.all_eq_true.2 fun r hr=>by simp[hrs r hr]⟩]
  exact⟨_,_,_,_,rfl,hwm,hadd _ _ _ (.inl ht)⟩
 ·rename_i e1 e2 e3 e4
  have ht:touch (ev tm) o=none∨touch (ev tm) o=some .all:=by
   cases hk:touch (ev tm) o with
   | none=>exact .inl rfl
   | some k=>cases k with
    | mk=>exact absurd hk e1
    | all=>exact .inr rfl
    | rd n=>exact absurd hk (e2 n)
    | wr n=>exact absurd hk (e3 n)
    | ap n n2=>exact absurd hk (e4 n n2)
  split
  ·rename_i hc
   have hex:h++h1.drop h.length=h1:=by
    rcases hw1 with⟨_,t,rfl⟩|⟨nm,rfl,_,hlt,_⟩
    ·simp
    ·have:=hc.1;simp[wge] at this;omega
   rw[hex]
   refine⟨_,_,_,_,rfl,hwr,hadd .all _ _ ?_⟩
   rcases ht with ht|ht
   ·exact .inr ⟨rfl,ht⟩
   ·exact .inl ht
  ·rw[if_pos ⟨List.all_eq_true.2 hrs,hle⟩]
   refine⟨_,_,_,_,rfl,hwm,⟨fun r hr=>by simp at hr,fun r hr=>by simp at hr,fun r hr=>by simp at hr,fun r hr=>by simp at hr,fun _ r hr=>by simp at hr,fun q hq=>?_⟩⟩
   obtain rfl:=Option.some.inj hq
   refine⟨rfl,by simp,?_,?_⟩
   ·cases hm:Lt ops i with
    | false=>rfl
    | true=>exact absurd (tJ (ρ:=ev tm) ho hm) e1
   ·cases hr:Ci ops i with
    | none=>rfl
    | some t =>
     obtain⟨n,e,_⟩:=wE ho hr hx
     exact absurd e (e2 n)
theorem TF.m(hw:twant ops s.tm o=some true)(hna:noT o s)(ho:OpM C P o s s')(hq:TF C P ops ms rest (i+1) (i::np) 0 s' Q):TF C P ops ms (o::rest) i np 0 s Q:=by
 intro h0 Fz L tm h rs b bar wr hl ha hs hwr hf how
 obtain⟨hi,hd⟩:=wT hl
 rcases ho h0 Fz L tm h hs with⟨v,h1,F1,L1,g1,s1⟩|⟨hn,v,h1,hx,he,F1,L1,g1,s1⟩
 ·obtain⟨s2,q1,q2,t2,F2,L2,q3,g2,s3⟩:=hq h0 F1 L1 _ h rs b bar wr hd ha s1 hwr (hf.put ha hi (fun j hj=>List.mem_cons_of_mem _ hj) (fun h=>h) (fun h=>h)) (.lo (by decide))
  exact⟨s2,by simp only[dT,fV,if_pos (gU hs.tmr hw),h1,q1],q2,t2,F2,L2,q3,g1.trans g2,s3⟩
 ·obtain rfl : bar = none := by
    cases hb:bar with
    | none=>rfl
    | some q=>have:=(hf.ba q hb).1;cases this
  have hn1:∀ k,touch (ev tm) o≠some (.wr k):=fun k=>by
   rcases hna with h|h
   ·exact fun ht=>Vr h ht hx
   ·exact (h Fz _ L tm hs.tmr).1 k
  have hn2:∀ k k2,touch (ev tm) o≠some (.ap k k2):=fun k k2=>by
   rcases hna with h|h
   ·exact aAR h
   ·exact (h Fz _ L tm hs.tmr).2 k k2
  obtain⟨rs',e1,e2⟩:=Pw (ms:=ms) (b:=b) (wr:=wr) (m:=aP ms i) hn1 hn2 ha hi hx he hf
  exact TF.act hw hs hl ha hn hx e1 hwr e2 (.lo (by decide)) hq g1 s1
theorem TF.w(hw:twant ops s.tm o=some true)(ho:OpW C P o s s')(hnp:np.all (fun j=>(aP ms i).testBit j)=true)(hq:TF C P ops ms rest (i+1) (i::np) 1 s' Q):TF C P ops ms (o::rest) i np c s Q:=by
 intro h0 Fz L tm h rs b bar wr hl ha hs hwr hf how
 obtain⟨hi,hd⟩:=wT hl
 rcases ho h0 Fz L tm h hs with⟨v,h1,F1,L1,g1,s1⟩|⟨hn,v,h1,w1,hx,hw1,F1,L1,g1,s1⟩
 ·obtain⟨s2,q1,q2,t2,F2,L2,q3,g2,s3⟩:=hq h0 F1 L1 _ h rs b bar wr hd ha s1 hwr (hf.put ha hi (fun j hj=>List.mem_cons_of_mem _ hj) (fun h=>absurd h (by decide)) (fun _=>rfl)) (.lo (by decide))
  exact⟨s2,by simp only[dT,fV,if_pos (gU hs.tmr hw),h1,q1],q2,t2,F2,L2,q3,g1.trans g2,s3⟩
 ·obtain⟨rs',b',bar',wr',e1,e2,e3⟩:=Qq (ms:=ms) (b:=b) (m:=aP ms i) ha hi hx hw1 hnp hf hwr
  exact TF.act hw hs hl ha hn hx e1 e2 e3 (.lo (by decide)) hq g1 s1
theorem TF.weak{l:List Oper}(hc:Nat.ble c 1=true)(hw:Wk s s')(hx:TF C P ops ms l i np c s' Q):TF C P ops ms l i np c s Q:=by
 intro h0 Fz L tm h rs b bar wr hl ha hs hwr hf how
 obtain⟨F1,L1,g1,s1⟩:=hw h0 Fz L tm h hs
 obtain⟨s2,q1,q2,t2,F2,L2,q3,g2,s3⟩:=hx h0 F1 L1 tm h rs b bar wr hl ha s1 hwr hf (.lo (Nat.le_of_ble_eq_true hc))
 exact⟨s2,q1,q2,t2,F2,L2,q3,g1.trans g2,s3⟩
def OpA(C:Ctx)(P:Program)(o:Oper)(s s':TS)(n:Nat):Prop:=
 ∀ h0 Fz L tm h,St h0 Fz L s tm h→(∃ v,Rex.pop P (ev tm) o=some v∧∃ L',(∀ j,j≠n→L' j=L j)∧Grow h0 Fz Fz h h∧St h0 Fz L' s' (bX tm o.dst v) h) ∨
  Rex.pop P (ev tm) o=none∧(∀ k,touch (ev tm) o≠some (.wr k))∧(∀ k k2,touch (ev tm) o=some (.ap k k2)→(L n).nm=some k)∧∃ v h1 w1,xop C P (ev tm) o h=some (v,h1,w1)∧((w1=none∧Ext h h1)∨∃ nm,w1=some nm∧h0.length≤nm∧nm<h.length∧h.length≤h1.length) ∧
   (w1=none∨∃ k k2,touch (ev tm) o=some (.ap k k2))∧∃ L',(∀ j,j≠n→L' j=L j)∧Grow h0 Fz Fz h h1∧St h0 Fz L' s' (bX tm o.dst v) h1
theorem OpA.toW{n:Nat}(h:OpA C P o s s' n):OpW C P o s s':=by
 intro h0 Fz L tm hh hs
 rcases h h0 Fz L tm hh hs with⟨v,h1,L',-,h2,h3⟩|⟨h1,-,-,v,h2,w1,h3,h4,-,L',-,h5,h6⟩
 ·exact .inl ⟨v,h1,Fz,L',h2,h3⟩
 ·exact .inr ⟨h1,v,h2,w1,h3,h4,Fz,L',h5,h6⟩
theorem St.own{h0 h:List Blk}{Fz:Nat→Prop}{L:Nat→LI}{tm:List Value}{j nm:Nat}{b:TB}(hs:St h0 Fz L s tm h)(hb:s.hp[j]?=some b)(hv:b.live=true)(hn:(L j).nm=some nm):¬ Fz nm:=by
 have hB:=hs.blk j b hb
 cases b with
 | dead=>cases hv
 | rows es rows =>
  obtain⟨-,-,-,-,h5⟩:=hB
  rcases h5 with h5|⟨nm',cs,e1,-,e3,-⟩
  ·rw[h5.1] at hn;cases hn
  ·rw[e1] at hn;obtain rfl:=Option.some.inj hn;exact e3
 | var row =>
  obtain⟨-,nm',cs,e1,-,e3,-⟩:=hB
  rw[e1] at hn;obtain rfl:=Option.some.inj hn;exact e3
def apart(hp:List TB)(j:Nat):TV→Bool
 | .fptr _ _ _=>true
 | .lptr k _ _=>k != j&&(match hp[k]? with|some b=>b.live|none=>false)
 | _=>false
theorem Yg{h0 h:List Blk}{Fz:Nat→Prop}{L:Nat→LI}{tm:List Value}{j nm n:Nat}{b:TB}{p:TV}{x:Value}(hs:St h0 Fz L s tm h)(hb:s.hp[j]?=some b)(hv:b.live=true)(hn:(L j).nm=some nm)(hp:VL Fz h L p x)(hx:aJ x=some n)(ha:apart s.hp j p=true):n≠nm:=by
 rintro rfl
 cases hp<;>simp only[apart] at ha<;>try (cases ha;done)
 ·simp only[aJ] at hx
  obtain rfl:=Option.some.inj hx
  exact hs.own hb hv hn (by assumption)
 ·rename_i k r o nm' ok hnk
  simp only[aJ] at hx
  obtain rfl:=Option.some.inj hx
  rw[Bool.and_eq_true] at ha
  cases hk:s.hp[k]? with
  | none=>rw[hk] at ha;cases ha.2
  | some b' =>
   rw[hk] at ha
   have:=hs.inj k j b' b _ hk hb ha.2 hv hnk hn
   simp[this] at ha
def Nv(ops:Array Oper)(m:Nat)(s:TS)(j:Nat)(np:List Nat):Bool:=np.all fun k=>m.testBit k||Lt ops k||(match Ci ops k with|some t=>apart s.hp j (tnth s.tm t)|none=>false)
theorem TF.st{t:TypeId}{a x:Operand}{j r ob:Nat}{hp':List TB}(hw:twant ops s.tm { dst:=none,op:=.store t a x,type:=ty,pos:=pos,after:=aft,guard:=gd }=some true)(ha:tev s.tm a = .lptr j r ob)(ho:OpW C P { dst:=none,op:=.store t a x,type:=ty,pos:=pos,after:=aft,guard:=gd } s ⟨s.tm,hp'⟩)(hlv:(match s.hp[j]? with | some b=>b.live | none=>false)=true)
 (hnp:Nv ops (aP ms i) s j np=true) (hq:TF C P ops ms rest (i+1) (i::np) 1 ⟨s.tm,hp'⟩ Q):TF C P ops ms ({ dst:=none,op:=.store t a x,type:=ty,pos:=pos,after:=aft,guard:=gd }::rest) i np c s Q:=by
 intro h0 Fz L tm h rs b bar wr hl hak hs hwr hf how
 obtain⟨hi,hd⟩:=wT hl
 have hbe:=List.all_eq_true.1 hnp
 have hbar:vT (aP ms i) bar=true:=by
  cases hb:bar with
  | none=>rfl
  | some q =>
   obtain⟨-,h1,h2,h3⟩:=hf.ba q hb
   have:=hbe q h1
   simpa [h2,h3,vT] using this
 rcases ho h0 Fz L tm h hs with⟨v,h1,F1,L1,g1,s1⟩|⟨hn,v,h1,w1,hx,hw1,F1,L1,g1,s1⟩
 ·cases h1
 obtain⟨nm,hnm,hav⟩:∃ nm,(L j).nm=some nm∧∃ ofs,ev tm a = .pointer (some ⟨nm,ofs,none⟩):=by
  have h1:=dU hs.fz hs.tmr a
  rw[ha] at h1
  generalize ev tm a=y at *
  cases h1 with
  | lptr _ _ _ _ nm ok hn=>exact⟨nm,hn,_,rfl⟩
 obtain⟨ofs,hav⟩:=hav
 cases hbj:s.hp[j]? with
 | none=>rw[hbj] at hlv;cases hlv
 | some bj =>
 rw[hbj] at hlv
 have ht:touch (ev tm) { dst:=none,op:=.store t a x,type:=ty,pos:=pos,after:=aft,guard:=gd }=some (.wr nm):=by simp only[touch,hav,aJ,Option.map_some]
 have hwm:wge (wmin wr w1) h0.length=true:=by
  refine jD hwr ?_
  rcases hw1 with⟨rfl,_⟩|⟨nm,rfl,hl,_⟩
  ·rfl
  ·simpa [wge] using hl
 have hok:Kc ms (aP ms i) rs b nm=true:=by
  refine List.all_eq_true.2 fun r hr=>?_
  have h1:=hbe _ (hf.mem r hr)
  cases hm:Lt ops r.i with
  | true=>rw[hf.ma r hr hm];simp[nX]
  | false =>
   cases hrd:Ci ops r.i with
   | none =>
    have:(aP ms i).testBit r.i=true:=by simpa [hm,hrd] using h1
    split<;>simp[this]
   | some t' =>
    obtain⟨n,e1,e2⟩:=hf.rd r hr t' hrd
    rw[e1]
    simp only[nX]
    cases hb:(aP ms i).testBit r.i with
    | true=>simp
    | false =>
     have hap:apart s.hp j (tnth s.tm t')=true:=by simpa [hm,hrd,hb] using h1
     have hvl:=dU hs.fz hs.tmr (.tmp t')
     have:=Yg hs hbj hlv hnm hvl e2 hap
     simp[this]
 refine TF.act (rs':=⟨i,h.length,h.length,.wr nm⟩::rs) (b':=b) (bar':=bar) (wr':=wmin wr w1) (np':=i::np) (c':=1) hw hs hl hak hn hx ?_ hwm ?_ (.lo (by decide)) hq g1 s1
 ·unfold mE
  simp only[hbar,if_true,ht,hok]
 ·refine hf.add hak hi (fun h=>absurd h (by decide)) (fun _=>rfl) (fun hm=>?_) (fun t hr=>?_)
  ·have:=tJ (ρ:=ev tm) hi hm
   rw[ht] at this
   cases this
  ·obtain⟨n,e,_⟩:=wE hi hr hx
   rw[ht] at e
   cases e
def TD(C:Ctx)(P:Program)(ops:Array Oper)(ms:List Nat)(l:List Oper)(i:Nat)(np:List Nat)(c:Nat)(s:TS)(Q:TS→Prop):Prop:=
 (oW ops=false→TA C P ops ms l i np c s Q)∧(oW ops=true→TF C P ops ms l i np c s Q)
theorem TD.nil(hq:Q s):TD C P ops ms [] i np c s Q:=⟨fun _=>TA.nil hq,fun _=>TF.nil hq⟩
theorem TD.p(hw:twant ops s.tm o=some true)(ho:OpP P o s s')(hq:TD C P ops ms rest (i+1) np c s' Q):TD C P ops ms (o::rest) i np c s Q:=⟨fun h=>TA.p hw ho (hq.1 h),fun h=>TF.p hw ho (hq.2 h)⟩
theorem TD.skip(hw:twant ops s.tm o=some false)(hq:TD C P ops ms rest (i+1) np c ⟨tput s.tm o.dst (.tuple []),s.hp⟩ Q):TD C P ops ms (o::rest) i np c s Q:=⟨fun h=>TA.skip hw (hq.1 h),fun h=>TF.skip hw (hq.2 h)⟩
theorem TD.g(hw:twant ops s.tm o=some true)(ho:OpG C P o s s')(hq:TD C P ops ms rest (i+1) (i::np) 0 s' Q)(hna:Tv o=true:=by rfl):TD C P ops ms (o::rest) i np 0 s Q:=⟨fun h=>TA.g hw ho (hq.1 h),fun h=>TF.m hw (.inl hna) (fun h0 Fz L tm h hs=>.inr (ho h0 Fz L tm h hs)) (hq.2 h)⟩
theorem TD.w(hw:twant ops s.tm o=some true)(ho:OpW C P o s s')(hnp:np.all (fun j=>(aP ms i).testBit j)=true)(hq:TD C P ops ms rest (i+1) (i::np) 1 s' Q):TD C P ops ms (o::rest) i np c s Q:=⟨fun h=>TA.w hw ho hnp (hq.1 h),fun h=>TF.w hw ho hnp (hq.2 h)⟩
theorem TD.weak{l:List Oper}(hc:Nat.ble c 1=true)(hw:Wk s s')(hx:TD C P ops ms l i np c s' Q):TD C P ops ms l i np c s Q:=⟨fun h=>TA.weak hw (hx.1 h),fun h=>TF.weak hc hw (hx.2 h)⟩
def okW(ops:Array Oper)(ms:List Nat)(i:Nat)(s:TS)(j:Nat)(np:List Nat):Bool:=
 np.all (fun k=>(aP ms i).testBit k)||((match s.hp[j]? with|some b=>b.live|none=>false)&&(Nv ops (aP ms i) s j np&&oW ops))
theorem TD.wF{t:TypeId}{a x:Operand}{j r ob:Nat}{hp':List TB}(hw:twant ops s.tm { dst:=none,op:=.store t a x,type:=ty,pos:=pos,after:=aft,guard:=gd }=some true)(ha:tev s.tm a = .lptr j r ob)(ho:OpW C P { dst:=none,op:=.store t a x,type:=ty,pos:=pos,after:=aft,guard:=gd } s ⟨s.tm,hp'⟩)(hnp:okW ops ms i s j np=true)
 (hq:TD C P ops ms rest (i+1) (i::np) 1 ⟨s.tm,hp'⟩ Q):TD C P ops ms ({ dst:=none,op:=.store t a x,type:=ty,pos:=pos,after:=aft,guard:=gd }::rest) i np c s Q:=by
 unfold okW at hnp
 rcases (Bool.or_eq_true _ _).mp hnp with h|h
 ·exact TD.w hw ho h hq
 ·simp only[Bool.and_eq_true] at h
  obtain⟨h1,h2,h3⟩:=h
  refine⟨fun h=>?_,fun h=>TF.st hw ha ho h1 h2 (hq.2 h)⟩
  rw[h3] at h
  cases h
theorem TX.drawn{id:Nat}{l:List Oper}{Q:Exit→TS→Prop}(hok:aCv ops=true)(hl:ops.toList=l)(hm:masks l []=ms)(hr:TD C P ops ms l 0 [] 0 s (fun s'=>Q .normal s')):TX C P (.region id ops true) s Q:=by
 intro h0 Fz L tm h hs
 unfold aCv at hok
 rw[Bool.and_eq_true] at hok
 cases hnf:oW ops with
 | false =>
  refine XP.drawn (by simp only[xU,hok.1,hnf];rfl) hl hm ?_
  obtain⟨s2,q1,q2,t2,F2,L2,q3,g2,s3⟩:=hr.1 hnf h0 Fz L tm h [] false none hs rfl ⟨fun _=>rfl,fun j hj=>hj⟩
  exact⟨s2,q1,q2,rfl,t2,F2,L2,q3,g2,s3⟩
 | true =>
  have h2:=hok.2
  rw[hnf,Bool.not_true,Bool.false_or] at h2
  obtain⟨s2,q1,q2,q3⟩:=hr.2 hnf h0 Fz L tm h [] h.length none none (by rw[List.drop_zero];exact hl) h2 hs rfl ⟨fun r hr=>by simp at hr,fun r hr=>by simp at hr,fun r hr=>by simp at hr,fun r hr=>by simp at hr,fun _ r hr=>by simp at hr,fun q hq=>by cases hq⟩ (.lo (by decide))
  subst hl
  subst hm
  exact XP.draw (tm':=s2.tm) (h':=s2.h) (wr:=s2.wr) (Lz (by simp only[nL,Ex,hok.1,hnf,Bool.and_self,if_true,q1,Option.map_some])) q2 ⟨rfl,q3⟩
def rY(i:Nat):Nat→TV→Bool
 | 0,_=>false
 | d+1,p=>match p with
  | .lsl n _ _=>n==i
  | .agg l=>l.any (rY i d)
  | .tuple l=>l.any (rY i d)
  | _=>false
def cov(r:TS):Bool:=match r.tm with
 | [p]=>(List.range r.hp.length).all fun i=>rY i 4 p
 | _=>false
theorem Gm{Fz:Nat→Prop}{h:List Blk}{L:Nat→LI}{i:Nat}:∀(d k:Nat) {p:TV} {x:Value},rY i d p=true→VL Fz h L p x→clean k x=true→(L i).ok=true∧(L i).nm=none
 | 0,k,p,x,hr,hp,hc=>by simp[rY] at hr
 | d+1,0,p,x,hr,hp,hc=>by simp[clean] at hc
 | d+1,k+1,p,x,hr,hp,hc=>by
  have key:∀(l:List TV) (l':List Value),l'.length=l.length→l.any (rY i d)=true→l'.all (clean k)=true→(∀(i:Nat) p x,l[i]?=some p→l'[i]?=some x→VL Fz h L p x)→(L i).ok=true∧(L i).nm=none:=by
   intro l l' hl hany hall ha
   obtain⟨p,hp,hr⟩:=List.any_eq_true.1 hany
   obtain⟨j,hj⟩:=List.mem_iff_getElem?.1 hp
   have hlt:=(List.getElem?_eq_some_iff.1 hj).1
   have hx:l'[j]?=some l'[j]:=List.getElem?_eq_getElem (by omega)
   exact Gm d k hr (ha j _ _ hj hx) (by simpa using List.all_eq_true.1 hall _ (List.mem_of_getElem? hx))
  cases hp with
  | agg _ l l' hl ha=>exact key l l' hl (by simpa [rY] using hr) (by simpa [clean] using hc) ha
  | tuple _ l l' hl ha=>exact key l l' hl (by simpa [rY] using hr) (by simpa [clean] using hc) ha
  | lslnil _ n ok hn =>
   obtain rfl:n=i:=by simpa [rY] using hr
   exact⟨ok,hn⟩
  | lsl _ n o len nm ok hn hle=>simp[clean] at hc
  | _=>simp[rY] at hr
theorem VL.ofClean{Fz Fz':Nat→Prop}{h h':List Blk}{L L':Nat→LI}(hL:∀ n,(L n).ok=true→(L n).nm=none→(L' n).ok=true∧(L' n).nm=none):∀(k:Nat) {p:TV} {x:Value},clean k x=true→VL Fz h L p x→VL Fz' h' L' p x:=by
 intro k
 induction k generalizing L L' with
 | zero=>intro p x hc;simp[clean] at hc
 | succ k ih =>
  intro p x hc hp
  cases hp with
  | Z _ x=>exact .Z L' x
  | v _ x hx=>exact .v L' x hx
  | agg _ l l' hl ha =>
   have hc':l'.all (clean k)=true:=by simpa [clean] using hc
   exact .agg L' l l' hl fun i p x h1 h2=>ih hL (by simpa using List.all_eq_true.1 hc' x (List.mem_of_getElem? h2)) (ha i p x h1 h2)
  | tuple _ l l' hl ha =>
   have hc':l'.all (clean k)=true:=by simpa [clean] using hc
   exact .tuple L' l l' hl fun i p x h1 h2=>ih hL (by simpa using List.all_eq_true.1 hc' x (List.mem_of_getElem? h2)) (ha i p x h1 h2)
  | func _ f a b a' b' la ha lb hb =>
   have hc':a'.all (clean k)=true∧b'.all (clean k)=true:=by simpa [clean,Bool.and_eq_true] using hc
   have hno:∀ n,(noL n).ok=true→(noL n).nm=none→(noL n).ok=true∧(noL n).nm=none:=fun n h=>by simp[noL] at h
   exact .func L' f a b a' b' la (fun i p x h1 h2=>ih hno (by simpa using List.all_eq_true.1 hc'.1 x (List.mem_of_getElem? h2)) (ha i p x h1 h2)) lb
    (fun i p x h1 h2=>ih hno (by simpa using List.all_eq_true.1 hc'.2 x (List.mem_of_getElem? h2)) (hb i p x h1 h2))
  | nillist _ es=>exact .nillist L' es
  | vague _ es=>exact .vague L' es
  | lslnil _ n ok hn =>
   obtain⟨h1,h2⟩:=hL n ok hn
   exact .lslnil L' n h1 h2
  | list=>simp[clean] at hc
  | fptr=>simp[clean] at hc
  | lptr=>simp[clean] at hc
  | lsl=>simp[clean] at hc
theorem St.clean{h0 h:List Blk}{Fz:Nat→Prop}{L:Nat→LI}{r:TS}{v:Value}(hs:St h0 Fz L r [v] h)(hc:bN v=true)(hr:cov r=true){Fz0:Nat→Prop}(h00:FZ Fz0 h0):∃ L',St h0 Fz0 L' r [v] h0:=by
 obtain⟨tm,hp⟩:=r
 unfold cov at hr
 split at hr
 ·rename_i p htm
  simp only at htm
  subst htm
  simp only at hr
  have hv:VL Fz h L p v:=hs.tmr.at' 0 p v rfl rfl
  have hnone:∀ i,i<hp.length→(L i).ok=true∧(L i).nm=none:=fun i hi=>Gm 4 depth (by
   simpa using List.all_eq_true.1 hr i (by simpa using hi)) hv hc
  refine⟨L,⟨VLs.cons (hv.ofClean (fun n h1 h2=>⟨h1,h2⟩) depth hc) VLs.nil,fun n b hb=>?_,hs.dom,fun n n' b b' nm hb hb' _ _ e1 e2=>?_,h00,Ext.refl _⟩⟩
  ·have hlt:=(List.getElem?_eq_some_iff.1 hb).1
   have hB:=hs.blk n b hb
   obtain⟨h1,h2⟩:=hnone n hlt
   cases b with
   | dead=>trivial
   | rows es rows =>
    obtain⟨q1,q2,q3,q4,q5⟩:=hB
    rcases q5 with q5|⟨nm,cs,e1,_⟩
    ·exact⟨q1,q2,q3,q4,.inl q5⟩
    ·rw[h2] at e1;cases e1
   | var row =>
    obtain⟨q1,nm,cs,e1,_⟩:=hB
    rw[h2] at e1;cases e1
  ·have:=hnone n (List.getElem?_eq_some_iff.1 hb).1
   rw[this.2] at e1;cases e1
 ·cases hr
def tres(load:TypeId→TV→Option TV)(tm:List TV):ResultVar→Option TV
 | .tmp t=>some (tnth tm t)
 | .cell a t=>load t (tnth tm a)
def Xp:List TV→TV
 | [p]=>p
 | ps=>.tuple ps
theorem Ry{Fz:Nat→Prop}{h:List Blk}{L:Nat→LI}{ps:List TV}{vs:List Value}(hs:VLs Fz h L ps vs):VL Fz h L (Xp ps) (iZ vs):=by
 have hl:=hs.len
 match ps,vs,hl,hs with
 | [p],[v],_,hs=>exact hs.at' 0 p v rfl rfl
 | [],[],_,hs=>exact .tuple' hs
 | a::b::l,a'::b'::l',_,hs=>exact .tuple' hs
end
end Go.Rex
