/- An executor of the program's functions on trees of values,proved sound. -/
import Derived.Test.YtneefkifalbplaaGreatRexG9
set_option linter.unusedSimpArgs false
set_option linter.unusedVariables false
set_option linter.defProp false
namespace Go.Rex
open Go.RowKit
theorem z3:(∀(α:Type) (a b:α) (l:List α),(a::l).set 0 b=b::l)∧(∀(α:Type) (a b:α) (l:List α) (n:Nat),(a::l).set (n+1) b=a::l.set n b)∧(∀(α:Type) (a:α) (l:List α),(a::l)[0]?=some a)∧(∀(α:Type) (a:α) (l:List α) (n:Nat),(a::l)[n+1]?=l[n]?) ∧
 (∀(α β:Type) (f:α→β) (a:α) (l:List α),(a::l).map f=f a::l.map f)∧(∀(α β:Type) (f:α→β),([]:List α).map f=[])∧(∀(α:Type) (a:α) (l m:List α),(a::l)++m=a::(l++m))∧(∀(α:Type) (l:List α),[]++l=l)∧(∀(α:Type) (a:α) (l:List α),(a::l).length=l.length+1)∧(∀(α:Type),([]:List α).length=0) ∧
 (∀(α:Type) (l:List α),l.drop 0=l)∧(∀(α:Type) (a:α) (l:List α) (n:Nat),(a::l).drop (n+1)=l.drop n)∧(∀(α:Type) (n:Nat),([]:List α).drop n=[])∧(∀(α:Type) (l:List α),l.take 0=[])∧(∀(α:Type) (a:α) (l:List α) (n:Nat),(a::l).take (n+1)=a::l.take n)∧(∀(α:Type) (n:Nat),([]:List α).take n=[]) ∧
 (∀(α β:Type) (f:α→β) (a:α),(some a).map f=some (f a))∧(∀(α β:Type) (f:α→β) (l:List α),(l.map f).length=l.length):=
 ⟨fun _ _ _ _=>rfl,fun _ _ _ _ _=>rfl,fun _ _ _=>rfl,fun _ _ _ _=>rfl,fun _ _ _ _ _=>rfl,fun _ _ _=>rfl,fun _ _ _ _=>rfl,fun _ _=>rfl,fun _ _ _=>rfl,fun _=>rfl,fun _ _=>rfl,fun _ _ _ _=>rfl,fun _ n=>by cases n<;>rfl,fun _ _=>rfl,fun _ _ _ _=>rfl,fun _ n=>by cases n<;>rfl,fun _ _ _ _=>rfl,fun _ _ _ _=>List.length_map _⟩
theorem z4:(∀ l,tcells (.agg l)=l)∧(∀ x,tcells (.v x)=[.v x])∧(∀ a b,tcells (.list a b)=[.list a b])∧(∀ a b c,tcells (.func a b c)=[.func a b c])∧(∀ v a b,tcells (.fptr v a b)=[.fptr v a b])∧(∀ a b c,tcells (.lptr a b c)=[.lptr a b c])∧(∀ a b c,tcells (.lsl a b c)=[.lsl a b c]) ∧
 (∀ l,jH (.agg l)=false)∧(∀ x,jH (.v x)=false)∧(∀ a b,jH (.list a b)=false)∧(∀ a b c,jH (.func a b c)=false)∧(∀ v a b,jH (.fptr v a b)=false)∧(∀ a b c,jH (.lptr a b c)=false)∧(∀ a b c,jH (.lsl a b c)=false) ∧
 (∀ a b,tpick (.v (.bool true)) a b=some a)∧(∀ a b,tpick (.v (.bool false)) a b=some b)∧(∀ ops tm dst op ty pos aft,twant ops tm { dst:=dst,op:=op,type:=ty,pos:=pos,after:=aft,guard:=none }=some true)∧(∀(c:List TV) o l,tsplice c o l=c.take o++l++c.drop (o+l.length)) ∧
 (∀ tm,tput tm none=fun _=>tm):=
 ⟨fun _=>rfl,fun _=>rfl,fun _ _=>rfl,fun _ _ _=>rfl,fun _ _ _=>rfl,fun _ _ _=>rfl,fun _ _ _=>rfl,fun _=>rfl,fun _=>rfl,fun _ _=>rfl,fun _ _ _=>rfl,fun _ _ _=>rfl,fun _ _ _=>rfl,fun _ _ _=>rfl,fun _ _=>rfl,fun _ _=>rfl,fun _ _ _ _ _ _ _=>rfl,fun _ _ _=>rfl,fun _=>rfl⟩
end Go.Rex
namespace Go.Rex
theorem z5:(∀ r,tidx r 0=r[0]?)∧(∀ r,tidx r 1=r[1]?)∧(∀ r,tidx r 2=r[2]?)∧(∀ r,tidx r 3=r[3]?)∧(∀ r,tidx r 4=r[4]?)∧(∀ r,tidx r 5=r[5]?)∧(∀ r,tidx r 6=r[6]?)∧(∀ r,tidx r 7=r[7]?)∧(∀ r,tidx r 8=r[8]?)∧(∀ r,tidx r 9=r[9]?):=by
 refine⟨?_,?_,?_,?_,?_,?_,?_,?_,?_,?_⟩<;>(intro r;rfl)
example:(0:Int)<((2:Nat):Int):=by simp only[Int.cast_ofNat_Int,Int.reduceLT]
theorem tml{α β:Type}{f:α→β}{xs:List α}:(xs.map f).take xs.length=xs.map f:=List.take_of_length_le (by simp)
end Go.Rex
namespace Go.Rex
open Go.RowKit
section
variable {C:Ctx} {P:Program} {ops:Array Oper} {rest:List Oper} {tm tm2:List TV} {hp hp2:List TB} {Q:TS→Prop} {o:Oper}
variable {dst:Option Tmp} {ty:TypeId} {pos:String} {aft:Array Edge} {gd:Option (Nat×Bool)} {p q:TV} {ms:List Nat} {i:Nat} {np:List Nat} {c:Nat}
theorem TX.unroll{b:Code}{s:TS}{Q:Exit→TS→Prop}(hx:TX C P b s (Eg (fun s=>TX C P (.loop b) s Q) Q)):TX C P (.loop b) s Q:=by
 intro h0 Fz L tm h hs
 obtain⟨K,e,⟨tm',df'⟩,h',w1,h1,h2,hd,s',F',L',q,g,hs'⟩:=hx h0 Fz L tm h hs
 obtain rfl:df'=[]:=hd
 cases e with
 | normal =>
  obtain⟨K2,e2,a2,h2',w2,k1,k2,kd,s3,F3,L3,q3,g3,hs3⟩:=q h0 F' L' tm' h' hs'
  refine⟨max K K2+1,e2,a2,h2',wmin w1 w2,?_,jD h2 k2,kd,s3,F3,L3,q3,g.trans g3,hs3⟩
  simp only[exec]
  rw[jU (Nat.le_max_left K K2) h1]
  simp only
  rw[jU (Nat.le_max_right K K2) k1]
  rfl
 | _=>exact⟨K+1,_,_,h',w1,by simp only[exec,h1],h2,rfl,s',F',L',q,g,hs'⟩
theorem TX.vt{α:Type}(f:α→List TV)(t es:Nat){b:Code}{Q:Exit→TS→Prop}(ht:tnth tm t = .v (.slice none 0 0))(h1:tm.set t (.lsl hp.length 0 ([]:List α).length)=tm2)(h2:hp++[.rows es (([]:List α).map f)]=hp2)(hq:TX C P b ⟨tm2,hp2⟩ Q):TX C P b ⟨tm,hp⟩ Q:=by
 subst h1 h2
 exact TX.weak (Wk.nil t es ht) hq
theorem TX.here{b:Code}{s:TS}{Q:Exit→TS→Prop}(h:TX C P b s Q):TX C P b s Q:=h
theorem tmlc{α β:Type}{f:α→β}{xs:List α}{n:Nat}(h:xs.length=n):(xs.map f).take n=xs.map f:=by subst h;exact tml
def Lb(P:Program)(g:FuncId):Option (Array Value→Sem Value):=
 match P.funcs[g]? with
 | some fd => if fd.body.isNone = true ∧ (fd.name == "runtime.NumGoroutine") = false ∧ (Extern.findNext fd).isNone = true then Extern.find fd else none
 | none=>none
theorem aAs{g:FuncId}{F:Array Value→Sem Value}{vals:List Value}{v:Value}(hF:Lb P g=some F)(hc:vals.all cU=true)(hv:prun P (F ⟨vals⟩)=some v)(hcv:bN v=true)(h:List Blk):aL P g=false∧xslow P g vals h=some (v,h,none):=by
 unfold Lb at hF
 split at hF
 ·rename_i fd hfd
  split at hF
  ·rename_i hcond
   obtain⟨h1,h2,h3⟩:=hcond
   have hb:fd.body=none:=by simpa using h1
   refine⟨by simp[aL,hfd,hb],?_⟩
   have hcall:prun P (callFunc g ⟨vals⟩)=some (.value v):=by
    unfold callFunc
    rw[bH]
    show prun P (match P.funcs[g]? with|none=>_|some fn=>_)=_
    rw[hfd]
    simp only[h2,Bool.false_eq_true,if_false,h1,if_true]
    have hn:Extern.findNext fd=none:=by simpa using h3
    rw[hn]
    rw[bH]
    show prun P _=_
    simp only[hF]
    show prun P (F ⟨vals⟩ >>= fun r=>(pure (Next.value r):Sem Next))=_
    rw[bH,hv]
    rfl
   simp only[xslow,hfd,hb,Pj,Vp,hc,if_true,hcall,hcv,Option.map_some]
  ·cases hF
 ·cases hF
theorem aCB{fo:Operand}{g:FuncId}{args:Array Operand}{tys:Array TypeId}{l:List TV}{vals:List Value}{v:Value}(hf:tev tm fo = .func g [] [])(hl:args.toList.map (tev tm)=l)(he:l.mapM (er 3)=some vals)(hs0:∀ h,aL P g=false∧xslow P g vals h=some (v,h,none))(hi:pD 3 v=true)(hp1:inj 3 v=p) :
 OpG C P { dst:=dst,op:=.call { callee:=.value fo,args:=args,argTypes:=tys },type:=ty,pos:=pos,after:=aft,guard:=gd } ⟨tm,hp⟩ ⟨tput tm dst p,hp⟩:=by
 subst hp1
 intro h0 Fz L vm h hs
 have hfv:=dU hs.fz hs.tmr fo
 rw[show tev (TS.mk tm hp).tm fo=_ from hf] at hfv
 obtain⟨f',c',hfe,vf,vc⟩:∃ f' c',ev vm fo = .func (.func g) ⟨f'⟩ ⟨c'⟩∧VLs Fz h noL [] f'∧VLs Fz h noL [] c':=by
  generalize ev vm fo=y at *
  cases hfv with
  | func _ _ _ _ a' b' la ha lb hb=>exact⟨a',b',rfl,⟨la,ha⟩,⟨lb,hb⟩⟩
 have hf0:f'=[]:=by have:=vf.len;simpa using this
 have hc0:c'=[]:=by have:=vc.len;simpa using this
 subst hf0 hc0
 have hargs:=yS hs.fz hs.tmr args.toList
 rw[show args.toList.map (tev (TS.mk tm hp).tm)=l from hl] at hargs
 obtain⟨q1,q2⟩:=zZ he
 have hve:args.toList.map (ev vm)=vals:=by
  apply List.ext_getElem?
  intro j
  cases hx:(args.toList.map (ev vm))[j]? with
  | none =>
   rw[List.getElem?_eq_none_iff] at hx
   rw[eq_comm,List.getElem?_eq_none_iff]
   have:=hargs.len
   omega
  | some x =>
   have hj:=(List.getElem?_eq_some_iff.1 hx).1
   have hll:=hargs.len
   have hp':l[j]?=some l[j]:=List.getElem?_eq_getElem (by omega)
   have hy:vals[j]?=some vals[j]:=List.getElem?_eq_getElem (by omega)
   rw[hy,VL.er 3 (q2 j _ _ hp' hy) (hargs.at' j _ _ hp' hx)]
 obtain⟨hg,hx⟩:=hs0 h
 refine⟨rfl,v,h,?_,Ext.refl h,Fz,L,Grow.refl _ _,hs.put dst (VL.inj 3 hi)⟩
 simp only[xop,hop,bhop]
 rw[Nb]
 simp only[hfe]
 rw[if_neg (by rw[hg];exact Bool.false_ne_true)]
 simp only[List.nil_append,List.append_nil,hve]
 exact hx
theorem aCx{fo:Operand}{g:FuncId}{args:Array Operand}{tys:Array TypeId}{F:Array Value→Sem Value}{l:List TV}{vals:List Value}{v:Value}(hf:tev tm fo = .func g [] [])(hF:Lb P g=some F)(hl:args.toList.map (tev tm)=l)(he:l.mapM (er 3)=some vals)(hc:vals.all cU=true)(hv:prun P (F ⟨vals⟩)=some v)(hcv:bN v=true)(hi:pD 3 v=true)(hp1:inj 3 v=p) :
 OpG C P { dst:=dst,op:=.call { callee:=.value fo,args:=args,argTypes:=tys },type:=ty,pos:=pos,after:=aft,guard:=gd } ⟨tm,hp⟩ ⟨tput tm dst p,hp⟩:=aCB hf hl he (fun h=>aAs hF hc hv hcv h) hi hp1
theorem TO.ex{fo:Operand}{g:FuncId}{args:Array Operand}{tys:Array TypeId}{F:Array Value→Sem Value}{l:List TV}{vals:List Value}{v:Value}(hw:twant ops tm { dst:=dst,op:=.call { callee:=.value fo,args:=args,argTypes:=tys },type:=ty,pos:=pos,after:=aft,guard:=gd }=some true)(hf:tev tm fo = .func g [] [])(hF:Lb P g=some F)(hl:args.toList.map (tev tm)=l)(he:l.mapM (er 3)=some vals)(hc:vals.all cU=true)(hv:prun P (F ⟨vals⟩)=some v)(hcv:bN v=true)(hi:pD 3 v=true)(hp1:inj 3 v=p)
 (ht:tput tm dst p=tm2) (hq:TO C P ops rest ⟨tm2,hp⟩ Q):TO C P ops ({ dst:=dst,op:=.call { callee:=.value fo,args:=args,argTypes:=tys },type:=ty,pos:=pos,after:=aft,guard:=gd }::rest) ⟨tm,hp⟩ Q:=by
 subst ht;exact TO.g hw (aCx hf hF hl he hc hv hcv hi hp1) hq
variable {x y:Operand} {t u:TypeId}
theorem Dw{b:BinOp}{v w:Value}{r:Option Value}(he:prun P (eqGuard b t x y v w)=some ())(hw:prun P (binOp b t v w)=r):prun P (eqGuard b t x y v w >>= fun _=>binOp b t v w)=r:=by
 rw[bH,he,Option.bind_some,hw]
theorem Ts{b:BinOp}{k k':FloatKind}{a d:Nat}:prun P (eqGuard b t x y (.float k a) (.float k' d))=some ():=by
 cases b<;>rfl
theorem Bh{b:BinOp}{k k':FloatKind}{a d a2 d2:Nat}:prun P (eqGuard b t x y (.complex k a a2) (.complex k' d d2))=some ():=by
 cases b<;>rfl
theorem nM{b:BinOp}{k:FloatKind}{a d:Nat}(h:tev tm x = .v (.float k a))(g:tev tm y = .v (.float k d))(hb:b = .eql∨b = .neq∨b = .lss∨b = .leq∨b = .gtr∨b = .geq):tpop P hp tm { dst:=dst,op:=.binOp b t x y u,type:=ty,pos:=pos,after:=aft,guard:=gd }=some (.v (.bool (fcmp b k a d))):=by
 refine Rs (r:=.bool (fcmp b k a d)) h g ?_ ?_ (.inl (Dw Ts ?_)) rfl
 ·simp[cQ]
 ·rcases hb with rfl|rfl|rfl|rfl|rfl|rfl<;>simp[Nm]
 ·rcases hb with rfl|rfl|rfl|rfl|rfl|rfl<;>(simp[binOp,Op.floatCmp,fcmp];rfl)
def farith(op:BinOp)(k:FloatKind)(a b:Nat):Option Nat:=some (arN op k a b)
theorem Vo{b:BinOp}{k:FloatKind}{a d:Nat}(hb:b = .add∨b = .sub∨b = .mul∨b = .quo):prun P (Op.floatArith b k a d)=some (.float k (arN b k a d))∨prun P (Op.floatArith b k a d)=none:=by
 have e:prun P (Op.floatArith b k a d)=prun P (match farith0 b k a d with|some r=>pure (.float k r)|none=>do pure (.float k (← choose (.nanBits k a d))):Sem Value):=by
  rcases hb with rfl|rfl|rfl|rfl<;>rfl
 rw[e]
 unfold arN
 cases farith0 b k a d with
 | some r=>exact .inl rfl
 | none=>exact .inr rfl
theorem Nt{k:FloatKind}{a:Nat}(h:tev tm x = .v (.float k a)):tpop P hp tm { dst:=dst,op:=.unOp .neg t x,type:=ty,pos:=pos,after:=aft,guard:=gd }=some (.v (.float k (Op.negFloat k a))):=by
 have h1:tgen P tm { dst:=dst,op:=.unOp .neg t x,type:=ty,pos:=pos,after:=aft,guard:=gd }=some (inj 3 (.float k (Op.negFloat k a))):=by
  refine nW (by simpa [Op.operands] using kX h) (wJ rfl ?_ (.inl ?_)) rfl
  ·show aBM .neg (erased tm x)=_
   rw[bJ h]
   rfl
  ·show prun P (Op.unary .neg (erased tm x) >>= fun r=>(pure (Next.value r):Sem Next))=_
   rw[bH,bJ h]
   rfl
 exact h1
def trI(way:Ieee.Toward)(b:Nat):Option Nat:=
 if iH .f64 b=true then some b else some (FloatKind.f64.encode ((FloatKind.f64.decode b).integral way))
theorem aB8{n:String}{way:Ieee.Toward}{b r:Nat}(hn:iH .f64 b=false)(h:trI way b=some r):prun P (Extern.MathFloor.toIntegral n way #[.float .f64 b])=some (.float .f64 r):=by
 unfold trI at h
 rw[hn] at h
 obtain rfl:=Option.some.inj h
 show prun P (match FloatKind.f64.decode b with
  | .nan s t=>if FloatKind.f64.format.quiet t=t then (pure (Value.float .f64 b):Sem Value) else do
   let kept ← choose (.extern "math.Floor,Ceil,Trunc,RoundToEven.signallingNaN kept" 2)
   pure (Value.float .f64 (if kept==1 then b else FloatKind.f64.encode (.nan s (FloatKind.f64.format.quiet t))))
  | d=>pure (Value.float .f64 (FloatKind.f64.encode (d.integral way))))=_
 have hr:=Yc hn
 split
 ·rename_i s t e;exact absurd e (hr s t)
 ·rfl
variable {fo:Operand} {g:FuncId} {args:Array Operand} {tyA:Array TypeId} {F:Array Value→Sem Value}
theorem Ch{k:FloatKind}{b:Nat}(h:iH k b=false):[Value.float k b].all cU=true:=by
 have e:cU (.float k b)=(true&&!iH k b):=rfl
 rw[List.all_cons,List.all_nil,e,h]
 rfl
def fbits(k:FloatKind)(b:Nat):Option Int:=if iH k b=true then none else some ((b:Nat):Int)
theorem TO.fb{k:FloatKind}{ik:IntKind}{b:Nat}{n:Int}(hw:twant ops tm { dst:=dst,op:=.call { callee:=.value fo,args:=args,argTypes:=tyA },type:=ty,pos:=pos,after:=aft,guard:=gd }=some true)(hf:tev tm fo = .func g [] [])(hF:Lb P g=some F)(hl:args.toList.map (tev tm)=[.v (.float k b)])(hb:fbits k b=some n)(hv:prun P (F ⟨[.float k b]⟩)=some (.int ik ((b:Nat):Int)))
 (ht:tput tm dst (.v (.int ik n))=tm2) (hq:TO C P ops rest ⟨tm2,hp⟩ Q):TO C P ops ({ dst:=dst,op:=.call { callee:=.value fo,args:=args,argTypes:=tyA },type:=ty,pos:=pos,after:=aft,guard:=gd }::rest) ⟨tm,hp⟩ Q:=by
 unfold fbits at hb
 split at hb
 ·cases hb
 ·rename_i hn
  obtain rfl:=Option.some.inj hb
  exact TO.ex hw hf hF hl rfl (Ch (Bool.eq_false_iff.2 hn)) hv rfl rfl rfl ht hq
def Sx(P:Program)(g:FuncId):Bool:=match P.funcs[g]? with
 | some fd=>Sv fd&&fd.body.isNone
 | none=>false
theorem Vn{b:Nat}(hA:Sx P g=true)(hn:iH .f64 b=true)(h:List Blk):aL P g=false∧xslow P g [.float .f64 b] h=some (.float .f64 b,h,none):=by
 unfold Sx at hA
 split at hA
 ·rename_i fd hfd
  simp only[Bool.and_eq_true] at hA
  obtain⟨h1,h2⟩:=hA
  have hb:fd.body=none:=by simpa using h2
  refine⟨by simp[aL,hfd,hb],?_⟩
  have hv:Vp P g [.float .f64 b]=none:=by
   unfold Vp
   rw[if_neg]
   simp only[List.all_cons,List.all_nil,cU,depth,clean,pM,hn]
   decide
  have hz:Jp fd=false:=by
   unfold Sv at h1
   simp only[Bool.and_eq_true,Bool.or_eq_true,beq_iff_eq] at h1
   unfold Jp
   rcases h1.1 with e|e|e<;>rw[e]<;>rfl
  simp only[xslow,hfd,hb,Pj,hv,Wt,hz,h1,hn,Bool.false_eq_true,if_false,if_true,ite_self]
 ·cases hA
theorem TO.tr{n:String}{way:Ieee.Toward}{b r:Nat}(hw:twant ops tm { dst:=dst,op:=.call { callee:=.value fo,args:=args,argTypes:=tyA },type:=ty,pos:=pos,after:=aft,guard:=gd }=some true)(hf:tev tm fo = .func g [] [])(hF:Lb P g=some (Extern.MathFloor.toIntegral n way))(hA:Sx P g=true)(hl:args.toList.map (tev tm)=[.v (.float .f64 b)])(hr:trI way b=some r)
 (ht:tput tm dst (.v (.float .f64 r))=tm2) (hq:TO C P ops rest ⟨tm2,hp⟩ Q):TO C P ops ({ dst:=dst,op:=.call { callee:=.value fo,args:=args,argTypes:=tyA },type:=ty,pos:=pos,after:=aft,guard:=gd }::rest) ⟨tm,hp⟩ Q:=by
 subst ht
 refine TO.g hw ?_ hq
 cases hn:iH .f64 b with
 | true =>
  have e:r=b:=by unfold trI at hr;rw[hn] at hr;exact (Option.some.inj hr).symm
  subst e
  exact aCB hf hl rfl (Vn hA hn) rfl rfl
 | false=>exact aCx hf hF hl rfl (Ch hn) (aB8 hn hr) rfl rfl rfl
end
end Go.Rex
namespace Go.Rex
open Go.RowKit
section
variable {P:Program} {tm:List TV} {hp:List TB}
variable {dst:Option Tmp} {ty:TypeId} {pos:String} {aft:Array Edge} {gd:Option (Nat×Bool)} {x y:Operand} {t u:TypeId}
theorem Eb{b:BinOp}{k:FloatKind}{a1 a2 d1 d2 r1 r2:Nat}(h:tev tm x = .v (.complex k a1 a2))(g:tev tm y = .v (.complex k d1 d2))(hb:b = .add∨b = .sub)(h1:farith b k a1 d1=some r1)(h2:farith b k a2 d2=some r2) :
 tpop P hp tm { dst:=dst,op:=.binOp b t x y u,type:=ty,pos:=pos,after:=aft,guard:=gd }=some (.v (.complex k r1 r2)):=by
 obtain rfl:=Option.some.inj h1
 obtain rfl:=Option.some.inj h2
 refine Rs (r:=.complex k (arN b k a1 d1) (arN b k a2 d2)) h g ?_ ?_ ?_ rfl
 ·simp[cQ]
 ·rcases hb with rfl|rfl<;>simp[Nm]
 ·have hb4:b = .add∨b = .sub∨b = .mul∨b = .quo:=by rcases hb with h|h<;>simp[h]
  have key:∀(a d:Nat),prun P (Op.Complex.arith b k a d)=some (arN b k a d)∨prun P (Op.Complex.arith b k a d)=none:=by
   intro a d
   unfold Op.Complex.arith
   rw[bH]
   rcases Vo (P:=P) (k:=k) (a:=a) (d:=d) hb4 with h|h
   ·rw[h];exact .inl rfl
   ·rw[h];exact .inr rfl
  have e:prun P (binOp b t (.complex k a1 a2) (.complex k d1 d2))=some (.complex k (arN b k a1 d1) (arN b k a2 d2))∨prun P (binOp b t (.complex k a1 a2) (.complex k d1 d2))=none:=by
   have e2:binOp b t (.complex k a1 a2) (.complex k d1 d2)=(do pure (.complex k (← Op.Complex.arith b k a1 d1) (← Op.Complex.arith b k a2 d2))):=by
    rcases hb with rfl|rfl<;>simp only[binOp,ne_eq,not_true_eq_false,if_false,Op.complexOp]
   rw[e2,bH]
   rcases key a1 d1 with h|h
   ·rw[h,Option.bind_some,bH]
    rcases key a2 d2 with h|h
    ·rw[h];exact .inl rfl
    ·rw[h];exact .inr rfl
   ·rw[h];exact .inr rfl
  rcases e with e|e
  ·exact .inl (Dw Bh e)
  ·exact .inr (Dw Bh e)
inductive EqF (P:Program) (d:Nat) (X Y:Array Value):List Field→List Bool→Prop
 | nil:EqF P d X Y [] []
 | cons {f : Field} {fs : List Field} {b : Bool} {bs : List Bool} {u v : Value} (hn : f.name ≠ "_") (hu : prun P (part f.type X f.offset) = some u) (hv : prun P (part f.type Y f.offset) = some v) (he : prun P (Op.equalIn d f.type u v) = some b) (hr : EqF P d X Y fs bs) : EqF P d X Y (f :: fs) (b :: bs)
end
end Go.Rex
namespace Go.Rex
open Go.RowKit
class Mv (p:Prop) (q:outParam Prop):Prop where
 mv:q→p
theorem mv{p q:Prop}[i:Mv p q](h:q):p:=i.mv h
section
variable {C:Ctx} {P:Program} {s:TS} {Q:Exit→TS→Prop} {next:TS→Prop}
instance {x y:Code}:Mv (TX C P (.seq x y) s Q) (TX C P x s (Eg (fun s=>TX C P y s Q) Q)):=⟨TX.seq⟩
instance {id:Nat} {b:Code}:Mv (TX C P (.block id b) s Q) (TX C P b s (mT id Q)):=⟨TX.block⟩
instance:Mv (TX C P .skip s Q) (Q .normal s):=⟨TX.skip⟩
instance {id:Nat}:Mv (TX C P (.exit id) s Q) (Q (.exit id) s):=⟨TX.exit⟩
instance:Mv (TX C P .ret s Q) (Q .ret s):=⟨TX.ret⟩
instance:Mv (Eg next Q .normal s) (next s):=⟨aBD⟩
instance {id:Nat}:Mv (Eg next Q (.exit id) s) (Q (.exit id) s):=⟨aBR⟩
instance:Mv (Eg next Q .ret s) (Q .ret s):=⟨aCj⟩
instance {id:Nat}:Mv (mT id Q .normal s) (Q .normal s):=⟨Xc⟩
instance {id:Nat}:Mv (mT id Q .ret s) (Q .ret s):=⟨Zh⟩
instance {id:Nat}:Mv (mT id Q (.exit id) s) (Q .normal s):=⟨Yj⟩
end
def m12:=@Ue
theorem k1{a:Bool}(h:a=true):a=true:=h
theorem k2{a:Option Bool}(h:a=some true):a=some true:=h
def an{p q:Prop}:=@And.intro p q
def z6:=And.intro @List.toList_toArray.{0} <| And.intro @ite_true.{1} <| And.intro @ite_false.{1} <| And.intro @true_and <| And.intro @and_true <| And.intro @and_self <| And.intro @Bool.false_eq_true <| And.intro @decide_true @decide_false
def z7:=And.intro @List.getElem?_toArray.{0} <| And.intro @List.getElem?_cons_succ.{0} <| And.intro @List.getElem?_cons_zero.{0} @Option.bind_some.{0,0}
def zy:=And.intro z1 <| And.intro z2 z3
def zz:=And.intro z1 <| And.intro z2 <| And.intro z3 <| And.intro z4 z6
theorem wr{tm tm':List TV}{hp hp':List TB}(fl:List (Option Nat))(hok:Bt fl=true)(hB:RB fl hp hp' fl)(hT:RNs fl tm tm':=by (repeat (first|exact RNs.nil|refine RNs.cons .Z ?_|refine RNs.cons (.keep rfl rfl) ?_|refine RNs.cons (.lsl rfl rfl) ?_|refine RNs.cons (.lsl rfl (by simp only[List.length_set])) ?_|refine RNs.cons (.lptr rfl) ?_|refine RNs.cons (.nil rfl) ?_|refine RNs.cons .nl ?_|refine RNs.cons (.tuple' ?_) ?_|refine RNs.cons (.agg' ?_) ?_))):Wk ⟨tm,hp⟩ ⟨tm',hp'⟩:=Wk.ren fl hok hB hT
theorem rv{fl:List (Option Nat)}{hp:List TB}{n:Nat}{row row':List TV}{hp':List TB}{l:List (Option Nat)}(h:RB fl hp hp' l)(hb:hp[n]?=some (.var row))(hr:RNs fl row row':=by (repeat (first|exact RNs.nil|refine RNs.cons .Z ?_|refine RNs.cons (.keep rfl rfl) ?_|refine RNs.cons (.lsl rfl rfl) ?_|refine RNs.cons (.lsl rfl (by simp only[List.length_set])) ?_|refine RNs.cons (.lptr rfl) ?_|refine RNs.cons (.nil rfl) ?_|refine RNs.cons .nl ?_|refine RNs.cons (.tuple' ?_) ?_|refine RNs.cons (.agg' ?_) ?_))):RB fl hp (.var row'::hp') (some n::l):=.var h hb hr
section
variable {C:Ctx} {P:Program} {ops:Array Oper} {rest:List Oper} {tm tm2:List TV} {hp:List TB} {Q:TS→Prop}
variable {dst:Option Tmp} {ty:TypeId} {pos:String} {aft:Array Edge} {gd:Option (Nat×Bool)} {ms:List Nat} {i:Nat} {np:List Nat} {c:Nat}
theorem bmG{α:Type}{f:α→List TV}{xs:List α}{t:TypeId}{n es:Nat}{ps:Array (Nat×Operand)}{l:List (Nat×TV)}{rows:List (List TV)}(hx:ps.toList.map (fun q=>(q.1,tev tm q.2))=l)(hv:tslice P t n l=some (es,rows))(hr:rows=xs.map f) :
 OpG C P { dst:=dst,op:=.buildSlice t n ps,type:=ty,pos:=pos,after:=aft,guard:=gd } ⟨tm,hp⟩ ⟨tput tm dst (.list es (xs.map f)),hp⟩:=by
 subst hr
 exact OpG.buildSlice (s:=⟨tm,hp⟩) (by simp only[hx];exact hv)
theorem TO.bm{α:Type}(f:α→List TV)(xs:List α){t:TypeId}{n es:Nat}{ps:Array (Nat×Operand)}{l:List (Nat×TV)}{rows:List (List TV)}(hw:twant ops tm { dst:=dst,op:=.buildSlice t n ps,type:=ty,pos:=pos,after:=aft,guard:=gd }=some true)(hx:ps.toList.map (fun q=>(q.1,tev tm q.2))=l)(hv:tslice P t n l=some (es,rows))(hr:rows=xs.map f)
 (ht:tput tm dst (.list es (xs.map f))=tm2) (hq:TO C P ops rest ⟨tm2,hp⟩ Q):TO C P ops ({ dst:=dst,op:=.buildSlice t n ps,type:=ty,pos:=pos,after:=aft,guard:=gd }::rest) ⟨tm,hp⟩ Q:=by
 subst ht;exact TO.g hw (bmG hx hv hr) hq
theorem TD.bm{α:Type}(f:α→List TV)(xs:List α){t:TypeId}{n es:Nat}{ps:Array (Nat×Operand)}{l:List (Nat×TV)}{rows:List (List TV)}(hw:twant ops tm { dst:=dst,op:=.buildSlice t n ps,type:=ty,pos:=pos,after:=aft,guard:=gd }=some true)(hx:ps.toList.map (fun q=>(q.1,tev tm q.2))=l)(hv:tslice P t n l=some (es,rows))(hr:rows=xs.map f)
 (ht:tput tm dst (.list es (xs.map f))=tm2) (hq:TD C P ops ms rest (i+1) (i::np) 0 ⟨tm2,hp⟩ Q):TD C P ops ms ({ dst:=dst,op:=.buildSlice t n ps,type:=ty,pos:=pos,after:=aft,guard:=gd }::rest) i np 0 ⟨tm,hp⟩ Q:=by
 subst ht;exact TD.g hw (bmG hx hv hr) hq
end
end Go.Rex
namespace Go.Rex
open Go.RowKit
section
variable {C:Ctx} {P:Program} {ops:Array Oper} {rest:List Oper} {tm tm2:List TV} {hp hp2:List TB} {Q:TS→Prop} {o:Oper}
variable {dst:Option Tmp} {ty:TypeId} {pos:String} {aft:Array Edge} {gd:Option (Nat×Bool)} {p q:TV} {ms:List Nat} {i:Nat} {np:List Nat} {c:Nat}
end
inductive EqI (P:Program) (d:Nat) (X Y:Array Value) (e n:Nat):Nat→List Bool→Prop
 | nil (i:Nat):EqI P d X Y e n i []
 | cons {i:Nat} {b:Bool} {bs:List Bool} {u v:Value} (hu:prun P (part e X (i*n))=some u) (hv:prun P (part e Y (i*n))=some v) (he:prun P (Op.equalIn d e u v)=some b) (hr:EqI P d X Y e n (i+1) bs):EqI P d X Y e n i (b::bs)
section
variable {P:Program} {tm:List TV} {hp:List TB} {dst:Option Tmp} {ty:TypeId} {pos:String} {aft:Array Edge} {gd:Option (Nat×Bool)}
end
end Go.Rex
namespace Go.Rex
open Go.RowKit
def dW:Code→Bool
 | .seq x y=>dW x&&dW y
 | .cond _ x y=>dW x&&dW y
 | .block _ b=>dW b
 | .loop b=>dW b
 | .rangeFunc ..=>false
 | _=>true
theorem fS{C:Ctx}{P:Program}{ro:Option Nat}:∀(k:Nat) (c:Code) (tm:List Value) (df:List Nat) (h:List Blk),dW c=true →
 exec C P ro k c ⟨tm,df⟩ h=(exec C P none k c ⟨tm,[]⟩ h).map fun r=>(r.1,(⟨r.2.1.tm,df⟩:AS),r.2.2.1,r.2.2.2)
 | 0,_,_,_,_,_=>rfl
 | k+1,c,tm,df,h,hn=>by
  cases c with
  | seq x y =>
   simp only[dW,Bool.and_eq_true] at hn
   simp only[exec]
   rw[fS k x tm df h hn.1]
   rcases hx:exec C P none k x ⟨tm,[]⟩ h with _|⟨e,⟨tm1,df1⟩,h1,w1⟩
   ·rfl
   ·have hd : df1 = [] := by
      have:=fS (C:=C) (P:=P) (ro:=none) k x tm [] h hn.1
      rw[hx] at this
      simpa using this
    subst hd
    cases e with
    | normal =>
     simp only[Option.map_some]
     rw[fS k y tm1 df h1 hn.2]
     cases exec C P none k y ⟨tm1,[]⟩ h1<;>rfl
    | _=>rfl
  | cond g x y =>
   simp only[dW,Bool.and_eq_true] at hn
   simp only[exec]
   split
   ·cases hv:ev tm g with
    | bool t =>
     cases t with
     | true=>exact fS k x tm df h hn.1
     | false=>exact fS k y tm df h hn.2
    | _=>rfl
   ·rfl
  | block id b =>
   simp only[dW] at hn
   simp only[exec]
   rw[fS k b tm df h hn]
   rcases hx:exec C P none k b ⟨tm,[]⟩ h with _|⟨e,⟨tm1,df1⟩,h1,w1⟩
   ·rfl
   ·cases e with
    | exit id' =>
     simp only[Option.map_some]
     split<;>rfl
    | _=>rfl
  | loop b =>
   have hn':dW b=true:=by simpa only[dW] using hn
   simp only[exec]
   rw[fS k b tm df h hn']
   rcases hx:exec C P none k b ⟨tm,[]⟩ h with _|⟨e,⟨tm1,df1⟩,h1,w1⟩
   ·rfl
   ·have hd : df1 = [] := by
      have:=fS (C:=C) (P:=P) (ro:=none) k b tm [] h hn'
      rw[hx] at this
      simpa using this
    subst hd
    cases e with
    | normal =>
     simp only[Option.map_some]
     rw[fS k (.loop b) tm1 df h1 hn]
     cases exec C P none k (.loop b) ⟨tm1,[]⟩ h1<;>rfl
    | _=>rfl
  | region id ops d =>
   simp only[exec,uM]
   split
   ·cases iF C P ops tm h<;>rfl
   ·split
    ·cases cK C P ops ops.toList tm h<;>rfl
    ·rfl
  | rangeFunc g ps a b=>simp[dW] at hn
  | _=>rfl
def Keeps(h h':List Blk):Prop:=h.length≤h'.length∧∀ m:Nat,h[m]?=some Blk.dfr→h'[m]?=some Blk.dfr
theorem Keeps.refl(h:List Blk):Keeps h h:=⟨Nat.le_refl _,fun _ h=>h⟩
theorem Keeps.trans{a b c:List Blk}(x:Keeps a b)(y:Keeps b c):Keeps a c:=⟨Nat.le_trans x.1 y.1,fun m h=>y.2 m (x.2 m h)⟩
theorem Keeps.app(h t:List Blk):Keeps h (h++t):=⟨by simp,fun m hm=>by rw[List.getElem?_append_left (List.getElem?_eq_some_iff.1 hm).1];exact hm⟩
theorem Keeps.set{h:List Blk}{n:Nat}{b:Blk}(hn:h[n]?≠some Blk.dfr):Keeps h (h.set n b):=
 ⟨by simp,fun m hm=>by rw[List.getElem?_set_ne];exact hm;rintro rfl;exact hn hm⟩
theorem qY{h h':List Blk}{n o:Nat}{vs:List Value}(hw:dF h n o vs=some h'):Keeps h h':=by
 unfold dF at hw
 split at hw
 ·rename_i es c hn
  split at hw
  ·obtain rfl:=Option.some.inj hw
   exact Keeps.set (by rw[hn];simp)
  ·cases hw
 ·rename_i t es c hn
  split at hw
  ·obtain rfl:=Option.some.inj hw
   exact Keeps.set (by rw[hn];simp)
  ·cases hw
 ·cases hw
section
variable {P:Program} {C:Ctx}
theorem Hv{t:TypeId}{h h':List Blk}{n o:Nat}{v:Value}(hw:lC P t h n o v=some h'):Keeps h h':=by
 unfold lC at hw
 split at hw
 ·split at hw
  ·exact qY hw
  ·cases hw
 ·cases hw
theorem Fy{i:TypeInfo}{t1:Option TypeId}{s x v:Value}{h h':List Blk}{w:Option Nat}(hw:rK P i t1 s x h=some (v,h',w)):Keeps h h':=by
 unfold rK at hw
 repeat' split at hw
 all_goals first
  | cases hw;done
  | (simp only[Option.some.injEq,Prod.mk.injEq] at hw;obtain⟨-,rfl,-⟩:=hw;exact Keeps.app _ _)
theorem Ge{tys:Array TypeId}{s x v:Value}{h h':List Blk}{w:Option Nat}(hw:jR P tys s x h=some (v,h',w)):Keeps h h':=by
 unfold jR at hw
 repeat' split at hw
 all_goals first
  | cases hw;done
  | exact Fy hw
  | (simp only[Option.some.injEq,Prod.mk.injEq] at hw;obtain⟨-,rfl,-⟩:=hw;first|exact Keeps.refl _|exact Keeps.app _ _|skip)
  | (rw[Option.map_eq_some_iff] at hw;obtain⟨a,ha,e⟩:=hw;simp only[Prod.mk.injEq] at e;obtain⟨-,rfl,-⟩:=e;exact qY ha)
 all_goals (rename_i hn _;exact (Keeps.set (by rw[hn];simp)).trans (Keeps.app _ _))
theorem Pe{tys:Array TypeId}{s x v:Value}{h h':List Blk}{w:Option Nat}(hw:Nn P tys s x h=some (v,h',w)):Keeps h h':=by
 unfold Nn at hw
 repeat' split at hw
 all_goals first
  | cases hw;done
  | (simp only[Option.some.injEq,Prod.mk.injEq] at hw;obtain⟨-,rfl,-⟩:=hw;exact Keeps.refl _)
  | (rw[Option.map_eq_some_iff] at hw;obtain⟨a,ha,e⟩:=hw;simp only[Prod.mk.injEq] at e;obtain⟨-,rfl,-⟩:=e;first|exact qY ha|exact Keeps.refl _)
theorem xP{r:Option (Value×List Blk)}{v:Value}{h h':List Blk}{w:Option Nat}(hr:∀ v h',r=some (v,h')→Keeps h h')(hw:zP r=some (v,h',w)):Keeps h h':=by
 unfold zP at hw
 rw[Option.map_eq_some_iff] at hw
 obtain⟨⟨v1,h1⟩,ha,e⟩:=hw
 simp only[Prod.mk.injEq] at e
 obtain⟨-,rfl,-⟩:=e
 exact hr _ _ ha
theorem yT{t:TypeId}{len:Nat}{ps:Array (Nat×Value)}{h h':List Blk}{v:Value}(hw:iL P t len ps h=some (v,h')):Keeps h h':=by
 unfold iL at hw
 repeat' split at hw
 all_goals first
  | cases hw;done
  | skip
 rw[Option.bind_eq_some_iff] at hw
 obtain⟨c,-,hw⟩:=hw
 split at hw
 ·simp only[Option.some.injEq,Prod.mk.injEq] at hw
  obtain⟨-,rfl⟩:=hw
  exact Keeps.app _ _
 ·cases hw
theorem Aj{t:TypeId}{l c v:Value}{h h':List Blk}(hw:lL P t l c h=some (v,h')):Keeps h h':=by
 unfold lL at hw
 repeat' split at hw
 all_goals first
  | cases hw;done
  | (simp only[Option.some.injEq,Prod.mk.injEq] at hw;obtain⟨-,rfl⟩:=hw;exact Keeps.app _ _)
theorem xC{t:TypeId}{x k u:Value}{h h':List Blk}{n:Nat}(hw:gF P t x k u h=some (h',n)):Keeps h h':=by
 unfold gF at hw
 split at hw
 ·split at hw
  ·split at hw
   ·split at hw
    ·rename_i hn
     have hset:∀ b,Keeps h (h.set _ b):=fun b=>Keeps.set (b:=b) (by rw[hn];simp)
     repeat' split at hw
     all_goals first
      | cases hw;done
      | (simp only[Option.some.injEq,Prod.mk.injEq] at hw;obtain⟨rfl,-⟩:=hw;exact hset _)
    ·cases hw
   ·cases hw
  ·cases hw
 ·cases hw
theorem Cl{src dst:TypeId}{x:Value}{h h':List Blk}{v:Value}(hw:sM P src dst x h=some (v,h')):Keeps h h':=by
 unfold sM at hw
 repeat' split at hw
 all_goals first
  | cases hw;done
  | (simp only[Option.some.injEq,Prod.mk.injEq] at hw;obtain⟨-,rfl⟩:=hw;exact Keeps.app _ _)
theorem Mo{src dst:TypeId}{x:Value}{h h':List Blk}{v:Value}(hw:Ns P src dst x h=some (v,h')):Keeps h h':=by
 unfold Ns at hw
 split at hw
 ·rename_i r h1
  obtain rfl:=Option.some.inj hw
  exact Cl h1
 ·split at hw
  ·simp only[Option.some.injEq,Prod.mk.injEq] at hw
   obtain⟨-,rfl⟩:=hw
   exact Keeps.refl _
  ·rw[Option.map_eq_some_iff] at hw
   obtain⟨a,ha,e⟩:=hw
   simp only[Prod.mk.injEq] at e
   obtain⟨-,rfl⟩:=e
   exact Keeps.refl _
theorem Fv{tys:Array TypeId}{s x v:Value}{h h':List Blk}{w:Option Nat}(hw:tE P tys s x h=some (v,h',w)):Keeps h h':=by
 unfold tE at hw
 split at hw
 ·rename_i r hr
  obtain rfl:=Option.some.inj hw
  exact Ge hr
 ·unfold wP at hw
  repeat' split at hw
  all_goals first
   | cases hw;done
   | skip
  rename_i hn _
  simp only[Option.some.injEq,Prod.mk.injEq] at hw
  obtain⟨-,rfl,-⟩:=hw
  exact (Keeps.set (by rw[hn];simp)).trans (Keeps.app _ _)
theorem Jt{ts:Array TypeId}{x y v:Value}{h h':List Blk}{w:Option Nat}(hw:Ev P ts x y h=some (v,h',w)):Keeps h h':=by
 unfold Ev at hw
 split at hw
 ·simp only[Option.some.injEq,Prod.mk.injEq] at hw;obtain⟨-,rfl,-⟩:=hw;exact Keeps.refl _
 ·split at hw
  ·rename_i hn hu
   split at hw
   ·split at hw
    ·simp only[Option.some.injEq,Prod.mk.injEq] at hw;obtain⟨-,rfl,-⟩:=hw;exact Keeps.set (by rw[hn];simp)
    ·cases hw
   ·cases hw
  ·cases hw
 ·cases hw
theorem Qt{g:FuncId}{fd:Func}{args:List Value}{v:Value}{h h':List Blk}{w:Option Nat}(hw:Pj P g fd args h=some (v,h',w)):Keeps h h':=by
 unfold Pj at hw
 split at hw
 ·simp only[Option.some.injEq,Prod.mk.injEq] at hw;obtain⟨-,rfl,-⟩:=hw;exact Keeps.refl _
 ·unfold Wt at hw
  repeat' split at hw
  all_goals first
   | cases hw;done
   | (simp only[Option.some.injEq,Prod.mk.injEq] at hw;obtain⟨-,rfl,-⟩:=hw;first|exact Keeps.refl _|exact Keeps.app _ _)
theorem Uu{ρ:Operand→Value}{o:Oper}{h h':List Blk}{v:Value}{w:Option Nat}(hw:hop P ρ o h=some (v,h',w)):Keeps h h':=by
 unfold hop at hw
 split at hw
 ·repeat' split at hw
  all_goals first
   | cases hw;done
   | (simp only[Option.some.injEq,Prod.mk.injEq] at hw;obtain⟨-,rfl,-⟩:=hw;exact Keeps.app _ _)
 ·simp only[Option.some.injEq,Prod.mk.injEq] at hw;obtain⟨-,rfl,-⟩:=hw;exact Keeps.app _ _
 ·exact xP (fun _ _=>yT) hw
 ·exact xP (fun _ _=>Aj) hw
 ·split at hw
  ·rw[Option.map_eq_some_iff] at hw;obtain⟨a,ha,e⟩:=hw;simp only[Prod.mk.injEq] at e;obtain⟨-,rfl,-⟩:=e;exact Keeps.refl _
  ·cases hw
 ·split at hw
  ·rw[Option.map_eq_some_iff] at hw;obtain⟨a,ha,e⟩:=hw;simp only[Prod.mk.injEq] at e;obtain⟨-,rfl,-⟩:=e;exact Hv ha
  ·cases hw
 ·unfold bhop at hw
  repeat' split at hw
  all_goals first
   | cases hw;done
   | exact Fv hw
   | exact Pe hw
   | exact Jt hw
   | (rw[Option.map_eq_some_iff] at hw;obtain⟨a,ha,e⟩:=hw;simp only[Prod.mk.injEq] at e;obtain⟨-,rfl,-⟩:=e;exact Keeps.refl _)
 ·repeat' split at hw
  all_goals first
   | cases hw;done
   | (simp only[Option.some.injEq,Prod.mk.injEq] at hw;obtain⟨-,rfl,-⟩:=hw;exact Keeps.refl _)
   | (rw[Option.map_eq_some_iff] at hw;obtain⟨a,ha,e⟩:=hw;simp only[Prod.mk.injEq] at e;obtain⟨-,rfl,-⟩:=e;exact Keeps.refl _)
 ·rw[Option.map_eq_some_iff] at hw;obtain⟨a,ha,e⟩:=hw;simp only[Prod.mk.injEq] at e;obtain⟨-,rfl,-⟩:=e;exact Keeps.refl _
 ·split at hw
  ·simp only[Option.some.injEq,Prod.mk.injEq] at hw;obtain⟨-,rfl,-⟩:=hw;exact Keeps.app _ _
  ·cases hw
 ·rw[Option.map_eq_some_iff] at hw;obtain⟨a,ha,e⟩:=hw;simp only[Prod.mk.injEq] at e;obtain⟨-,rfl,-⟩:=e;exact Keeps.refl _
 ·rw[Option.map_eq_some_iff] at hw;obtain⟨⟨a,b⟩,ha,e⟩:=hw;simp only[Prod.mk.injEq] at e;obtain⟨-,rfl,-⟩:=e;exact xC ha
 ·rw[Option.map_eq_some_iff] at hw;obtain⟨⟨a,b⟩,ha,e⟩:=hw;simp only[Prod.mk.injEq] at e;obtain⟨-,rfl,-⟩:=e;exact xC ha
 ·exact xP (fun _ _=>Mo) hw
 ·cases hw
structure CKeeps(C:Ctx):Prop where
 call:∀ {f args h v h' w},C.call f args h=some (v,h',w)→Keeps h h'
 round:∀ {l args h v h' w},C.round l args h=some (v,h',w)→Keeps h h'
theorem oC(hC:CKeeps C){ρ:Operand→Value}{o:Oper}{h h':List Blk}{v:Value}{w:Option Nat}(hw:xop C P ρ o h=some (v,h',w)):Keeps h h':=by
 unfold xop at hw
 split at hw
 ·rename_i r hr
  obtain rfl:=Option.some.inj hw
  exact Uu hr
 ·split at hw
  ·unfold xcall at hw
   repeat' split at hw
   all_goals first
    | cases hw;done
    | exact hC.call hw
    | exact hC.round hw
    | exact Qt hw
    | (rw[Option.map_eq_some_iff] at hw;obtain⟨a,ha,e⟩:=hw;simp only[Prod.mk.injEq] at e;obtain⟨-,rfl,-⟩:=e;exact Keeps.refl _)
  ·cases hw
theorem pS(hC:CKeeps C){ops:Array Oper}:∀(l:List Oper) {tm tm':List Value} {h h':List Blk} {w:Option Nat},cK C P ops l tm h=some (tm',h',w)→Keeps h h'
 | [],tm,tm',h,h',w,hw=>by
  simp only[cK,Option.some.injEq,Prod.mk.injEq] at hw
  obtain⟨-,rfl,-⟩:=hw
  exact Keeps.refl _
 | o::l,tm,tm',h,h',w,hw=>by
  simp only[cK] at hw
  split at hw
  ·split at hw
   ·exact pS hC l hw
   ·split at hw
    ·rename_i hx
     rw[Option.map_eq_some_iff] at hw;obtain⟨⟨a,b,c⟩,ha,e⟩:=hw;simp only[Prod.mk.injEq] at e;obtain⟨-,rfl,-⟩:=e
     exact (oC hC hx).trans (pS hC l ha)
    ·cases hw
  ·exact pS hC l hw
theorem Eh(hC:CKeeps C){ops:Array Oper}{m i:Nat}{o:Oper}{s s':Dr}(hw:fU C P ops m i o s=some s'):Keeps s.h s'.h:=by
 unfold fU at hw
 split at hw
 ·split at hw
  ·obtain rfl:=Option.some.inj hw;exact Keeps.refl _
  ·unfold oY at hw
   split at hw
   ·rename_i hx
    split at hw
    ·split at hw
     ·obtain rfl:=Option.some.inj hw;exact Keeps.refl _
     ·obtain rfl:=Option.some.inj hw;exact Keeps.app _ _
    ·split at hw
     ·obtain rfl:=Option.some.inj hw;exact oC hC hx
     ·cases hw
   ·cases hw
 ·obtain rfl:=Option.some.inj hw;exact Keeps.refl _
theorem xB(hC:CKeeps C){ops:Array Oper}{ms:List Nat}:∀(l:List Oper) {i:Nat} {s s':Dr},dS C P ops ms l i s=some s'→Keeps s.h s'.h
 | [],i,s,s',hw=>by
  simp only[dS,Option.some.injEq] at hw
  subst hw
  exact Keeps.refl _
 | o::l,i,s,s',hw=>by
  simp only[dS] at hw
  split at hw
  ·rename_i h1
   exact (Eh hC h1).trans (xB hC l hw)
  ·cases hw
theorem Dk(hC:CKeeps C){ops:Array Oper}{ms:List Nat}{m i:Nat}{o:Oper}{s s':Fr}(hw:fV C P ops ms m i o s=some s'):Keeps s.h s'.h:=by
 unfold fV at hw
 split at hw
 ·split at hw
  ·obtain rfl:=Option.some.inj hw;exact Keeps.refl _
  ·unfold mE at hw
   split at hw
   ·rename_i hx
    split at hw
    ·split at hw
     ·obtain rfl:=Option.some.inj hw;exact oC hC hx
     ·split at hw
      ·obtain rfl:=Option.some.inj hw;exact oC hC hx
      ·cases hw
     ·split at hw
      ·obtain rfl:=Option.some.inj hw;exact oC hC hx
      ·cases hw
     ·split at hw
      ·obtain rfl:=Option.some.inj hw;exact oC hC hx
      ·cases hw
     ·split at hw
      ·obtain rfl:=Option.some.inj hw;exact Keeps.app _ _
      ·split at hw
       ·obtain rfl:=Option.some.inj hw;exact oC hC hx
       ·cases hw
    ·cases hw
   ·cases hw
 ·obtain rfl:=Option.some.inj hw;exact Keeps.refl _
theorem xA(hC:CKeeps C){ops:Array Oper}{ms:List Nat}:∀(l:List Oper) {i:Nat} {s s':Fr},dT C P ops ms l i s=some s'→Keeps s.h s'.h
 | [],i,s,s',hw=>by
  simp only[dT,Option.some.injEq] at hw
  subst hw
  exact Keeps.refl _
 | o::l,i,s,s',hw=>by
  simp only[dT] at hw
  split at hw
  ·rename_i h1
   exact (Dk hC h1).trans (xA hC l hw)
  ·cases hw
theorem Fu(hC:CKeeps C){ops:Array Oper}{tm tm':List Value}{h h':List Blk}{w:Option Nat}(hw:iF C P ops tm h=some (tm',h',w)):Keeps h h':=by
 unfold iF at hw
 split at hw
 ·unfold nL at hw
  split at hw
  ·rw[Option.map_eq_some_iff] at hw;obtain⟨a,ha,e⟩:=hw;simp only[Prod.mk.injEq] at e;obtain⟨-,rfl,-⟩:=e
   exact xA hC _ ha
  ·cases hw
 ·unfold lK at hw
  split at hw
  ·rw[Option.map_eq_some_iff] at hw;obtain⟨a,ha,e⟩:=hw;simp only[Prod.mk.injEq] at e;obtain⟨-,rfl,-⟩:=e
   exact xB hC _ ha
  ·cases hw
theorem Fd(hC:CKeeps C){ro:Option Nat}{g:Operand}{ps:Array Tmp}{as body:Code}{a a':AS}{h h':List Blk}{e:Exit}{w:Option Nat}(hw:nU C P ro g ps as body a h=some (e,a',h',w)) :
 Keeps h h'∧∀ d,d∈a'.df→d∈a.df∨h.length≤d:=by
 unfold nU at hw
 repeat' split at hw
 all_goals first
  | cases hw;done
  | skip
 rename_i h1 d mark hs _ v h2 w2 hc
 have hk:Keeps h h2∧∀ d,d∈mark→h.length≤d:=by
  have k2:=(Keeps.app h1 _).trans (hC.call hc)
  unfold tA at hs
  split at hs
  ·simp only[Option.some.injEq,Prod.mk.injEq] at hs
   obtain⟨rfl,-,rfl⟩:=hs
   exact⟨(Keeps.app h _).trans k2,fun d hd=>by simp at hd;omega⟩
  ·split at hs
   ·simp only[Option.some.injEq,Prod.mk.injEq] at hs
    obtain⟨rfl,-,rfl⟩:=hs
    exact⟨k2,fun d hd=>by simp at hd⟩
   ·cases hs
 unfold qN at hw
 split at hw
 ·rename_i hl
  have k3:=hk.1.trans (Keeps.set (b:=.dead) (by rw[hl];simp))
  have hd:∀ d,d∈mark++a.df→d∈a.df∨h.length≤d:=fun d hd=>by
   rcases List.mem_append.1 hd with x|x
   ·exact .inr (hk.2 d x)
   ·exact .inl x
  repeat' split at hw
  all_goals first
   | cases hw;done
   | (simp only[Option.some.injEq,Prod.mk.injEq] at hw;obtain⟨-,rfl,rfl,-⟩:=hw;exact⟨k3,hd⟩)
 ·cases hw
theorem fR(hC:CKeeps C){ro:Option Nat}:∀(k:Nat) (c:Code) {a a':AS} {h h':List Blk} {e:Exit} {w:Option Nat},exec C P ro k c a h=some (e,a',h',w)→Keeps h h'∧∀ d,d∈a'.df→d∈a.df∨h.length≤d
 | 0,_,_,_,_,_,_,_,hw=>by simp[exec] at hw
 | k+1,c,a,a',h,h',e,w,hw=>by
  have two:∀ {a1:AS} {h1:List Blk},(Keeps h h1∧∀ d,d∈a1.df→d∈a.df∨h.length≤d)→(Keeps h1 h'∧∀ d,d∈a'.df→d∈a1.df∨h1.length≤d)→Keeps h h'∧∀ d,d∈a'.df→d∈a.df∨h.length≤d:=by
   intro a1 h1 x y
   refine⟨x.1.trans y.1,fun d hd=>?_⟩
   rcases y.2 d hd with z|z
   ·exact x.2 d z
   ·exact .inr (Nat.le_trans x.1.1 z)
  have stay:∀ {a1:AS} {h1:List Blk},a1=a'→h1=h'→a=a1→h=h1→Keeps h h'∧∀ d,d∈a'.df→d∈a.df∨h.length≤d:=by
   rintro a1 h1 rfl rfl rfl rfl
   exact⟨Keeps.refl _,fun d hd=>.inl hd⟩
  cases c with
  | skip=>simp only[exec,Option.some.injEq,Prod.mk.injEq] at hw;exact stay hw.2.1 hw.2.2.1 rfl rfl
  | label _=>simp only[exec,Option.some.injEq,Prod.mk.injEq] at hw;exact stay hw.2.1 hw.2.2.1 rfl rfl
  | exit _=>simp only[exec,Option.some.injEq,Prod.mk.injEq] at hw;exact stay hw.2.1 hw.2.2.1 rfl rfl
  | ret=>simp only[exec,Option.some.injEq,Prod.mk.injEq] at hw;exact stay hw.2.1 hw.2.2.1 rfl rfl
  | seq x y =>
   simp only[exec] at hw
   split at hw
   ·cases hw
   ·rename_i e1 a1 h1 w1 hx
    have i1:=fR hC k x hx
    split at hw
    ·rw[Option.map_eq_some_iff] at hw;obtain⟨⟨e2,a2,h2,w2⟩,ha,ee⟩:=hw;simp only[Prod.mk.injEq] at ee;obtain⟨-,rfl,rfl,-⟩:=ee
     exact two i1 (fR hC k y ha)
    ·simp only[Option.some.injEq,Prod.mk.injEq] at hw;obtain⟨-,rfl,rfl,-⟩:=hw;exact i1
  | cond g x y =>
   simp only[exec] at hw
   repeat' split at hw
   all_goals first
    | cases hw;done
    | exact fR hC k _ hw
  | block id b =>
   simp only[exec] at hw
   split at hw
   ·cases hw
   ·rename_i e1 a1 h1 w1 hx
    have i1:=fR hC k b hx
    repeat' split at hw
    all_goals (simp only[Option.some.injEq,Prod.mk.injEq] at hw;obtain⟨-,rfl,rfl,-⟩:=hw;exact i1)
  | loop b =>
   simp only[exec] at hw
   split at hw
   ·cases hw
   ·rename_i e1 a1 h1 w1 hx
    have i1:=fR hC k b hx
    split at hw
    ·rw[Option.map_eq_some_iff] at hw;obtain⟨⟨e2,a2,h2,w2⟩,ha,ee⟩:=hw;simp only[Prod.mk.injEq] at ee;obtain⟨-,rfl,rfl,-⟩:=ee
     exact two i1 (fR hC k (.loop b) ha)
    ·simp only[Option.some.injEq,Prod.mk.injEq] at hw;obtain⟨-,rfl,rfl,-⟩:=hw;exact i1
  | region id ops d =>
   simp only[exec,uM] at hw
   repeat' split at hw
   all_goals first
    | cases hw;done
    | skip
   all_goals (rw[Option.map_eq_some_iff] at hw;obtain⟨⟨t2,h2,w2⟩,ha,ee⟩:=hw;simp only[Prod.mk.injEq] at ee;obtain⟨-,rfl,rfl,-⟩:=ee;refine⟨?_,fun d hd=>.inl hd⟩;first|exact Fu hC ha|exact pS hC _ ha)
  | rangeFunc g ps as b=>simp only[exec] at hw;exact Fd hC hw
  | _=>simp[exec] at hw
theorem oD{lo:Nat}:∀(ds:List Nat) {h h':List Blk} {w:Option Nat},bF ds h=some (h',w)→(∀ d,d∈ds→lo≤d)→h'.length=h.length∧∀ m,m<lo→h'[m]?=h[m]?
 | [],h,h',w,hw,_=>by
  simp only[bF,Option.some.injEq,Prod.mk.injEq] at hw
  obtain⟨rfl,-⟩:=hw
  exact⟨rfl,fun _ _=>rfl⟩
 | n::ds,h,h',w,hw,hd=>by
  simp only[bF] at hw
  split at hw
  ·rw[Option.map_eq_some_iff] at hw;obtain⟨⟨h2,w2⟩,ha,ee⟩:=hw;simp only[Prod.mk.injEq] at ee;obtain⟨rfl,-⟩:=ee
   obtain⟨i1,i2⟩:=oD ds ha (fun d h=>hd d (List.mem_cons_of_mem _ h))
   refine⟨by rw[i1];simp,fun m hm=>?_⟩
   rw[i2 m hm,List.getElem?_set_ne]
   have:=hd n List.mem_cons_self
   omega
  ·cases hw
theorem Fp(hC:CKeeps C){k:Nat}{f:FuncId}{args:List Value}{h h':List Blk}{v:Value}{w:Option Nat}(hw:hU C P k f args h=some (v,h',w)):Keeps h h':=by
 unfold hU at hw
 have key:∀ {fd:Func} {a1:AS} {h1:List Blk} {w1:Option Nat},(Keeps h h1∧∀ d,d∈a1.df→d∈([]:List Nat)∨h.length≤d)→jL P fd h.length h a1 h1 w1=some (v,h',w)→Keeps h h':=by
  intro fd a1 h1 w1 x hr
  unfold jL at hr
  split at hr
  ·rename_i h2 w2 ht
   obtain⟨t1,t2⟩:=oD (lo:=h.length) _ ht (fun d hd=>by rcases x.2 d hd with z|z;cases z;exact z)
   have k2:Keeps h h2:=⟨by rw[t1];exact x.1.1,fun m hm=>by rw[t2 m (List.getElem?_eq_some_iff.1 hm).1];exact x.1.2 m hm⟩
   repeat' split at hr
   all_goals first
    | cases hr;done
    | (simp only[Option.some.injEq,Prod.mk.injEq] at hr;obtain⟨-,rfl,-⟩:=hr;first|exact Keeps.refl _|exact k2)
  ·cases hr
 split at hw
 ·cases hw
 ·split at hw
  ·cases hw
  ·split at hw
   ·rename_i hx
    have i1:=fR hC k _ hx
    split at hw
    ·exact key i1 hw
    ·exact key i1 hw
    ·cases hw
   ·cases hw
theorem Fk(hC:CKeeps C){k l:Nat}{args:List Value}{h h':List Blk}{v:Value}{w:Option Nat}(hw:kY C P k l args h=some (v,h',w)):Keeps h h':=by
 unfold kY at hw
 have key:∀ {j:Option Code} {h1:List Blk} {w1:Option Nat},Keeps h h1→kD l j h1 w1=some (v,h',w)→Keeps h h':=by
  intro j h1 w1 x hr
  unfold kD at hr
  split at hr
  ·rename_i hl
   simp only[Option.some.injEq,Prod.mk.injEq] at hr
   obtain⟨-,rfl,-⟩:=hr
   exact x.trans (Keeps.set (by rw[hl];simp))
  ·cases hr
 split at hw
 ·split at hw
  ·split at hw
   ·rename_i hx
    have i1:=(fR hC k _ hx).1
    split at hw
    ·split at hw
     ·rename_i hl
      have i2:∀ b,Keeps h (_:List Blk):=fun b=>i1.trans (Keeps.set (n:=l) (b:=b) (by rw[hl];simp))
      split at hw
      ·split at hw
       ·rename_i hy
        have i3:=(i2 _).trans (fR hC k _ hy).1
        split at hw
        ·exact key i3 hw
        ·exact key i3 hw
        ·exact key i3 hw
        ·cases hw
       ·cases hw
      ·cases hw
     ·cases hw
    ·cases hw
   ·cases hw
  ·cases hw
 ·cases hw
theorem wR(k:Nat):∀ d,CKeeps (ctx P k d)
 | 0=>by
  refine⟨fun h=>?_,fun h=>?_⟩
  ·exact (nomatch (show none=some _ from h))
  ·exact (nomatch (show none=some _ from h))
 | d+1=>⟨fun h=>Fp (wR k d) h,fun h=>Fk (wR k d) h⟩
theorem pZ:CKeeps (lim P):=by
 refine⟨fun h=>?_,fun h=>?_⟩
 ·rw[lim_call] at h
  obtain⟨N,hk⟩:=h
  exact (wR N N).call (hk N N (Nat.le_refl _) (Nat.le_refl _))
 ·rw[lim_round] at h
  obtain⟨N,hk⟩:=h
  exact (wR N N).round (hk N N (Nat.le_refl _) (Nat.le_refl _))
end
end Go.Rex
namespace Go.Rex
open Go.RowKit
section
variable {Fz Fz':Nat→Prop} {h0 h h':List Blk} {L:Nat→LI} {s s':TS} {tm:List Value}
theorem VL.cells{p:TV}{x:Value}(hp:VL Fz h L p x)(hF:∀ n eb cs,Fz n→h[n]?=some (.cells eb cs)→Fz' n∧h'[n]?=some (.cells eb cs)):VL Fz' h' L p x:=by
 induction hp with
 | Z L x=>exact .Z L x
 | v L x hx=>exact .v L x hx
 | agg L l l' hl ha ih=>exact .agg L l l' hl ih
 | tuple L l l' hl ha ih=>exact .tuple L l l' hl ih
 | func L f a b a' b' la ha lb hb iha ihb=>exact .func L f a b a' b' la iha lb ihb
 | nillist L es=>exact .nillist L es
 | vague L es=>exact .vague L es
 | list L es rows n o c cs eb hn hb he hw hc hle ha ih=>exact .list L es rows n o c cs eb (hF n _ _ hn hb).1 (hF n _ _ hn hb).2 he hw hc hle ih
 | fptr L vb row off n base es cs hn hb hv hle ha ih=>exact .fptr L vb row off n base es cs (hF n _ _ hn hb).1 (hF n _ _ hn hb).2 hv hle ih
 | lptr L n r o nm ok hn=>exact .lptr L n r o nm ok hn
 | lslnil L n ok hn=>exact .lslnil L n ok hn
 | lsl L n o len nm ok hn hle=>exact .lsl L n o len nm ok hn hle
theorem VLs.cells{l:List TV}{l':List Value}(hs:VLs Fz h L l l')(hF:∀ n eb cs,Fz n→h[n]?=some (.cells eb cs)→Fz' n∧h'[n]?=some (.cells eb cs)):VLs Fz' h' L l l':=
 ⟨hs.len,fun i p x hp hx=>(hs.at' i p x hp hx).cells hF⟩
theorem Xq{g:Nat}(h:g<NG):∃ es c,GH[g]?=some (.cells es c):=by
 have h2:g<ghCells.length:=by simpa [NG,GH] using h
 exact⟨_,_,by unfold GH;rw[List.getElem?_map,List.getElem?_eq_getElem h2];rfl⟩
theorem FZ.cells(hf:FZ Fz h)(hF:∀ n eb cs,Fz n→h[n]?=some (.cells eb cs)→Fz' n∧h'[n]?=some (.cells eb cs))(hl:∀ n,Fz' n→n<h'.length):FZ Fz' h':=
 ⟨hl,fun g hg=>by
  obtain⟨es,c,e⟩:=Xq hg
  obtain⟨h1,h2⟩:=hF g es c (hf.gl g hg).1 ((hf.gl g hg).2.trans e)
  exact⟨h1,h2.trans e.symm⟩⟩
theorem St.unmark{m:Nat}(hs:St h0 Fz L s tm h)(hm:∀ es cs,h[m]?≠some (.cells es cs))(hlo:h0.length≤m):St h0 (fun n=>Fz n∧n≠m) L s tm (h.set m .dead):=by
 have hF:∀ n eb cs,Fz n→h[n]?=some (.cells eb cs)→(Fz n∧n≠m)∧(h.set m .dead)[n]?=some (.cells eb cs):=fun n eb cs hf hn=>by
  have hne:n≠m:=by rintro rfl;exact hm eb cs hn
  exact⟨⟨hf,hne⟩,by rw[List.getElem?_set_ne (Ne.symm hne)];exact hn⟩
 have up:∀ nm es cs,h[nm]?=some (Blk.cells es cs)→(h.set m .dead)[nm]?=some (Blk.cells es cs):=fun nm es cs hn=>by
  have hne:nm≠m:=by rintro rfl;exact hm es cs hn
  rw[List.getElem?_set_ne (Ne.symm hne)];exact hn
 refine⟨hs.tmr.cells hF,fun n b hb=>?_,hs.dom,hs.inj,hs.fz.cells hF fun n hn=>by simpa using hs.fz n hn.1,?_⟩
 ·have h1:=hs.blk n b hb
  cases b with
  | dead=>trivial
  | rows es rows =>
   obtain⟨a1,a2,a3,a4,a5⟩:=h1
   refine⟨a1,a2,a3,a4,?_⟩
   rcases a5 with a5|⟨nm,cs,b1,b2,b3,b4,b5⟩
   ·exact .inl a5
   ·exact .inr ⟨nm,cs,b1,b2,fun hf=>b3 hf.1,up nm _ _ b4,b5.cells hF⟩
  | var row =>
   obtain⟨a1,nm,cs,b1,b2,b3,b4,b5⟩:=h1
   exact⟨a1,nm,cs,b1,b2,fun hf=>b3 hf.1,up nm _ _ b4,b5.cells hF⟩
 ·obtain⟨t,rfl⟩:=hs.ext
  exact⟨t.set (m-h0.length) .dead,by rw[List.set_append_right _ _ hlo]⟩
def Mk(lo:Nat)(df:List Nat)(h:List Blk):Prop:=df.Nodup∧∀ d,d∈df→lo≤d∧h[d]?=some Blk.dfr
theorem Mk.nil{lo:Nat}{h:List Blk}:Mk lo [] h:=⟨List.nodup_nil,fun d hd=>by simp at hd⟩
theorem Mk.keeps{lo:Nat}{df:List Nat}(hm:Mk lo df h)(hk:Keeps h h'):Mk lo df h':=⟨hm.1,fun d hd=>⟨(hm.2 d hd).1,hk.2 d (hm.2 d hd).2⟩⟩
theorem St.take:∀(df:List Nat) {Fz:Nat→Prop} {h:List Blk},St h0 Fz L s tm h→Mk h0.length df h →
 ∃ h2 w,bF df h=some (h2,w)∧wge w h0.length=true∧St h0 (fun n=>Fz n∧n ∉ df) L s tm h2
 | [],Fz,h,hs,_=>by
  refine⟨h,none,rfl,rfl,?_⟩
  have e:(fun n=>Fz n∧n ∉ ([]:List Nat))=Fz:=by funext n;simp
  rw[e]
  exact hs
 | d::df,Fz,h,hs,hm=>by
  obtain⟨h1,h2⟩:=hm
  obtain⟨k1,k2⟩:=List.nodup_cons.1 h1
  obtain⟨m1,m2⟩:=h2 d List.mem_cons_self
  have hs1:=hs.unmark (m:=d) (fun es cs=>by rw[m2];simp) m1
  obtain⟨h3,w,t1,t2,t3⟩:=St.take df hs1 ⟨k2,fun e he=>⟨(h2 e (List.mem_cons_of_mem _ he)).1,by
   rw[List.getElem?_set_ne]
   ·exact (h2 e (List.mem_cons_of_mem _ he)).2
   ·rintro rfl;exact k1 he⟩⟩
  refine⟨h3,wmin (some d) w,?_,?_,?_⟩
  ·simp only[bF,m2,t1,Option.map_some]
  ·exact jD (by simpa [wge] using m1) t2
  ·have e : (fun n => (Fz n ∧ n ≠ d) ∧ n ∉ df) = (fun n => Fz n ∧ n ∉ d :: df) := by
     funext n
     simp[and_assoc]
   rw[← e]
   exact t3
end
section
variable {C:Ctx} {P:Program} {s s':TS} {Q Q':Exit→TS→Prop}
def TM(C:Ctx)(P:Program)(c:Code)(s:TS)(Q:Exit→TS→Prop):Prop:=
 ∀ h0 Fz L tm df h,St h0 Fz L s tm h→Mk h0.length df h→XP C P none h0.length c ⟨tm,df⟩ h (fun e a' h'=>Mk h0.length a'.df h'∧∃ s' Fz' L',Q e s'∧Grow h0 Fz Fz' h h'∧St h0 Fz' L' s' a'.tm h')
theorem TM.of(hC:CKeeps C){c:Code}(hn:dW c=true)(hx:TX C P c s Q):TM C P c s Q:=by
 intro h0 Fz L tm df h hs hm
 obtain⟨K,e,a',h',wr,h1,h2,hd,r⟩:=hx h0 Fz L tm h hs
 have hp:=fS (C:=C) (P:=P) (ro:=none) K c tm df h hn
 rw[h1,Option.map_some] at hp
 exact⟨K,e,⟨a'.tm,df⟩,h',wr,hp,h2,hm.keeps (fR hC K c h1).1,r⟩
theorem TM.weak{c:Code}(hw:Wk s s')(hx:TM C P c s' Q):TM C P c s Q:=by
 intro h0 Fz L tm df h hs hm
 obtain⟨F1,L1,g1,s1⟩:=hw h0 Fz L tm h hs
 refine (hx h0 F1 L1 tm df h s1 hm).mono ?_
 rintro e a' h' ⟨hd,s',F',L',q,g,hs'⟩
 exact⟨hd,s',F',L',q,g1.trans g,hs'⟩
theorem TM.seq{x y:Code}(hx:TM C P x s (Eg (fun s=>TM C P y s Q) Q)):TM C P (.seq x y) s Q:=by
 intro h0 Fz L tm df h hs hm
 refine XP.seq ((hx h0 Fz L tm df h hs hm).mono ?_)
 rintro e ⟨tm',df'⟩ h' ⟨hd,s',F',L',q,g,hs'⟩
 cases e with
 | normal =>
  refine Vw ?_
  refine (q h0 F' L' tm' df' h' hs' hd).mono ?_
  rintro e a' h' ⟨hd,s',F',L',q,g',hs'⟩
  exact⟨hd,s',F',L',q,g.trans g',hs'⟩
 | _=>exact⟨hd,s',F',L',q,g,hs'⟩
theorem TM.block{id:Nat}{b:Code}(hx:TM C P b s (mT id Q)):TM C P (.block id b) s Q:=by
 intro h0 Fz L tm df h hs hm
 refine XP.block ((hx h0 Fz L tm df h hs hm).mono ?_)
 rintro e ⟨tm',df'⟩ h' ⟨hd,s',F',L',q,g,hs'⟩
 cases e with
 | exit id' =>
  simp only[mT] at q
  simp only[Dt]
  split at q
  ·rename_i hi;rw[if_pos hi];exact⟨hd,s',F',L',q,g,hs'⟩
  ·rename_i hi;rw[if_neg hi];exact⟨hd,s',F',L',q,g,hs'⟩
 | _=>exact⟨hd,s',F',L',q,g,hs'⟩
theorem TM.cond_true{c:Operand}{a b:Code}(ho:lY c=true)(hc:tev s.tm c = .v (.bool true))(hx:TM C P a s Q):TM C P (.cond c a b) s Q:=by
 intro h0 Fz L tm df h hs hm
 have:=dU hs.fz hs.tmr c
 rw[hc] at this
 have hb:=this.bool_inv
 obtain⟨K,e,a',h',w1,hx1,r⟩:=hx h0 Fz L tm df h hs hm
 exact⟨K+1,e,a',h',w1,by simp only[exec,ho,if_true,hb,hx1],r⟩
theorem TM.cond_false{c:Operand}{a b:Code}(ho:lY c=true)(hc:tev s.tm c = .v (.bool false))(hx:TM C P b s Q):TM C P (.cond c a b) s Q:=by
 intro h0 Fz L tm df h hs hm
 have:=dU hs.fz hs.tmr c
 rw[hc] at this
 have hb:=this.bool_inv
 obtain⟨K,e,a',h',w1,hx1,r⟩:=hx h0 Fz L tm df h hs hm
 exact⟨K+1,e,a',h',w1,by simp only[exec,ho,if_true,hb,hx1],r⟩
theorem Spec.fnM{f:FuncId}{fd:Func}{c:Code}{args:List TV}{r:TS}(hf:P.funcs[f]?=some fd)(hb:fd.body=some c){tm0:List TV}(htm:args++List.replicate (fd.ntmps-args.length) TV.Z=tm0)
 (hx:TM (lim P) P c ⟨tm0,[]⟩ (fun e s=>(e = .normal∨e = .ret)∧∃ ps,pV P s.hp s.tm fd.results.toList=some ps∧Wk ⟨[Xp ps],s.hp⟩ r)) (hcov:cov r=true):Spec (lim P) f args r:=by
 intro Fz h vs hfz hargs
 subst htm
 have hs:St h Fz noL ⟨args++List.replicate (fd.ntmps-args.length) TV.Z,[]⟩ (vs++List.replicate (fd.ntmps-vs.length) undef) h:=by
  refine⟨?_,fun n b hb=>by simp at hb,fun n hn=>by simp[noL] at hn,fun n n' b b' nm hb=>by simp at hb,hfz,Ext.refl h⟩
  refine VLs.append hargs ?_
  rw[hargs.len]
  exact VLs.replicate (.Z noL undef) _
 obtain⟨K,e,a1,h1,w1,hexec,hw,hdf,s1,F1,L1,⟨he,ps,hps,hwk⟩,g1,hs1⟩:=hx h Fz noL _ [] h hs Mk.nil
 obtain⟨h2,wt,ht,hwt,hst⟩:=hs1.take a1.df hdf
 obtain⟨vs1,hres,hvs1⟩:=oQ (P:=P) hst _ ps hps
 have hs2:St h (fun n=>F1 n∧n ∉ a1.df) L1 ⟨[Xp ps],s1.hp⟩ [iZ vs1] h2:=⟨VLs.cons (Ry hvs1) VLs.nil,hst.blk,hst.dom,hst.inj,hst.fz,hst.ext⟩
 have g1':Grow h Fz (fun n=>F1 n∧n ∉ a1.df) h h2:=⟨fun n hn=>⟨g1.1 n hn,fun hd=>by have:=(hdf.2 n hd).1;have:=hfz n hn;omega⟩,fun n hn=>g1.2 n hn.1,fun n hn=>((oD a1.df ht (fun d hd=>(hdf.2 d hd).1)).2 n (hfz n hn)).trans (g1.3 n hn)⟩
 obtain⟨F2,L2,g2,hs3⟩:=hwk h _ L1 _ h2 hs2
 have hm:wge (wmin w1 wt) h.length=true:=jD hw hwt
 by_cases hcl:bN (iZ vs1)=true
 ·obtain⟨L4,hs4⟩:=hs3.clean hcl hcov hfz
  refine⟨iZ vs1,h,Fz,L4,nD (K:=K) ?_,Grow.refl _ _,hs4⟩
  unfold hU
  simp only[hf,hb,hexec]
  have hend:jL P fd h.length h a1 h1 w1=some (iZ vs1,h,none):=by
   simp only[jL,ht,hres,hcl,if_true,hm]
  rcases he with rfl|rfl<;>exact hend
 ·refine⟨iZ vs1,h2,F2,L2,nD (K:=K) ?_,g1'.trans g2,hs3⟩
  unfold hU
  simp only[hf,hb,hexec]
  have hend:jL P fd h.length h a1 h1 w1=some (iZ vs1,h2,none):=by
   simp[jL,ht,hres,hcl,hm]
  rcases he with rfl|rfl<;>exact hend
end
end Go.Rex
namespace Go.Rex
open Go.RowKit
structure Out(X:Type) where
 lo:Nat
 base:Nat
 R:X→(Nat→Prop)→List Blk→Prop
 hlo:lo≤base
 stay:∀ {x:X} {Fz Fz':Nat→Prop} {h h':List Blk},R x Fz h→Ext h h'→Grow h Fz Fz' h h'→(FZ Fz' h')→R x Fz' h'
theorem Ec{wr:Option Nat}{k j:Nat}(h:wge wr k=true)(hj:j≤k):wge wr j=true:=by
 cases wr with
 | none=>rfl
 | some n=>simp[wge] at h ⊢;omega
theorem oX{a b:Option Nat}{k:Nat}(h:wge (wmin a b) k=true):wge a k=true∧wge b k=true:=by
 cases a<;>cases b<;>simp_all [wge,wmin]<;>omega
section
variable {E X:Type} {C:Ctx} {P:Program} {O:Out X}
def Yields(C:Ctx)(O:Out X)(l:Nat)(enc:E→List TV)(H:E→X→Option (Bool×X)):Prop:=
 ∀ x Fz h e as b x',O.R x Fz h→(FZ Fz h)→O.base≤h.length→VLs Fz h noL (enc e) as→H e x=some (b,x') →
  ∃ h' w Fz',C.round l as h=some (.bool b,h',w)∧wge w O.lo=true∧wge w O.base=false∧h.length≤h'.length∧(∀ n,Fz n→Fz' n)∧(∀ n,Fz n→h'[n]?=h[n]?)∧(FZ Fz' h')∧O.R x' Fz' h'
def TI(C:Ctx)(P:Program)(O:Out X)(c:Code)(tm:List TV)(x:X)(Q:Exit→List TV→X→Prop):Prop:=
 ∀ Fz vm h,(FZ Fz h)→O.base≤h.length→VLs Fz h noL tm vm→O.R x Fz h →
  ∃ K e a' h' wr,exec C P none K c ⟨vm,[]⟩ h=some (e,a',h',wr)∧wge wr O.lo=true∧a'.df=[]∧∃ tm' x' Fz',(wge wr O.base=true→x'=x)∧Q e tm' x'∧h.length≤h'.length∧(FZ Fz' h')∧VLs Fz' h' noL tm' a'.tm∧O.R x' Fz' h'
variable {tm tm':List TV} {s s':TS} {x:X} {Q Q':Exit→List TV→X→Prop} {c:Code}
theorem Dq{Fz:Nat→Prop}{vm:List Value}{h:List Blk}(hz:FZ Fz h)(hv:VLs Fz h noL tm vm):St h Fz noL ⟨tm,[]⟩ vm h:=
 ⟨hv,fun n b hb=>by simp at hb,fun n hn=>by simp[noL] at hn,fun n n' b b' nm hb=>by simp at hb,hz,Ext.refl h⟩
theorem Df{h0 h:List Blk}{Fz:Nat→Prop}{L:Nat→LI}{vm:List Value}(hs:St h0 Fz L ⟨tm,[]⟩ vm h):VLs Fz h noL tm vm:=
 hs.tmr.own (fun n hn=>by have:=hs.dom n hn;simp at this)
theorem TI.of{Q:Exit→List TV→X→Prop}(hx:TX C P c ⟨tm,[]⟩ (fun e s=>∃ tm',Wk s ⟨tm',[]⟩∧Q e tm' x)):TI C P O c tm x Q:=by
 intro Fz vm h hz hb hv hR
 obtain⟨K,e,a',h',wr,h1,h2,hd,s1,F1,L1,⟨tm',hw,q⟩,g1,hs1⟩:=hx h Fz noL vm h (Dq hz hv)
 obtain⟨F2,L2,g2,hs2⟩:=hw h F1 L1 a'.tm h' hs1
 exact⟨K,e,a',h',wr,h1,Ec h2 (Nat.le_trans O.hlo hb),hd,tm',x,F2,fun _=>rfl,q,hs2.ext.le,hs2.fz,Df hs2,O.stay hR hs2.ext (g1.trans g2) hs2.fz⟩
theorem TI.weak(hw:Wk ⟨tm,[]⟩ ⟨tm',[]⟩)(hx:TI C P O c tm' x Q):TI C P O c tm x Q:=by
 intro Fz vm h hz hb hv hR
 obtain⟨F2,L2,g2,hs2⟩:=hw h Fz noL vm h (Dq hz hv)
 exact hx F2 vm h hs2.fz hb (Df hs2) (O.stay hR (Ext.refl h) g2 hs2.fz)
def Ui(next:List TV→X→Prop)(Q:Exit→List TV→X→Prop):Exit→List TV→X→Prop
 | .normal,s,x=>next s x
 | e,s,x=>Q e s x
theorem TI.seq{a b:Code}(hx:TI C P O a tm x (Ui (fun s x=>TI C P O b s x Q) Q)):TI C P O (.seq a b) tm x Q:=by
 intro Fz vm h hz hb hv hR
 obtain⟨K,e,⟨vm',df'⟩,h',w1,hx1,hw,hd,s',x',F',hx',q,l1,f1,hs',r'⟩:=hx Fz vm h hz hb hv hR
 obtain rfl:df'=[]:=hd
 cases e with
 | normal =>
  obtain⟨K2,e2,a2,h2,w2,hy,hw2,hd2,s2,x2,F2,hx2,q2,l2,r2⟩:=q F' vm' h' f1 (Nat.le_trans hb l1) hs' r'
  refine⟨max K K2+1,e2,a2,h2,wmin w1 w2,?_,jD hw hw2,hd2,s2,x2,F2,fun hg=>?_,q2,Nat.le_trans l1 l2,r2⟩
  ·simp only[exec]
   rw[jU (Nat.le_max_left K K2) hx1]
   simp only
   rw[jU (Nat.le_max_right K K2) hy]
   rfl
  ·rw[hx2 (oX hg).2,hx' (oX hg).1]
 | _=>exact⟨K+1,_,_,h',w1,by simp only[exec,hx1],hw,rfl,s',x',F',hx',q,l1,f1,hs',r'⟩
def tU(id:Nat)(Q:Exit→List TV→X→Prop):Exit→List TV→X→Prop
 | .exit id',s,x=>if id'=id then Q .normal s x else Q (.exit id') s x
 | e,s,x=>Q e s x
theorem TI.block{id:Nat}{b:Code}(hx:TI C P O b tm x (tU id Q)):TI C P O (.block id b) tm x Q:=by
 intro Fz vm h hz hb hv hR
 obtain⟨K,e,a',h',w1,hx1,hw,hd,s',x',F',hx',q,r⟩:=hx Fz vm h hz hb hv hR
 cases e with
 | exit id' =>
  by_cases hid:id'=id
  ·refine⟨K+1,.normal,a',h',w1,by simp only[exec,hx1,if_pos hid],hw,hd,s',x',F',hx',?_,r⟩
   simpa only[tU,if_pos hid] using q
  ·refine⟨K+1,.exit id',a',h',w1,by simp only[exec,hx1,if_neg hid],hw,hd,s',x',F',hx',?_,r⟩
   simpa only[tU,if_neg hid] using q
 | _=>exact⟨K+1,_,a',h',w1,by simp only[exec,hx1],hw,hd,s',x',F',hx',q,r⟩
theorem aB2{next:List TV→X→Prop}(hq:next tm x):Ui next Q .normal tm x:=hq
theorem aBN{next:List TV→X→Prop}{id:Nat}(hq:Q (.exit id) tm x):Ui next Q (.exit id) tm x:=hq
theorem Yn{id:Nat}(hq:Q .normal tm x):tU id Q .normal tm x:=hq
theorem Yw{id:Nat}(hq:Q .normal tm x):tU id Q (.exit id) tm x:=by simpa only[tU,if_true] using hq
theorem TI.skip(hq:Q .normal tm x):TI C P O .skip tm x Q:=TI.of (TX.skip ⟨tm,Wk.refl _,hq⟩)
theorem TI.exit{id:Nat}(hq:Q (.exit id) tm x):TI C P O (.exit id) tm x Q:=TI.of (TX.exit ⟨tm,Wk.refl _,hq⟩)
theorem TI.cond_true{c:Operand}{a b:Code}(ho:lY c=true)(hc:tev tm c = .v (.bool true))(hx:TI C P O a tm x Q):TI C P O (.cond c a b) tm x Q:=by
 intro Fz vm h hz hb hv hR
 have:=dU hz hv c
 rw[hc] at this
 have hb':=this.bool_inv
 obtain⟨K,e,a',h',w1,hx1,r⟩:=hx Fz vm h hz hb hv hR
 exact⟨K+1,e,a',h',w1,by simp only[exec,ho,if_true,hb',hx1],r⟩
theorem TI.cond_false{c:Operand}{a b:Code}(ho:lY c=true)(hc:tev tm c = .v (.bool false))(hx:TI C P O b tm x Q):TI C P O (.cond c a b) tm x Q:=by
 intro Fz vm h hz hb hv hR
 have:=dU hz hv c
 rw[hc] at this
 have hb':=this.bool_inv
 obtain⟨K,e,a',h',w1,hx1,r⟩:=hx Fz vm h hz hb hv hR
 exact⟨K+1,e,a',h',w1,by simp only[exec,ho,if_true,hb',hx1],r⟩
theorem TI.loopE{σ ε:Type}{b:Code}{step:σ→Option (σ ⊕ ε)}{y:σ}{e:ε}(hr:run step y=some e)(I:σ→List TV×X)(J:ε→Exit×List TV×X)
 (hI:∀ y y',step y=some y'→match y' with
  | .inl y'=>TI C P O b (I y).1 (I y).2 (fun ex st z=>ex = .normal∧Wk ⟨st,[]⟩ ⟨(I y').1,[]⟩∧z=(I y').2)
  | .inr e=>TI C P O b (I y).1 (I y).2 (fun ex st z=>ex=(J e).1∧Wk ⟨st,[]⟩ ⟨(J e).2.1,[]⟩∧z=(J e).2.2))
 (hne:∀ e,(J e).1 ≠ .normal) (hq:Q (J e).1 (J e).2.1 (J e).2.2):TI C P O (.loop b) (I y).1 (I y).2 Q:=by
 have hr':=run_iff.1 hr
 clear hr
 induction hr' with
 | @stop y e h =>
  intro Fz vm hh hz hb hv hR
  obtain⟨K,ex,a',h',wr,h1,h2,hd,s',x',F',hx',⟨he,hw,rfl⟩,l1,f1,hs',hR'⟩:=hI _ _ h Fz vm hh hz hb hv hR
  obtain⟨F2,L2,g2,hs2⟩:=hw h' F' noL a'.tm h' (Dq f1 hs')
  have hn:=hne e
  rw[← he] at hn hq
  refine⟨K+1,ex,a',h',wr,?_,h2,hd,(J e).2.1,_,F2,hx',hq,l1,hs2.fz,Df hs2,O.stay hR' (Ext.refl _) g2 hs2.fz⟩
  simp only[exec,h1]
  try (cases ex with
  | normal=>exact absurd rfl hn
  | _=>rfl)
 | @next y y1 e h hr ih =>
  intro Fz vm hh hz hb hv hR
  obtain⟨K,ex,⟨vm',df'⟩,h',wr,h1,h2,hd,s',x',F',hx',⟨rfl,hw,rfl⟩,l1,f1,hs',hR'⟩:=hI _ _ h Fz vm hh hz hb hv hR
  obtain rfl:df'=[]:=hd
  obtain⟨F2,L2,g2,hs2⟩:=hw h' F' noL vm' h' (Dq f1 hs')
  obtain⟨K2,ex,a2,h2',wr2,q1,q2,qd,s3,x3,F3,hx3,q,l3,r⟩:=ih hq F2 vm' h' hs2.fz (Nat.le_trans hb l1) (Df hs2) (O.stay hR' (Ext.refl _) g2 hs2.fz)
  refine⟨max K K2+1,ex,a2,h2',wmin wr wr2,?_,jD h2 q2,qd,s3,x3,F3,fun hg=>?_,q,Nat.le_trans l1 l3,r⟩
  ·simp only[exec]
   rw[jU (Nat.le_max_left K K2) h1]
   simp only
   rw[jU (Nat.le_max_right K K2) q1]
   rfl
  ·rw[hx3 (oX hg).2,hx' (oX hg).1]
theorem TI.loopW{σ ε:Type}{b:Code}{step:σ→Option (σ ⊕ ε)}{y:σ}{e:ε}(hr:run step y=some e)(I:σ→List TV×X)(J:ε→Exit×List TV×X)(hw:Wk ⟨tm,[]⟩ ⟨(I y).1,[]⟩)(hx:(I y).2=x)
 (hI:∀ y y',step y=some y'→TI C P O b (I y).1 (I y).2 (fun ex st z=>match y' with
  | .inl y'=>ex = .normal∧Wk ⟨st,[]⟩ ⟨(I y').1,[]⟩∧z=(I y').2
  | .inr e=>ex=(J e).1∧Wk ⟨st,[]⟩ ⟨(J e).2.1,[]⟩∧z=(J e).2.2))
 (hne:∀ e,(J e).1 ≠ .normal) (hq:Q (J e).1 (J e).2.1 (J e).2.2):TI C P O (.loop b) tm x Q:=by
 subst hx
 refine TI.weak hw (TI.loopE hr I J (fun y y' h=>?_) hne hq)
 have:=hI y y' h
 cases y' with
 | inl y'=>exact this
 | inr e=>exact this
theorem mD{ops:Array Oper}:∀(l1 l2:List Oper) (tm:List Value) (h:List Blk) {tm1 tm2:List Value} {h1 h2:List Blk} {w1 w2:Option Nat},cK C P ops l1 tm h=some (tm1,h1,w1)→cK C P ops l2 tm1 h1=some (tm2,h2,w2)→∃ w,cK C P ops (l1++l2) tm h=some (tm2,h2,w)∧∀ k,wge w k=true↔wge w1 k=true∧wge w2 k=true
 | [],l2,tm,h,tm1,tm2,h1,h2,w1,w2,a,b=>by
  simp only[cK,Option.some.injEq,Prod.mk.injEq] at a
  obtain⟨rfl,rfl,rfl⟩:=a
  exact⟨w2,b,fun k=>⟨fun hk=>⟨rfl,hk⟩,fun hk=>hk.2⟩⟩
 | o::l1,l2,tm,h,tm1,tm2,h1,h2,w1,w2,a,b=>by
  simp only[cK,List.cons_append] at a ⊢
  split at a
  ·rename_i hw
   rw[if_pos hw]
   split at a
   ·rename_i v hv
    exact mD l1 l2 _ _ a b
   ·rename_i hv
    split at a
    ·rename_i v h3 w3 hx
     rw[Option.map_eq_some_iff] at a
     obtain⟨⟨t4,h4,w4⟩,a4,e4⟩:=a
     simp only[Prod.mk.injEq] at e4
     obtain⟨rfl,rfl,rfl⟩:=e4
     obtain⟨w,c1,c2⟩:=mD l1 l2 _ _ a4 b
     refine⟨wmin w3 w,by rw[c1];rfl,fun k=>⟨fun hk=>?_,fun hk=>?_⟩⟩
     ·obtain⟨k1,k2⟩:=oX hk
      obtain⟨k3,k4⟩:=(c2 k).1 k2
      exact⟨jD k1 k3,k4⟩
     ·obtain⟨k1,k2⟩:=oX hk.1
      exact jD k1 ((c2 k).2 ⟨k2,hk.2⟩)
    ·cases a
  ·rename_i hw
   rw[if_neg hw]
   exact mD l1 l2 _ _ a b
structure Back(o:Oper)(f:Operand)(args:List Operand)(dst:Option Tmp):Prop where
 eq:∃(tys:Array TypeId) (ty:TypeId) (pos:String) (aft:Array Edge) (gd:Option (Nat×Bool)),o={ dst:=dst,op:=.call { callee:=.value f,args:=⟨args⟩,argTypes:=tys },type:=ty,pos:=pos,after:=aft,guard:=gd }
theorem TI.yield{id:Nat}{ops:Array Oper}{lo l1 l2:List Oper}{o:Oper}{f:Operand}{args:List Operand}{dst:Option Tmp}{l:Nat}{enc:E→List TV}{H:E→X→Option (Bool×X)}(k:Nat)(hY:Yields C O l enc H)
 (hl:ops.toList=lo) (e1:lo.take k=l1) (e2:lo.drop k=o::l2) (ho:Back o f args dst) (hreg:Nu lo=true)
 (h1:TO C P ops l1 ⟨tm,[]⟩ (fun s1=>∃ tm1,Wk s1 ⟨tm1,[]⟩∧((∃ e b x',twant ops tm1 o=some true∧tev tm1 f = .v (.func (.yield l) #[] #[])∧args.map (tev tm1)=enc e∧H e x=some (b,x') ∧
  TO C P ops l2 ⟨tput tm1 dst (.v (.bool b)),[]⟩ (fun s2=>∃ tm2,Wk s2 ⟨tm2,[]⟩∧Q .normal tm2 x')) ∨
  (twant ops tm1 o=some false∧TO C P ops l2 ⟨tput tm1 dst (.tuple []),[]⟩ (fun s2=>∃ tm2,Wk s2 ⟨tm2,[]⟩∧Q .normal tm2 x))))):TI C P O (.region id ops false) tm x Q:=by
 subst hl
 have hl:ops.toList=l1++o::l2:=by rw[← e1,← e2,List.take_append_drop]
 rw[hl] at hreg
 obtain⟨tys,ty,pos,aft,gd,rfl⟩:=ho.eq
 intro Fz vm h hz hb hv hR
 obtain⟨vm1,hh1,w1,r1,wg1,s1,F0,L0,⟨tm1,hw1,hc⟩,g0,hs0⟩:=h1 h Fz noL vm h (Dq hz hv)
 obtain⟨F1,L1,g1,hs1⟩:=hw1 h F0 L0 vm1 hh1 hs0
 have le1:=hs1.ext.le
 have hR1:O.R x F1 hh1:=O.stay hR hs1.ext (g0.trans g1) hs1.fz
 have hv1:=Df hs1
 have hp:Rex.pop P (ev vm1) { dst:=dst,op:=.call { callee:=.value f,args:=⟨args⟩,argTypes:=tys },type:=ty,pos:=pos,after:=aft,guard:=gd }=none:=rfl
 rcases hc with⟨e,b,x',a1,a2,a3,hH,a5⟩|⟨a1,a5⟩
 ·have hav : VLs F1 hh1 noL (enc e) (args.map (ev vm1)) := by
    rw[← a3]
    exact yS (s:=⟨tm1,[]⟩) hs1.fz hv1 args
  obtain⟨hh2,w2,F2,c1,c2,cb,c3,c4,c5,c6,c7⟩:=hY x F1 hh1 e _ b x' hR1 hs1.fz (Nat.le_trans hb le1) hav hH
  have hv2:VLs F2 hh2 noL tm1 vm1:=hv1.mono c4 c5
  obtain⟨vm3,hh3,w3,r3,wg3,s3,F3,L3,⟨tm2,hw2,q3⟩,g3,hs3⟩:=a5 hh2 F2 noL _ hh2 ((Dq c6 hv2).put dst (.v _ (.bool b) rfl))
  obtain⟨F4,L4,g4,hs4⟩:=hw2 _ F3 L3 vm3 hh3 hs3
  have hR3:O.R x' F4 hh3:=O.stay c7 hs4.ext (g3.trans g4) hs4.fz
  have hfv:=dU hs1.fz hs1.tmr f
  rw[show tev (TS.mk tm1 []).tm f=_ from a2] at hfv
  have hfe:ev vm1 f = .func (.yield l) #[] #[]:=by
   generalize ev vm1 f=y at *
   cases hfv
   rfl
  have hcall:xop C P (ev vm1) { dst:=dst,op:=.call { callee:=.value f,args:=⟨args⟩,argTypes:=tys },type:=ty,pos:=pos,after:=aft,guard:=gd } hh1=some (.bool b,hh2,w2):=by
   show xcall C P (ev vm1) { callee:=.value f,args:=⟨args⟩,argTypes:=tys } hh1=_
   unfold xcall
   simp only[hfe]
   exact c1
  have hone:cK C P ops ({ dst:=dst,op:=.call { callee:=.value f,args:=⟨args⟩,argTypes:=tys },type:=ty,pos:=pos,after:=aft,guard:=gd }::l2) vm1 hh1=some (vm3,hh3,wmin w2 w3):=by
   simp only[cK]
   rw[if_pos (gU hs1.tmr a1)]
   rw[hp]
   simp only[hcall,r3,Option.map_some]
  obtain⟨w,d1,d2⟩:=mD l1 _ vm h r1 hone
  rw[← hl] at d1 hreg
  have b2:O.base≤hh2.length:=Nat.le_trans hb (Nat.le_trans le1 c3)
  refine⟨1,.normal,⟨vm3,[]⟩,hh3,w,by simp only[exec,hreg,if_true,d1,uM,Option.map_some],(d2 _).2 ⟨Ec wg1 (Nat.le_trans O.hlo hb),jD c2 (Ec wg3 (Nat.le_trans O.hlo b2))⟩,rfl,tm2,x',F4,fun hg=>?_,q3,Nat.le_trans le1 (Nat.le_trans c3 hs4.ext.le),hs4.fz,Df hs4,hR3⟩
  have:=(oX ((d2 _).1 hg).2).1
  rw[cb] at this
  cases this
 ·obtain⟨vm3,hh3,w3,r3,wg3,s3,F3,L3,⟨tm2,hw2,q3⟩,g3,hs3⟩:=a5 hh1 F1 noL _ hh1 ((Dq hs1.fz hv1).put dst (.tuple' .nil))
  obtain⟨F4,L4,g4,hs4⟩:=hw2 _ F3 L3 vm3 hh3 hs3
  have hR3:O.R x F4 hh3:=O.stay hR1 hs4.ext (g3.trans g4) hs4.fz
  have hone:cK C P ops ({ dst:=dst,op:=.call { callee:=.value f,args:=⟨args⟩,argTypes:=tys },type:=ty,pos:=pos,after:=aft,guard:=gd }::l2) vm1 hh1=some (vm3,hh3,w3):=by
   simp only[cK]
   rw[if_neg (by rw[gU hs1.tmr a1];exact Bool.false_ne_true)]
   exact r3
  obtain⟨w,d1,d2⟩:=mD l1 _ vm h r1 hone
  rw[← hl] at d1 hreg
  exact⟨1,.normal,⟨vm3,[]⟩,hh3,w,by simp only[exec,hreg,if_true,d1,uM,Option.map_some],(d2 _).2 ⟨Ec wg1 (Nat.le_trans O.hlo hb),Ec wg3 (Nat.le_trans O.hlo (Nat.le_trans hb le1))⟩,rfl,tm2,x,F4,fun _=>rfl,q3,Nat.le_trans le1 hs4.ext.le,hs4.fz,Df hs4,hR3⟩
section
variable {nexty:List TV→X→Prop}
instance {a b:Code}:Mv (TI C P O (.seq a b) tm x Q) (TI C P O a tm x (Ui (fun s x=>TI C P O b s x Q) Q)):=⟨TI.seq⟩
instance {id:Nat} {b:Code}:Mv (TI C P O (.block id b) tm x Q) (TI C P O b tm x (tU id Q)):=⟨TI.block⟩
instance:Mv (TI C P O .skip tm x Q) (Q .normal tm x):=⟨TI.skip⟩
instance {id:Nat}:Mv (TI C P O (.exit id) tm x Q) (Q (.exit id) tm x):=⟨TI.exit⟩
instance:Mv (Ui nexty Q .normal tm x) (nexty tm x):=⟨aB2⟩
instance {id:Nat}:Mv (Ui nexty Q (.exit id) tm x) (Q (.exit id) tm x):=⟨aBN⟩
instance {id:Nat}:Mv (tU id Q .normal tm x) (Q .normal tm x):=⟨Yn⟩
instance {id:Nat}:Mv (tU id Q (.exit id) tm x) (Q .normal tm x):=⟨Yw⟩
end
def ISpec(C:Ctx)(g:FuncId)(first caps:List TV)(enc:E→List TV)(it:{X:Type}→(E→X→Option (Bool×X))→X→Option X):Prop:=
 ∀ {X:Type} (O:Out X) (l:Nat) (H:E→X→Option (Bool×X)) (x x':X) (Fz:Nat→Prop) (h:List Blk) (vf vc:List Value),Yields C O l enc H→h.length=O.base→(FZ Fz h)→O.R x Fz h→VLs Fz h noL first vf→VLs Fz h noL caps vc→it H x=some x' →
  ∃ v h' w Fz',C.call g (vf++(.func (.yield l) #[] #[]::vc)) h=some (v,h',w)∧wge w O.lo=true∧h.length≤h'.length∧(FZ Fz' h')∧O.R x' Fz' h'
theorem ISpec.fn{g:FuncId}{fd:Func}{c:Code}{first caps:List TV}{enc:E→List TV}{it:{X:Type}→(E→X→Option (Bool×X))→X→Option X}(hf:P.funcs[g]?=some fd)(hb:fd.body=some c)(hres:fd.results.toList=[]){tms:Nat→List TV}
 (htm:∀ l,(first++(.v (.func (.yield l) #[] #[])::caps))++List.replicate (fd.ntmps-(first++(.v (.func (.yield l) #[] #[])::caps)).length) TV.Z=tms l)
 (hx:∀ {X:Type} (O:Out X) (l:Nat) (H:E→X→Option (Bool×X)) (x x':X),Yields (lim P) O l enc H→it H x=some x'→TI (lim P) P O c (tms l) x (fun e _ x2=>(e = .normal∨e = .ret)∧x2=x')):ISpec (lim P) g first caps enc it:=by
 intro X O l H x x' Fz h vf vc hY hl hF hR hvf hvc hit
 have hargs:VLs Fz h noL (first++(.v (.func (.yield l) #[] #[])::caps)) (vf++(.func (.yield l) #[] #[]::vc)):=VLs.append hvf (.cons (.v _ _ rfl) hvc)
 have hs:VLs Fz h noL (tms l) ((vf++(.func (.yield l) #[] #[]::vc))++List.replicate (fd.ntmps-(vf++(.func (.yield l) #[] #[]::vc)).length) undef):=by
  rw[← htm]
  refine VLs.append hargs ?_
  rw[hargs.len]
  exact VLs.replicate (.Z noL undef) _
 obtain⟨K,e,a1,h1,w1,hexec,hw,hdf,s1,x2,F1,hx2,⟨he,rfl⟩,l1,f1,hs1,hR1⟩:=hx O l H x x' hY hit Fz _ h hF (by omega) hs hR
 have hm:wmin w1 none=w1:=by cases w1<;>rfl
 by_cases hg:wge w1 h.length=true
 ·refine⟨.tuple #[],h,none,Fz,nD (K:=K) ?_,rfl,Nat.le_refl _,hF,?_⟩
  ·unfold hU
   simp only[hf,hb,hexec]
   have hend:jL P fd h.length h a1 h1 w1=some (.tuple #[],h,none):=by
    simp only[jL,hdf,bF,hres,nR,hm,hg,if_true]
    rfl
   rcases he with rfl|rfl<;>exact hend
  ·rw[hx2 (by rw[← hl];exact hg)]
   exact hR
 ·have hg':wge w1 h.length=false:=by simpa using hg
  refine⟨.tuple #[],h1,w1,F1,nD (K:=K) ?_,hw,l1,f1,hR1⟩
  unfold hU
  simp only[hf,hb,hexec]
  have hend:jL P fd h.length h a1 h1 w1=some (.tuple #[],h1,w1):=by
   simp only[jL,hdf,bF,hres,nR,hm,hg',Bool.false_eq_true,if_false]
   rfl
  rcases he with rfl|rfl<;>exact hend
end
end Go.Rex
namespace Go.Rex
open Go.RowKit
def odsts:List Oper→List Nat
 | []=>[]
 | o::l=>match o.dst with
  | some d=>d::odsts l
  | none=>odsts l
def cdsts:Code→List Nat
 | .seq x y=>cdsts x++cdsts y
 | .cond _ x y=>cdsts x++cdsts y
 | .block _ b=>cdsts b
 | .loop b=>cdsts b
 | .region _ ops _=>odsts ops.toList
 | _=>[]
section
variable {P:Program} {C:Ctx}
theorem lR{tm:List Value}{dst:Option Tmp}{v:Value}{i:Nat}(hi:dst≠some i):(bX tm dst v)[i]?=tm[i]?:=by
 cases dst with
 | none=>rfl
 | some d=>simp only[bX];rw[List.getElem?_set_ne (by rintro rfl;exact hi rfl)]
theorem xL{o:Oper}{l:List Oper}{i:Nat}(h:i ∉ odsts (o::l)):o.dst≠some i∧i ∉ odsts l:=by
 unfold odsts at h
 cases hd:o.dst with
 | none=>rw[hd] at h;exact⟨by simp,h⟩
 | some d=>rw[hd] at h;simp at h;exact⟨by simp;exact fun e=>h.1 e.symm,h.2⟩
theorem pN{ops:Array Oper}{i:Nat}:∀(l:List Oper) {tm tm':List Value} {h h':List Blk} {w:Option Nat},cK C P ops l tm h=some (tm',h',w)→i ∉ odsts l→tm'[i]?=tm[i]?
 | [],tm,tm',h,h',w,hr,_=>by simp only[cK,Option.some.injEq,Prod.mk.injEq] at hr;rw[← hr.1]
 | o::l,tm,tm',h,h',w,hr,hi=>by
  obtain⟨h1,h2⟩:=xL hi
  simp only[cK] at hr
  split at hr
  ·split at hr
   ·rw[pN l hr h2,lR h1]
   ·split at hr
    ·rw[Option.map_eq_some_iff] at hr
     obtain⟨⟨t2,h3,w3⟩,a,e⟩:=hr
     simp only[Prod.mk.injEq] at e
     obtain⟨rfl,-⟩:=e
     rw[pN l a h2,lR h1]
    ·cases hr
  ·rw[pN l hr h2,lR h1]
theorem Fb{ops:Array Oper}{m i:Nat}{o:Oper}{s s':Dr}{j:Nat}(hw:fU C P ops m i o s=some s')(hj:o.dst≠some j):s'.tm[j]?=s.tm[j]?:=by
 unfold fU at hw
 split at hw
 ·split at hw
  ·obtain rfl:=Option.some.inj hw;exact lR hj
  ·unfold oY at hw
   repeat' split at hw
   all_goals first
    | cases hw;done
    | (obtain rfl:=Option.some.inj hw;exact lR hj)
 ·obtain rfl:=Option.some.inj hw;exact lR hj
theorem xG{ops:Array Oper}{ms:List Nat}{j:Nat}:∀(l:List Oper) {i:Nat} {s s':Dr},dS C P ops ms l i s=some s'→j ∉ odsts l→s'.tm[j]?=s.tm[j]?
 | [],i,s,s',h,_=>by simp only[dS] at h;obtain rfl:=Option.some.inj h;rfl
 | o::l,i,s,s',h,hj=>by
  obtain⟨h1,h2⟩:=xL hj
  simp only[dS] at h
  split at h
  ·rename_i s1 hs;rw[xG l h h2,Fb hs h1]
  ·cases h
theorem Ff{ops:Array Oper}{ms:List Nat}{m i:Nat}{o:Oper}{s s':Fr}{j:Nat}(hw:fV C P ops ms m i o s=some s')(hj:o.dst≠some j):s'.tm[j]?=s.tm[j]?:=by
 unfold fV at hw
 split at hw
 ·split at hw
  ·obtain rfl:=Option.some.inj hw;exact lR hj
  ·unfold mE at hw
   repeat' split at hw
   all_goals first
    | cases hw;done
    | (obtain rfl:=Option.some.inj hw;exact lR hj)
 ·obtain rfl:=Option.some.inj hw;exact lR hj
theorem xK{ops:Array Oper}{ms:List Nat}{j:Nat}:∀(l:List Oper) {i:Nat} {s s':Fr},dT C P ops ms l i s=some s'→j ∉ odsts l→s'.tm[j]?=s.tm[j]?
 | [],i,s,s',h,_=>by simp only[dT] at h;obtain rfl:=Option.some.inj h;rfl
 | o::l,i,s,s',h,hj=>by
  obtain⟨h1,h2⟩:=xL hj
  simp only[dT] at h
  split at h
  ·rename_i s1 hs;rw[xK l h h2,Ff hs h1]
  ·cases h
theorem jT{ro:Option Nat}{i:Nat}:∀(k:Nat) (c:Code) {a a':AS} {h h':List Blk} {e:Exit} {w:Option Nat},exec C P ro k c a h=some (e,a',h',w)→dW c=true→i ∉ cdsts c→a'.tm[i]?=a.tm[i]?
 | 0,c,a,a',h,h',e,w,hx,_,_=>by simp[exec] at hx
 | k+1,c,a,a',h,h',e,w,hx,hn,hi=>by
  cases c with
  | seq x y =>
   simp only[dW,Bool.and_eq_true] at hn
   simp only[cdsts,List.mem_append,not_or] at hi
   simp only[exec] at hx
   rcases hq:exec C P ro k x a h with _|⟨e1,a1,h1,w1⟩
   ·rw[hq] at hx;cases hx
   ·rw[hq] at hx
    have i1:=jT k x hq hn.1 hi.1
    cases e1 with
    | normal =>
     simp only at hx
     rw[Option.map_eq_some_iff] at hx
     obtain⟨⟨e2,a2,h2,w2⟩,hy,ee⟩:=hx
     simp only[Prod.mk.injEq] at ee
     obtain⟨-,rfl,-⟩:=ee
     rw[jT k y hy hn.2 hi.2,i1]
    | _=>simp only[Option.some.injEq,Prod.mk.injEq] at hx;obtain⟨-,rfl,-⟩:=hx;exact i1
  | cond g x y =>
   simp only[dW,Bool.and_eq_true] at hn
   simp only[cdsts,List.mem_append,not_or] at hi
   simp only[exec] at hx
   split at hx
   ·split at hx
    ·split at hx
     ·exact jT k x hx hn.1 hi.1
     ·exact jT k y hx hn.2 hi.2
    ·cases hx
   ·cases hx
  | block id b =>
   simp only[dW] at hn
   simp only[cdsts] at hi
   simp only[exec] at hx
   rcases hq:exec C P ro k b a h with _|⟨e1,a1,h1,w1⟩
   ·rw[hq] at hx;cases hx
   ·rw[hq] at hx
    have i1:=jT k b hq hn hi
    cases e1 with
    | exit id' =>
     simp only at hx
     split at hx<;>(simp only[Option.some.injEq,Prod.mk.injEq] at hx;obtain⟨-,rfl,-⟩:=hx;exact i1)
    | _=>simp only[Option.some.injEq,Prod.mk.injEq] at hx;obtain⟨-,rfl,-⟩:=hx;exact i1
  | loop b =>
   have hn':dW b=true:=by simpa only[dW] using hn
   have hi':i ∉ cdsts b:=by simpa only[cdsts] using hi
   simp only[exec] at hx
   rcases hq:exec C P ro k b a h with _|⟨e1,a1,h1,w1⟩
   ·rw[hq] at hx;cases hx
   ·rw[hq] at hx
    have i1:=jT k b hq hn' hi'
    cases e1 with
    | normal =>
     simp only at hx
     rw[Option.map_eq_some_iff] at hx
     obtain⟨⟨e2,a2,h2,w2⟩,hy,ee⟩:=hx
     simp only[Prod.mk.injEq] at ee
     obtain⟨-,rfl,-⟩:=ee
     rw[jT k (.loop b) hy hn hi,i1]
    | _=>simp only[Option.some.injEq,Prod.mk.injEq] at hx;obtain⟨-,rfl,-⟩:=hx;exact i1
  | region id ops d =>
   simp only[cdsts] at hi
   simp only[exec,uM] at hx
   repeat' split at hx
   all_goals first
    | cases hx;done
    | skip
   all_goals (rw[Option.map_eq_some_iff] at hx;obtain⟨⟨t2,h2,w2⟩,ha,ee⟩:=hx;simp only[Prod.mk.injEq] at ee;obtain⟨-,rfl,-⟩:=ee)
   ·unfold iF at ha
    split at ha
    ·unfold nL at ha
     split at ha
     ·rw[Option.map_eq_some_iff] at ha
      obtain⟨s,hs,ee⟩:=ha
      simp only[Prod.mk.injEq] at ee
      obtain⟨rfl,-⟩:=ee
      exact xK _ hs hi
     ·cases ha
    ·unfold lK at ha
     split at ha
     ·rw[Option.map_eq_some_iff] at ha
      obtain⟨s,hs,ee⟩:=ha
      simp only[Prod.mk.injEq] at ee
      obtain⟨rfl,-⟩:=ee
      exact xG _ hs hi
     ·cases ha
   ·exact pN _ ha hi
  | rangeFunc g ps as b=>simp[dW] at hn
  | _=>first
   | (simp only[exec,Option.some.injEq,Prod.mk.injEq] at hx;obtain⟨-,rfl,-⟩:=hx;rfl)
   | simp[exec] at hx
end
end Go.Rex
namespace Go.Rex
open Go.RowKit
section
variable {Fz Fz':Nat→Prop} {h0 h h':List Blk} {L:Nat→LI} {s s':TS} {tm:List Value}
theorem St.other(hs:St h0 Fz L s tm h)(hlen:h.length≤h'.length)(hc:∀(n:Nat) eb cs,h[n]?=some (Blk.cells eb cs)→h'[n]?=some (Blk.cells eb cs))(hF:∀(n:Nat) eb cs,Fz n→h[n]?=some (Blk.cells eb cs)→Fz' n)
 (hN:∀(n:Nat) eb cs,Fz' n→h[n]?=some (Blk.cells eb cs)→Fz n) (hz:∀ n,Fz' n→n<h'.length) (hx:Ext h0 h'):St h0 Fz' L s tm h':=by
 have hF':∀(n:Nat) eb cs,Fz n→h[n]?=some (Blk.cells eb cs)→Fz' n∧h'[n]?=some (Blk.cells eb cs):=fun n eb cs a b=>⟨hF n eb cs a b,hc n eb cs b⟩
 refine⟨hs.tmr.cells hF',fun n b hb=>?_,hs.dom,hs.inj,hs.fz.cells hF' hz,hx⟩
 have h1:=hs.blk n b hb
 cases b with
 | dead=>trivial
 | rows es rows =>
  obtain⟨a1,a2,a3,a4,a5⟩:=h1
  refine⟨a1,a2,a3,a4,?_⟩
  rcases a5 with a5|⟨nm,cs,b1,b2,b3,b4,b5⟩
  ·exact .inl a5
  ·exact .inr ⟨nm,cs,b1,b2,fun hf=>b3 (hN nm _ _ hf b4),hc nm _ _ b4,b5.cells hF'⟩
 | var row =>
  obtain⟨a1,nm,cs,b1,b2,b3,b4,b5⟩:=h1
  exact⟨a1,nm,cs,b1,b2,fun hf=>b3 (hN nm _ _ hf b4),hc nm _ _ b4,b5.cells hF'⟩
theorem Ks{l:Nat}{b:Blk}(hx:Ext h0 h)(hl:h0.length≤l):Ext h0 (h.set l b):=by
 obtain⟨t,rfl⟩:=hx
 exact⟨t.set (l-h0.length) b,by rw[List.set_append_right _ _ hl]⟩
def tset:List Tmp→List TV→List TV→List TV
 | p::ps,v::vs,tmps=>tset ps vs (tmps.set p v)
 | _,_,tmps=>tmps
theorem Ta:∀(ps:List Tmp) {vs:List TV} {xs:List Value} {T:List TV} {vm:List Value},VLs Fz h L vs xs→VLs Fz h L T vm→VLs Fz h L (tset ps vs T) (kP ps xs vm)
 | [],vs,xs,T,vm,hv,ht=>by cases vs<;>cases xs<;>exact ht
 | p::ps,[],xs,T,vm,hv,ht=>by
  have:xs=[]:=by have:=hv.len;simpa using this
  subst this;exact ht
 | p::ps,v::vs,xs,T,vm,hv,ht=>by
  obtain⟨x,xs',rfl⟩:∃ x xs',xs=x::xs':=by
   cases xs with
   | nil=>have:=hv.len;simp at this
   | cons a b=>exact⟨a,b,rfl⟩
  simp only[tset,kP]
  exact Ta ps ⟨by have:=hv.len;simpa using this,fun i p y h1 h2=>hv.at' (i+1) p y (by simpa using h1) (by simpa using h2)⟩ (ht.set p (hv.at' 0 v x rfl rfl))
theorem yW{i:Nat}:∀(ps:List Tmp) (xs vm:List Value),i ∉ ps→(kP ps xs vm)[i]?=vm[i]?
 | [],xs,vm,_=>by simp[kP]
 | p::ps,[],vm,_=>by simp[kP]
 | p::ps,x::xs,vm,h=>by
  simp only[List.mem_cons,not_or] at h
  simp only[kP]
  rw[yW ps xs _ h.2,List.getElem?_set_ne (Ne.symm h.1)]
end
def xcode:Exit→Code
 | .ret=>.ret
 | .exit id=>.exit id
 | _=>.skip
def rend(e:Exit)(l:Nat)(h:List Blk)(w:Option Nat):AOut:=match e with
 | .normal=>kD l none h w
 | .ret=>kD l (some .ret) h w
 | .exit id=>kD l (some (.exit id)) h w
 | _=>none
def hand{E σ ε:Type}(step:E→σ→Option (σ ⊕ ε))(e:E)(x:σ ⊕ ε):Option (Bool×(σ ⊕ ε)):=
 match x with
 | .inl y=>(step e y).map fun r=>match r with
  | .inl y'=>(true,.inl y')
  | .inr z=>(false,.inr z)
 | .inr _=>none
def noslot(T:List TV)(i:Nat):Bool:=match T[i]? with
 | some .Z=>true
 | none=>true
 | _=>false
section
variable {P:Program}
theorem TM.range{E σ ε:Type}{enc:E→List TV}{it:{X:Type}→(E→X→Option (Bool×X))→X→Option X}{step:E→σ→Option (σ ⊕ ε)}{x0:σ}{x':σ ⊕ ε}{gf:FuncId}{first caps T:List TV}{g:Operand}{ps:Array Tmp}{assign body:Code}{Q:Exit→TS→Prop}
 (hit:it (hand step) (.inl x0)=some x') (I:σ→List TB) (J:ε→List TB) (xc:ε→Exit) (hg:tev T g = .func gf first caps) (hgo:lY g=true) (hfd:aL P gf=true) (hsp:ISpec (lim P) gf first caps enc it)
 (hna:dW assign=true) (hnb:dW body=true) (hT:(ps.toList++(cdsts assign++cdsts body)).all (noslot T)=true) (hlen:∀ e,(enc e).length=ps.size) (hxc:∀ z,xc z = .ret∨∃ id,xc z = .exit id)
 (hround:∀ e y r,step e y=some r→TX (lim P) P assign ⟨tset ps.toList (enc e) T,I y⟩ (fun ex s1=>ex = .normal∧TX (lim P) P body s1 (fun ex s2=>match (generalizing:=false) r with
  | .inl y'=>ex = .normal∧Wk s2 ⟨T,I y'⟩
  | .inr z=>ex=xc z∧Wk s2 ⟨T,J z⟩)))
 (hq:match (generalizing:=false) x' with
  | .inl y=>Q .normal ⟨T,I y⟩
  | .inr z=>Q (xc z) ⟨T,J z⟩):TM (lim P) P (.rangeFunc g ps assign body) ⟨T,I x0⟩ Q:=by
 intro h0 Fz0 L0 vm df h hs hm
 have hgv:=dU hs.fz hs.tmr g
 rw[show tev (TS.mk T (I x0)).tm g=_ from hg] at hgv
 obtain⟨vf,vc,hge,vlf,vlc⟩:∃ f' c',ev vm g = .func (.func gf) ⟨f'⟩ ⟨c'⟩∧VLs Fz0 h noL first f'∧VLs Fz0 h noL caps c':=by
  generalize ev vm g=y at *
  cases hgv with
  | func _ _ _ _ a' b' la ha lb hb=>exact⟨a',b',rfl,⟨la,ha⟩,⟨lb,hb⟩⟩
 have hle0:=hs.ext.le
 have hz0:=hs.fz
 let d:=h.length
 let l:=h.length+1
 let LB:LoopState→Option Code→Blk:=fun st pe=>.loop st pe vm ps assign body d
 let h2:List Blk:=h++[.dfr]++[LB .ready none]
 have h2len:h2.length=h.length+2:=by simp[h2]
 have h2old:∀ n,n<h.length→h2[n]?=h[n]?:=fun n hn=>by
  simp only[h2,List.append_assoc];exact List.getElem?_append_left hn
 have h2d:h2[d]?=some .dfr:=by simp[h2,d]
 have h2l:h2[l]?=some (LB .ready none):=by simp[h2,l]
 let Fz1:Nat→Prop:=fun n=>Fz0 n∨n∈d::df
 have mk:∀ m,m∈d::df→h0.length≤m∧h2[m]?=some .dfr:=fun m hm'=>by
  rcases List.mem_cons.1 hm' with rfl|hm'
  ·exact⟨hle0,h2d⟩
  ·obtain⟨a,b⟩:=hm.2 m hm'
   exact⟨a,by rw[h2old m (List.getElem?_eq_some_iff.1 b).1];exact b⟩
 have hF1l:¬ Fz1 l:=by
  rintro (a|a)
  ·have:=hz0 l a;simp only[l] at this;omega
  ·have:=(mk l a).2;rw[h2l] at this;simp[LB] at this
 have hz1:∀ n,Fz1 n→n<h2.length:=fun n hn=>by
  rcases hn with a|a
  ·have:=hz0 n a;omega
  ·exact (List.getElem?_eq_some_iff.1 (mk n a).2).1
 let PB:σ ⊕ ε→List TB:=fun x=>match x with
  | .inl y=>I y
  | .inr z=>J z
 let SB:σ ⊕ ε→Blk:=fun x=>match x with
  | .inl y=>LB .ready none
  | .inr z=>LB .done (some (xcode (xc z)))
 have SBn:∀ x,SB x ≠ .dead∧∀ es cs,SB x ≠ .cells es cs:=fun x=>by cases x<;>simp[SB,LB]
 let R:σ ⊕ ε→(Nat→Prop)→List Blk→Prop:=fun x Fz h'=>(∀ n,Fz1 n→Fz n)∧(∀ n,Fz n→Fz1 n∨h0.length≤n)∧(∀ n,Fz1 n→h'[n]?=h2[n]?)∧¬ Fz l∧(∃ L,St h0 Fz L ⟨T,PB x⟩ vm h')∧h'[l]?=some (SB x)
 have hstay:∀ {x:σ ⊕ ε} {Fz Fz':Nat→Prop} {h h':List Blk},R x Fz h→Ext h h'→Grow h Fz Fz' h h'→(FZ Fz' h')→R x Fz' h':=by
  rintro x Fz Fz' ha hb ⟨r1,r2,r3,r4,⟨L,r5⟩,r6⟩ hx g hz
  have hll:=(List.getElem?_eq_some_iff.1 r6).1
  refine⟨fun n hn=>g.1 n (r1 n hn),fun n hn=>?_,fun n hn=>(g.3 n (r1 n hn)).trans (r3 n hn),fun hf=>?_,⟨L,r5.heap hx g.1 (fun n hn=>?_)⟩,?_⟩
  ·rcases g.2 n hn with a|a
   ·exact r2 n a
   ·exact .inr (Nat.le_trans r5.ext.le a)
  ·rcases g.2 l hf with a|a
   ·exact r4 a
   ·omega
  ·rcases g.2 n hn with a|a
   ·exact .inl a
   ·exact .inr ⟨a,hz n hn⟩
  ·obtain⟨t,rfl⟩:=hx
   rw[List.getElem?_append_left hll];exact r6
 let O:Out (σ ⊕ ε):=⟨h0.length,h.length+2,R,by omega,hstay⟩
 have hY:Yields (lim P) O l enc (hand step):=by
  intro x Fz hA e as b x2 hR hz hbase hav hH
  obtain⟨r1,r2,r3,r4,⟨L,r5⟩,r6⟩:=hR
  have hlA:=(List.getElem?_eq_some_iff.1 r6).1
  cases x with
  | inr z=>simp[hand] at hH
  | inl y =>
   simp only[hand,Option.map_eq_some_iff] at hH
   obtain⟨r,hstep,hr⟩:=hH
   have r6':hA[l]?=some (LB .ready none):=r6
   have hnc:∀ es cs,hA[l]?≠some (.cells es cs):=fun es cs=>by rw[r6'];simp[LB]
   have r5':St h0 (fun n=>Fz n∨n=l) L ⟨T,I y⟩ vm hA:=r5.other (Nat.le_refl _) (fun n eb cs hn=>hn) (fun n eb cs hf _=>.inl hf) (fun n eb cs hf hn=>by
    rcases hf with hf|rfl
    ·exact hf
    ·exact absurd hn (hnc eb cs)) (fun n hn=>by
    rcases hn with hn|rfl
    ·exact hz n hn
    ·exact hlA) r5.ext
   have hav':VLs (fun n=>Fz n∨n=l) hA L (enc e) as:=(hav.mono (fun n hn=>.inl hn) (fun n _=>rfl)).ofNo
   have hst:St h0 (fun n=>Fz n∨n=l) L ⟨tset ps.toList (enc e) T,I y⟩ (kP ps.toList as vm) hA:=⟨Ta ps.toList hav' r5'.tmr,r5'.blk,r5'.dom,r5'.inj,r5'.fz,r5'.ext⟩
   obtain⟨K1,e1,⟨tm1,df1⟩,hB,w1,x1,wg1,hd1,s1,F1,L1,⟨rfl,hbody⟩,g1,hs1⟩:=hround e y r hstep h0 _ L _ hA hst
   obtain rfl:df1=[]:=hd1
   have kB:hB[l]?=some (LB .ready none):=(g1.3 l (.inr rfl)).trans r6'
   have kl1:=(fR (pZ (P:=P)) K1 assign x1).1.1
   have hncB:∀ es cs,hB[l]?≠some (.cells es cs):=fun es cs=>by rw[kB];simp[LB]
   have hlo:h0.length≤l:=by simp only[l];omega
   have hs1':St h0 F1 L1 s1 tm1 (hB.set l (LB .busy none)):=hs1.other (by simp) (fun n eb cs hn=>by rw[List.getElem?_set_ne (by rintro rfl;exact hncB _ _ hn)];exact hn) (fun n eb cs hf _=>hf) (fun n eb cs hf _=>hf) (fun n hn=>by simpa using hs1.fz n hn) (Ks hs1.ext hlo)
   have hlB:=(List.getElem?_eq_some_iff.1 kB).1
   obtain⟨K2,e2,⟨tm2,df2⟩,hC,w2,x2',wg2,hd2,s2,F2,L2,hend,g2,hs2⟩:=hbody h0 F1 L1 tm1 _ hs1'
   obtain rfl:df2=[]:=hd2
   have kC:hC[l]?=some (LB .busy none):=(g2.3 l (g1.1 l (.inr rfl))).trans (by rw[List.getElem?_set_self hlB])
   have kl2:=(fR (pZ (P:=P)) K2 body x2').1.1
   have kl2':hB.length≤hC.length:=by simpa using kl2
   have hncC:∀ es cs,hC[l]?≠some (.cells es cs):=fun es cs=>by rw[kC];simp[LB]
   have hlC:=(List.getElem?_eq_some_iff.1 kC).1
   have hxc2:(∀ z,r = .inr z→e2=xc z)∧(∀ y',r = .inl y'→e2 = .normal)∧Wk s2 ⟨T,PB r⟩:=by
    cases r with
    | inl y'=>exact⟨fun z h=>(nomatch h),fun _ _=>hend.1,hend.2⟩
    | inr z=>exact⟨fun z' h=>(by cases h;exact hend.1),fun _ h=>(nomatch h),hend.2⟩
   obtain⟨xe1,xe2,hwk⟩:=hxc2
   obtain⟨F3,L3,g3,hs3⟩:=hwk h0 F2 L2 tm2 hC hs2
   have h0l:h0.length≤l:=hlo
   have hslot:VLs F3 hC L3 T vm:=by
    refine⟨r5.tmr.len,fun i p v hp hv=>?_⟩
    by_cases hj:p = .Z
    ·subst hj;exact .Z _ _
    ·have hni : i ∉ ps.toList ++ (cdsts assign ++ cdsts body) := fun hi => by
       have:=List.all_eq_true.1 hT i hi
       unfold noslot at this
       rw[hp] at this
       cases p<;>first|exact hj rfl|cases this
     simp only[List.mem_append,not_or] at hni
     have q1:tm1[i]?=(kP ps.toList as vm)[i]?:=jT K1 assign x1 hna hni.2.1
     have q2:tm2[i]?=tm1[i]?:=jT K2 body x2' hnb hni.2.2
     refine hs3.tmr.at' i p v hp ?_
     show tm2[i]?=some v
     rw[q2,q1,yW _ _ _ hni.1]
     exact hv
   have hs3v:St h0 F3 L3 ⟨T,PB r⟩ vm hC:=⟨hslot,hs3.blk,hs3.dom,hs3.inj,hs3.fz,hs3.ext⟩
   have hs4:∀ b4:Blk,St h0 (fun n=>F3 n∧n≠l) L3 ⟨T,PB r⟩ vm (hC.set l b4):=fun b4=>hs3v.other (by simp) (fun n eb cs hn=>by rw[List.getElem?_set_ne (by rintro rfl;exact hncC _ _ hn)];exact hn)
    (fun n eb cs hf hn=>⟨hf,by rintro rfl;exact hncC _ _ hn⟩) (fun n eb cs hf _=>hf.1) (fun n hn=>by simpa using hs3v.fz n hn.1) (Ks hs3v.ext h0l)
   have hsz:as.length=ps.size:=by have:=hav.len;rw[hlen e] at this;exact this
   have hne:(e2 = .normal∧b=true∧∃ y',r = .inl y'∧x2 = .inl y')∨(∃ z,r = .inr z∧e2=xc z∧b=false∧x2 = .inr z):=by
    cases r with
    | inl y'=>simp only[Prod.mk.injEq] at hr;exact .inl ⟨xe2 y' rfl,hr.1.symm,y',rfl,hr.2.symm⟩
    | inr z=>simp only[Prod.mk.injEq] at hr;exact .inr ⟨z,rfl,xe1 z rfl,hr.1.symm,hr.2.symm⟩
   have hbx:x2=r∧∃ jump:Option Code,b=jump.isNone∧SB x2=LB (if jump.isNone then .ready else .done) jump∧rend e2 l hC (wmin w1 w2)=kD l jump hC (wmin w1 w2):=by
    rcases hne with⟨rfl,rfl,y',rfl,rfl⟩|⟨z,rfl,rfl,rfl,rfl⟩
    ·exact⟨rfl,none,rfl,rfl,rfl⟩
    ·refine⟨rfl,some (xcode (xc z)),rfl,rfl,?_⟩
     rcases hxc z with h|⟨id,h⟩<;>rw[h]<;>rfl
   obtain⟨rfl,jump,hb,hSB,hRE⟩:=hbx
   have hround':(lim P).round l as hA=some (.bool b,hC.set l (SB x2),wmin (some l) (wmin w1 w2)):=by
    refine Jm (K:=max K1 K2) ?_
    have p1:=fS (C:=lim P) (P:=P) (ro:=some l) (max K1 K2) assign (kP ps.toList as vm) [] hA hna
    rw[jU (Nat.le_max_left K1 K2) x1,Option.map_some] at p1
    have p2:=fS (C:=lim P) (P:=P) (ro:=some l) (max K1 K2) body tm1 [] (hB.set l (LB .busy none)) hnb
    rw[jU (Nat.le_max_right K1 K2) x2',Option.map_some] at p2
    unfold kY
    rw[r6']
    simp only[LB,hsz,and_self,if_true,true_and]
    rw[p1]
    simp only[kB,LB,if_true]
    simp only[LB] at p2
    rw[p2]
    show rend e2 l hC (wmin w1 w2)=_
    rw[hRE]
    unfold kD
    rw[kC]
    simp only[LB]
    rw[hSB,← hb]
   have hcalls:∀ n,Fz n→n≠l:=fun n hn=>by rintro rfl;exact r4 hn
   have hsame:∀ n,Fz n→(hC.set l (SB x2))[n]?=hA[n]?:=fun n hn=>by
    have hnl:=hcalls n hn
    rw[List.getElem?_set_ne (Ne.symm hnl),g2.3 n (g1.1 n (.inl hn)),List.getElem?_set_ne (Ne.symm hnl),g1.3 n (.inl hn)]
   refine⟨_,_,fun n=>F3 n∧n≠l,hround',?_,?_,by simp only[List.length_set];omega,fun n hn=>⟨g3.1 n (g2.1 n (g1.1 n (.inl hn))),hcalls n hn⟩,hsame,(hs4 (SB x2)).fz,?_⟩
   ·exact jD (by simpa [wge] using hlo) (jD wg1 wg2)
   ·have:wge (some l) (h.length+2)=false:=by simp[wge,l]
    cases hq':wge (wmin (some l) (wmin w1 w2)) O.base with
    | false=>rfl
    | true=>have:=(oX hq').1;simp[wge,l,O] at this
   ·refine⟨fun n hn=>⟨g3.1 n (g2.1 n (g1.1 n (.inl (r1 n hn)))),hcalls n (r1 n hn)⟩,fun n hn=>?_,fun n hn=>(hsame n (r1 n hn)).trans (r3 n hn),fun hf=>hf.2 rfl,⟨L3,hs4 (SB x2)⟩,by rw[List.getElem?_set_self hlC]⟩
    rcases g3.2 n hn.1 with a|a
    ·rcases g2.2 n a with a|a
     ·rcases g1.2 n a with (a|a)|a
      ·exact r2 n a
      ·exact absurd a hn.2
      ·exact .inr a
     ·exact .inr a
    ·exact .inr a
 have hs2:St h0 Fz0 L0 ⟨T,I x0⟩ vm h2:=hs.heap (Ext.trans (Ext.app h [.dfr]) (Ext.app _ _)) (fun n hn=>hn) (fun n hn=>.inl hn)
 have hs3:St h0 Fz1 L0 ⟨T,I x0⟩ vm h2:=hs2.other (Nat.le_refl _) (fun n eb cs hn=>hn) (fun n eb cs hf _=>.inl hf) (fun n eb cs hf hn=>by
  rcases hf with hf|hf
  ·exact hf
  ·have:=(mk n hf).2;rw[hn] at this;cases this) hz1 hs2.ext
 have hR0:R (.inl x0) Fz1 h2:=⟨fun n hn=>hn,fun n hn=>.inl hn,fun n _=>rfl,hF1l,⟨L0,hs3⟩,h2l⟩
 have up:∀ n,Fz0 n→h2[n]?=h[n]?:=fun n hn=>h2old n (hz0 n hn)
 obtain⟨v,h3,w,F4,hcall,wg,hlen3,hz4,hR4⟩:=hsp O l (hand step) (.inl x0) x' Fz1 h2 vf vc hY h2len hs3.fz hR0 (vlf.mono (fun n hn=>.inl hn) up) (vlc.mono (fun n hn=>.inl hn) up) hit
 obtain⟨r1,r2,r3,r4,⟨L,r5⟩,r6⟩:=hR4
 have hl3:=(List.getElem?_eq_some_iff.1 r6).1
 have hnc3:∀ es cs,h3[l]?≠some (.cells es cs):=fun es cs=>by rw[r6];intro h;exact (SBn x').2 es cs (Option.some.inj h)
 have hlo:h0.length≤l:=by simp only[l];omega
 have hfin:St h0 F4 L ⟨T,PB x'⟩ vm (h3.set l .dead):=r5.other (by simp) (fun n eb cs hn=>by rw[List.getElem?_set_ne (by rintro rfl;exact hnc3 _ _ hn)];exact hn) (fun n eb cs hf _=>hf) (fun n eb cs hf _=>hf) (fun n hn=>by simpa using hz4 n hn) (Ks r5.ext hlo)
 have hnl1:∀ n,Fz1 n→n≠l:=fun n hn=>by rintro rfl;exact hF1l hn
 have hMk:Mk h0.length (d::df) (h3.set l .dead):=by
  refine⟨List.nodup_cons.2 ⟨fun hd=>?_,hm.1⟩,fun m hm'=>⟨(mk m hm').1,?_⟩⟩
  ·have:=(List.getElem?_eq_some_iff.1 (hm.2 d hd).2).1
   simp only[d] at this
   omega
  ·have hf:Fz1 m:=.inr hm'
   rw[List.getElem?_set_ne (Ne.symm (hnl1 m hf)),r3 m hf]
   exact (mk m hm').2
 have hG:Grow h0 Fz0 F4 h (h3.set l .dead):=by
  refine⟨fun n hn=>r1 n (.inl hn),fun n hn=>?_,fun n hn=>?_⟩
  ·rcases r2 n hn with (a|a)|a
   ·exact .inl a
   ·exact .inr (mk n a).1
   ·exact .inr a
  ·rw[List.getElem?_set_ne (Ne.symm (hnl1 n (.inl hn))),r3 n (.inl hn),up n hn]
 have hfdx : ∃ fd, P.funcs[gf]? = some fd ∧ (fd.body.isSome = true ∧ (fd.name == "runtime.NumGoroutine") = false) := by
  unfold aL at hfd
  split at hfd
  ·rename_i fd hf
   refine⟨fd,hf,?_⟩
   split at hfd
   ·rename_i c hc
    exact⟨by rw[hc];rfl,by simpa using hfd⟩
   ·cases hfd
  ·cases hfd
 obtain⟨fd,hf,hfb⟩:=hfdx
 have hrun:∀ r,qN ⟨vm,[d]++df⟩ l h3 w=r→exec (lim P) P none 1 (.rangeFunc g ps assign body) ⟨vm,df⟩ h=r:=by
  rintro r rfl
  simp only[exec,nU,hgo,if_true,hge,hf,hfb,and_self,tA]
  have e1:(h++[Blk.dfr]).length=l:=by simp[l]
  rw[e1]
  have e2:((h++[Blk.dfr])++[Blk.loop .ready none vm ps assign body h.length])=h2:=rfl
  have e3:(vf++([Value.func (.yield l) #[] #[]]++vc))=vf++(.func (.yield l) #[] #[]::vc):=rfl
  rw[e2,e3,hcall]
 cases x' with
 | inl y =>
  refine⟨1,.normal,⟨vm,[d]++df⟩,h3.set l .dead,w,hrun _ ?_,wg,hMk,_,F4,L,hq,hG,hfin⟩
  unfold qN
  rw[r6]
  simp[SB,LB]
 | inr z =>
  refine⟨1,xc z,⟨vm,[d]++df⟩,h3.set l .dead,w,hrun _ ?_,wg,hMk,_,F4,L,hq,hG,hfin⟩
  unfold qN
  rw[r6]
  rcases hxc z with h|⟨id,h⟩<;>simp[SB,LB,h,xcode]
variable {s:TS} {Q:Exit→TS→Prop}
instance {x y:Code}:Mv (TM (lim P) P (.seq x y) s Q) (TM (lim P) P x s (Eg (fun s=>TM (lim P) P y s Q) Q)):=⟨TM.seq⟩
instance {id:Nat} {b:Code}:Mv (TM (lim P) P (.block id b) s Q) (TM (lim P) P b s (mT id Q)):=⟨TM.block⟩
instance:Mv (TM (lim P) P .skip s Q) (Q .normal s):=⟨fun h=>TM.of pZ rfl (TX.skip h)⟩
instance {id:Nat}:Mv (TM (lim P) P (.exit id) s Q) (Q (.exit id) s):=⟨fun h=>TM.of pZ rfl (TX.exit h)⟩
instance:Mv (TM (lim P) P .ret s Q) (Q .ret s):=⟨fun h=>TM.of pZ rfl (TX.ret h)⟩
instance {id:Nat} {ops:Array Oper} {d:Bool}:Mv (TM (lim P) P (.region id ops d) s Q) (TX (lim P) P (.region id ops d) s Q):=⟨TM.of pZ rfl⟩
end
end Go.Rex
namespace Go.Rex
open Go.RowKit
section
variable {C:Ctx} {P:Program} {tm tm2:List TV} {hp:List TB} {ops:Array Oper} {rest:List Oper} {Q:TS→Prop}
variable {dst:Option Tmp} {ty:TypeId} {pos:String} {aft:Array Edge} {gd:Option (Nat×Bool)} {x y:Operand} {t u:TypeId}
open Classical in
end
end Go.Rex
namespace Go.Rex
open Go.RowKit
section
variable {C:Ctx} {P:Program} {Fz:Nat→Prop} {h h0:List Blk} {L:Nat→LI} {s:TS} {tm:List Value}
variable {dst:Option Tmp} {ty:TypeId} {pos:String} {aft:Array Edge} {gd:Option (Nat×Bool)}
end
def Tp{α:Type}(xs:List α)(k:Int):Option Nat:=if 0≤k∧k≤xs.length∧0<xs.length then some k.toNat else none
section
variable {C:Ctx} {P:Program} {ops:Array Oper} {rest:List Oper} {tm tm2:List TV} {hp hp2:List TB} {Q:TS→Prop} {o:Oper}
variable {dst:Option Tmp} {ty:TypeId} {pos:String} {aft:Array Edge} {gd:Option (Nat×Bool)} {p q:TV} {ms:List Nat} {i:Nat} {np:List Nat} {c:Nat}
theorem ctG{α:Type}{f:α→List TV}{xs:List α}{t e:TypeId}{x y:Operand}{k:IntKind}{es b len m:Nat}{n:Int}(hs:Tp xs n=some m)(hx:tev tm x = .lsl b 0 len)(hb:hp[b]?=some (.rows es (xs.map f)))(hy:tev tm y = .v (.int k n))(hso:bY P t=some e)(ho:okT P e=true)(hes:P.cellsOf e=es) :
 OpG C P { dst:=dst,op:=.slice t x none (some y) none,type:=ty,pos:=pos,after:=aft,guard:=gd } ⟨tm,hp⟩ ⟨tput tm dst (.lsl b 0 m),hp⟩:=by
 unfold Tp at hs
 split at hs
 ·rename_i hc
  obtain rfl:=Option.some.inj hs
  refine OpG.slice (s:=⟨tm,hp⟩) ?_
  rw[show tev (TS.mk tm hp).tm x=_ from hx]
  have b2:tbnd ((some y).map (tev (TS.mk tm hp).tm)) len=some n.toNat:=by
   rw[Option.map_some,show tev (TS.mk tm hp).tm y=_ from hy]
   simp only[tbnd]
   rw[if_pos hc.1]
  simp only[tsub,hso,ho,if_true,hb,Option.map_none,b2]
  simp only[tbnd]
  rw[if_pos ⟨hes.symm,by intro h;rw[List.map_eq_nil_iff] at h;subst h;simp at hc,by omega,by simp;omega,by simp⟩]
  simp
 ·cases hs
theorem TO.ct{α:Type}(f:α→List TV){xs:List α}{t e:TypeId}{x y:Operand}{k:IntKind}{es b len m:Nat}{n:Int}(hs:Tp xs n=some m)(hw:twant ops tm { dst:=dst,op:=.slice t x none (some y) none,type:=ty,pos:=pos,after:=aft,guard:=gd }=some true)(hx:tev tm x = .lsl b 0 len)(hb:hp[b]?=some (.rows es (xs.map f)))(hy:tev tm y = .v (.int k n))(hso:bY P t=some e)(ho:okT P e=true)(hes:P.cellsOf e=es)
 (ht:tput tm dst (.lsl b 0 m)=tm2) (hq:TO C P ops rest ⟨tm2,hp⟩ Q):TO C P ops ({ dst:=dst,op:=.slice t x none (some y) none,type:=ty,pos:=pos,after:=aft,guard:=gd }::rest) ⟨tm,hp⟩ Q:=by
 subst ht;exact TO.g hw (ctG hs hx hb hy hso ho hes) hq
theorem Gd{α β:Type}{f:α→β}{xs:List α}{m:Nat}:(List.drop 0 (xs.map f)).take m=(xs.take m).map f:=by rw[List.drop_zero,List.map_take]
theorem Dd{α β:Type}{f:α→β}{xs:List α}{m:Nat}:(xs.map f).take m=(xs.take m).map f:=by rw[List.map_take]
end
section
variable {C:Ctx} {P:Program} {tm tm2:List TV} {hp hp2:List TB} {Q:Exit→TS→Prop} {c:Code}
end
end Go.Rex
