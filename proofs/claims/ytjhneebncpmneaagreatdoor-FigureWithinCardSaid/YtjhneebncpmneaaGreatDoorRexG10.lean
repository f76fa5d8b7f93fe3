/- An executor of the program's functions on trees of values, proved sound. -/
import Derived.Test.YtjhneebncpmneaaGreatDoorRexG9
import Derived.Test.YtjhneebncpmneaaGreatDoorRexG7
import Derived.Test.YtjhneebncpmneaaGreatDoorRexG6
set_option linter.unusedSimpArgs false
set_option linter.unusedVariables false
set_option linter.defProp false
namespace Go.Rex
open Go.RowKit
section
variable {C:Ctx} {P:Program} {ops:Array Oper} {rest:List Oper} {tm tm2:List TV} {hp hp2:List TB} {Q:TS→Prop} {o:Oper}
variable {dst:Option Tmp} {ty:TypeId} {pos:String} {aft:Array Edge} {gd:Option (Nat×Bool)} {p q:TV} {ms:List Nat} {i:Nat} {np:List Nat} {c:Nat}
theorem tmlc{α β:Type}{f:α→β}{xs:List α}{n:Nat}(h:xs.length=n):(xs.map f).take n=xs.map f:=by subst h;exact tml
theorem iaP{α:Type}{xs:List α}{u:α}{t e:TypeId}{x y:Operand}{n es:Nat}{k:IntKind}{iv:Int}{row:List TV}{vb:Bool}(hg:fN xs iv=some u)(hx:tev tm x = .fptr vb row 0)(hy:tev tm y = .v (.int k iv))(hso:dM P t=none)(ha:kT P t=some (n, e))(hn:xs.length=n)(ho:okT P e=true)(hes:P.cellsOf e=es) :
 tpop P hp tm { dst:=dst,op:=.indexAddr t x y,type:=ty,pos:=pos,after:=aft,guard:=gd }=some (.fptr vb row (0+iv.toNat*es)):=by
 have h1:=nA hg
 simp only[tpop,hx,hy,cK,hso,ha]
 rw[if_pos ⟨h1.1,by omega,ho⟩,hes]
def Ey(P:Program)(g:FuncId):Option (Array Value→Sem Value) :=
 match P.funcs[g]? with
 | some fd => if fd.body.isNone = true ∧ (fd.name == "runtime.NumGoroutine") = false ∧ (Extern.findNext fd).isNone = true then Extern.find fd else none
 | none=>none
theorem Vg{g:FuncId}{F:Array Value→Sem Value}{vals:List Value}{v:Value}(hF:Ey P g=some F)(hc:vals.all dP=true)(hv:prun P (F ⟨vals⟩)=some v)(hcv:cN v=true)(h:List Blk):aZ P g=false∧xslow P g vals h=some (v,h,none):=by
 unfold Ey at hF
 split at hF
 ·rename_i fd hfd
  split at hF
  ·rename_i hcond
   obtain⟨h1,h2,h3⟩:=hcond
   have hb:fd.body=none:=by simpa using h1
   refine⟨by simp[aZ,hfd,hb],?_⟩
   have hcall:prun P (callFunc g ⟨vals⟩)=some (.value v):=by
    unfold callFunc
    rw[bH]
    show prun P (match P.funcs[g]? with|none=>_|some fn=>_)=_
    rw[hfd]
    simp only[h2,Bool.false_eq_true,if_false,h1,if_true]
    have hn:Extern.findNext fd=none:=by simpa using h3
    rw[hn]
    rw[bH]
    show prun P _=_
    simp only[hF]
    show prun P (F ⟨vals⟩ >>= fun r=>(pure (Next.value r):Sem Next))=_
    rw[bH,hv]
    rfl
   simp only[xslow,hfd,hb,Rm,Ts,hc,if_true,hcall,hcv,Option.map_some]
  ·cases hF
 ·cases hF
theorem Zo{fo:Operand}{g:FuncId}{args:Array Operand}{tys:Array TypeId}{l:List TV}{vals:List Value}{v:Value}(hf:tev tm fo = .func g [] [])(hl:args.toList.map (tev tm)=l)(he:l.mapM (er 3)=some vals)(hs0:∀ h, aZ P g=false∧xslow P g vals h=some (v, h, none))(hi:nM 3 v=true)(hp1:inj 3 v=p) :
 OpG C P { dst:=dst,op:=.call { callee:=.value fo,args:=args,argTypes:=tys },type:=ty,pos:=pos,after:=aft,guard:=gd } ⟨tm,hp⟩ ⟨tput tm dst p,hp⟩:=by
 subst hp1
 intro h0 Fz L vm h hs
 have hfv:=fU hs.fz hs.tmr fo
 rw[show tev (TS.mk tm hp).tm fo=_ from hf] at hfv
 obtain⟨f',c',hfe,vf,vc⟩:∃ f' c',ev vm fo = .func (.func g) ⟨f'⟩ ⟨c'⟩∧VLs Fz h noL [] f'∧VLs Fz h noL [] c':=by
  generalize ev vm fo=y at *
  cases hfv with
  | func _ _ _ _ a' b' la ha lb hb=>exact⟨a',b',rfl,⟨la,ha⟩,⟨lb,hb⟩⟩
 have hf0:f'=[]:=by have:=vf.len;simpa using this
 have hc0:c'=[]:=by have:=vc.len;simpa using this
 subst hf0 hc0
 have hargs:=Bz hs.fz hs.tmr args.toList
 rw[show args.toList.map (tev (TS.mk tm hp).tm)=l from hl] at hargs
 obtain⟨q1,q2⟩:=wY he
 have hve:args.toList.map (ev vm)=vals:=by
  apply List.ext_getElem?
  intro j
  cases hx:(args.toList.map (ev vm))[j]? with
  | none =>
   rw[List.getElem?_eq_none_iff] at hx
   rw[eq_comm,List.getElem?_eq_none_iff]
   have:=hargs.len
   omega
  | some x =>
   have hj:=(List.getElem?_eq_some_iff.1 hx).1
   have hll:=hargs.len
   have hp':l[j]?=some l[j]:=List.getElem?_eq_getElem (by omega)
   have hy:vals[j]?=some vals[j]:=List.getElem?_eq_getElem (by omega)
   rw[hy,VL.er 3 (q2 j _ _ hp' hy) (hargs.at' j _ _ hp' hx)]
 obtain⟨hg,hx⟩:=hs0 h
 refine⟨rfl,v,h,?_,Ext.refl h,Fz,L,Grow.refl _ _,hs.put dst (VL.inj 3 hi)⟩
 simp only[xop,hop,bhop]
 rw[Hr]
 simp only[hfe]
 rw[if_neg (by rw[hg];exact Bool.false_ne_true)]
 simp only[List.nil_append,List.append_nil,hve]
 exact hx
theorem Zs{fo:Operand}{g:FuncId}{args:Array Operand}{tys:Array TypeId}{F:Array Value→Sem Value}{l:List TV}{vals:List Value}{v:Value}(hf:tev tm fo = .func g [] [])(hF:Ey P g=some F)(hl:args.toList.map (tev tm)=l)(he:l.mapM (er 3)=some vals)(hc:vals.all dP=true)(hv:prun P (F ⟨vals⟩)=some v)(hcv:cN v=true)(hi:nM 3 v=true)(hp1:inj 3 v=p) :
 OpG C P { dst:=dst,op:=.call { callee:=.value fo,args:=args,argTypes:=tys },type:=ty,pos:=pos,after:=aft,guard:=gd } ⟨tm,hp⟩ ⟨tput tm dst p,hp⟩:=Zo hf hl he (fun h=>Vg hF hc hv hcv h) hi hp1
theorem TO.ex{fo:Operand}{g:FuncId}{args:Array Operand}{tys:Array TypeId}{F:Array Value→Sem Value}{l:List TV}{vals:List Value}{v:Value}(hw:twant ops tm { dst := dst, op := .call { callee := .value fo, args := args, argTypes := tys }, type := ty, pos := pos, after := aft, guard := gd }=some true)(hf:tev tm fo = .func g [] [])(hF:Ey P g=some F)(hl:args.toList.map (tev tm)=l)(he:l.mapM (er 3)=some vals)(hc:vals.all dP=true)(hv:prun P (F ⟨vals⟩)=some v)(hcv:cN v=true)(hi:nM 3 v=true)(hp1:inj 3 v=p)
 (ht:tput tm dst p=tm2) (hq:TO C P ops rest ⟨tm2,hp⟩ Q):TO C P ops ({ dst:=dst,op:=.call { callee:=.value fo,args:=args,argTypes:=tys },type:=ty,pos:=pos,after:=aft,guard:=gd }::rest) ⟨tm,hp⟩ Q:=by
 subst ht;exact TO.g hw (Zs hf hF hl he hc hv hcv hi hp1) hq
variable {x y:Operand} {t u:TypeId}
theorem Ba{b:BinOp}{v w:Value}{r:Option Value}(he:prun P (eqGuard b t x y v w)=some ())(hw:prun P (binOp b t v w)=r):prun P (eqGuard b t x y v w >>= fun _=>binOp b t v w)=r:=by
 rw[bH,he,Option.bind_some,hw]
theorem wQ{b:BinOp}{k k':FloatKind}{a d:Nat}:prun P (eqGuard b t x y (.float k a) (.float k' d))=some ():=by
 cases b<;>rfl
theorem jB{b:BinOp}{k:FloatKind}{a d:Nat}(h:tev tm x = .v (.float k a))(g:tev tm y = .v (.float k d))(hb:b = .eql∨b = .neq∨b = .lss∨b = .leq∨b = .gtr∨b = .geq):tpop P hp tm { dst:=dst,op:=.binOp b t x y u,type:=ty,pos:=pos,after:=aft,guard:=gd }=some (.v (.bool (fcmp b k a d))):=by
 refine Na (r:=.bool (fcmp b k a d)) h g ?_ ?_ (.inl (Ba wQ ?_)) rfl
 ·simp[dH]
 ·rcases hb with rfl|rfl|rfl|rfl|rfl|rfl<;>simp[Gx]
 ·rcases hb with rfl|rfl|rfl|rfl|rfl|rfl<;>(simp[binOp,Op.floatCmp,fcmp];rfl)
def farith(op:BinOp)(k:FloatKind)(a b:Nat):Option Nat:=some (arN op k a b)
theorem Tu{b:BinOp}{k:FloatKind}{a d:Nat}(hb:b = .add∨b = .sub∨b = .mul∨b = .quo):prun P (Op.floatArith b k a d)=some (.float k (arN b k a d))∨prun P (Op.floatArith b k a d)=none:=by
 have e:prun P (Op.floatArith b k a d)=prun P (match farith0 b k a d with|some r=>pure (.float k r)|none=>do pure (.float k (← choose (.nanBits k a d))):Sem Value):=by
  rcases hb with rfl|rfl|rfl|rfl<;>rfl
 rw[e]
 unfold arN
 cases farith0 b k a d with
 | some r=>exact .inl rfl
 | none=>exact .inr rfl
theorem Bj{b:BinOp}{k:FloatKind}{a d r:Nat}(h:tev tm x = .v (.float k a))(g:tev tm y = .v (.float k d))(hb:b = .add∨b = .sub∨b = .mul∨b = .quo)(hr:farith b k a d=some r):tpop P hp tm { dst:=dst,op:=.binOp b t x y u,type:=ty,pos:=pos,after:=aft,guard:=gd }=some (.v (.float k r)):=by
 obtain rfl:=Option.some.inj hr
 refine Na (r:=.float k (arN b k a d)) h g ?_ ?_ ?_ rfl
 ·simp[dH]
 ·rcases hb with rfl|rfl|rfl|rfl<;>simp[Gx]
 ·have e : binOp b t (.float k a) (.float k d) = Op.floatArith b k a d := by
    rcases hb with rfl|rfl|rfl|rfl<;>simp[binOp]
  rcases Tu (P:=P) (k:=k) (a:=a) (d:=d) hb with h1|h1
  ·exact .inl (Ba wQ (by rw[e];exact h1))
  ·exact .inr (Ba wQ (by rw[e];exact h1))
theorem Rn{k:FloatKind}{a:Nat}(h:tev tm x = .v (.float k a)):tpop P hp tm { dst:=dst,op:=.unOp .neg t x,type:=ty,pos:=pos,after:=aft,guard:=gd }=some (.v (.float k (Op.negFloat k a))):=by
 have h1:tgen P tm { dst:=dst,op:=.unOp .neg t x,type:=ty,pos:=pos,after:=aft,guard:=gd }=some (inj 3 (.float k (Op.negFloat k a))):=by
  refine pQ (by simpa [Op.operands] using kW h) (Eb rfl ?_ (.inl ?_)) rfl
  ·show Za .neg (erased tm x)=_
   rw[cC h]
   rfl
  ·show prun P (Op.unary .neg (erased tm x) >>= fun r=>(pure (Next.value r):Sem Next))=_
   rw[bH,cC h]
   rfl
 exact h1
def trI(way:Ieee.Toward)(b:Nat):Option Nat :=
 if gS .f64 b=true then some b else some (FloatKind.f64.encode ((FloatKind.f64.decode b).integral way))
theorem Yn{n:String}{way:Ieee.Toward}{b r:Nat}(hn:gS .f64 b=false)(h:trI way b=some r):prun P (Extern.MathFloor.toIntegral n way #[.float .f64 b])=some (.float .f64 r):=by
 unfold trI at h
 rw[hn] at h
 obtain rfl:=Option.some.inj h
 show prun P (match FloatKind.f64.decode b with
  | .nan s t=>if FloatKind.f64.format.quiet t=t then (pure (Value.float .f64 b):Sem Value) else do
   let kept ← choose (.extern "math.Floor,Ceil,Trunc,RoundToEven.signallingNaN kept" 2)
   pure (Value.float .f64 (if kept==1 then b else FloatKind.f64.encode (.nan s (FloatKind.f64.format.quiet t))))
  | d=>pure (Value.float .f64 (FloatKind.f64.encode (d.integral way))))=_
 have hr:=Ro hn
 split
 ·rename_i s t e;exact absurd e (hr s t)
 ·rfl
variable {fo:Operand} {g:FuncId} {args:Array Operand} {tyA:Array TypeId} {F:Array Value→Sem Value}
theorem xU{k:FloatKind}{b:Nat}(h:gS k b=false):[Value.float k b].all dP=true:=by
 have e:dP (.float k b)=(true&&!gS k b):=rfl
 rw[List.all_cons,List.all_nil,e,h]
 rfl
def fbits(k:FloatKind)(b:Nat):Option Int:=if gS k b=true then none else some ((b:Nat):Int)
theorem TO.fb{k:FloatKind}{ik:IntKind}{b:Nat}{n:Int}(hw:twant ops tm { dst := dst, op := .call { callee := .value fo, args := args, argTypes := tyA }, type := ty, pos := pos, after := aft, guard := gd }=some true)(hf:tev tm fo = .func g [] [])(hF:Ey P g=some F)(hl:args.toList.map (tev tm)=[.v (.float k b)])(hb:fbits k b=some n)(hv:prun P (F ⟨[.float k b]⟩)=some (.int ik ((b:Nat):Int)))
 (ht:tput tm dst (.v (.int ik n))=tm2) (hq:TO C P ops rest ⟨tm2,hp⟩ Q):TO C P ops ({ dst:=dst,op:=.call { callee:=.value fo,args:=args,argTypes:=tyA },type:=ty,pos:=pos,after:=aft,guard:=gd }::rest) ⟨tm,hp⟩ Q:=by
 unfold fbits at hb
 split at hb
 ·cases hb
 ·rename_i hn
  obtain rfl:=Option.some.inj hb
  exact TO.ex hw hf hF hl rfl (xU (Bool.eq_false_iff.2 hn)) hv rfl rfl rfl ht hq
def Nb(P:Program)(g:FuncId):Bool:=match P.funcs[g]? with
 | some fd=>Nw fd&&fd.body.isNone
 | none=>false
theorem Pg{b:Nat}(hA:Nb P g=true)(hn:gS .f64 b=true)(h:List Blk):aZ P g=false∧xslow P g [.float .f64 b] h=some (.float .f64 b,h,none):=by
 unfold Nb at hA
 split at hA
 ·rename_i fd hfd
  simp only[Bool.and_eq_true] at hA
  obtain⟨h1,h2⟩:=hA
  have hb:fd.body=none:=by simpa using h2
  refine⟨by simp[aZ,hfd,hb],?_⟩
  have hv:Ts P g [.float .f64 b]=none:=by
   unfold Ts
   rw[if_neg]
   simp only[List.all_cons,List.all_nil,dP,depth,clean,nX,hn]
   decide
  have hz:Es fd=false:=by
   unfold Nw at h1
   simp only[Bool.and_eq_true,Bool.or_eq_true,beq_iff_eq] at h1
   unfold Es
   rcases h1.1 with e|e|e<;>rw[e]<;>rfl
  simp only[xslow,hfd,hb,Rm,hv,Ut,hz,h1,hn,Bool.false_eq_true,if_false,if_true,ite_self]
 ·cases hA
theorem TO.tr{n:String}{way:Ieee.Toward}{b r:Nat}(hw:twant ops tm { dst := dst, op := .call { callee := .value fo, args := args, argTypes := tyA }, type := ty, pos := pos, after := aft, guard := gd }=some true)(hf:tev tm fo = .func g [] [])(hF:Ey P g=some (Extern.MathFloor.toIntegral n way))(hA:Nb P g=true)(hl:args.toList.map (tev tm)=[.v (.float .f64 b)])(hr:trI way b=some r)
 (ht:tput tm dst (.v (.float .f64 r))=tm2) (hq:TO C P ops rest ⟨tm2,hp⟩ Q):TO C P ops ({ dst:=dst,op:=.call { callee:=.value fo,args:=args,argTypes:=tyA },type:=ty,pos:=pos,after:=aft,guard:=gd }::rest) ⟨tm,hp⟩ Q:=by
 subst ht
 refine TO.g hw ?_ hq
 cases hn:gS .f64 b with
 | true =>
  have e:r=b:=by unfold trI at hr;rw[hn] at hr;exact (Option.some.inj hr).symm
  subst e
  exact Zo hf hl rfl (Pg hA hn) rfl rfl
 | false=>exact Zs hf hF hl rfl (xU hn) (Yn hn hr) rfl rfl rfl
end
end Go.Rex
namespace Go.Rex
open Go.RowKit
section
variable {P:Program} {tm:List TV} {hp:List TB}
variable {dst:Option Tmp} {ty:TypeId} {pos:String} {aft:Array Edge} {gd:Option (Nat×Bool)} {x y:Operand} {t u:TypeId}
theorem Kr{g:Bool}(h:mX P t=some g):prun P (isAgg t)=some g:=by
 unfold mX at h
 unfold isAgg
 rw[bH]
 split at h
 ·rename_i hu;rw[eU hu];exact h
 ·rename_i hu;rw[eU hu];exact h
 ·rename_i d h1 h2 hu
  rw[eU hu,Option.bind_some]
  obtain rfl:=Option.some.inj h
  split
  ·exact absurd rfl (h1 _)
  ·exact absurd rfl (h2 _ _)
  ·rfl
 ·cases h
theorem lE{cs:Array Value}{off:Nat}{v:Value}(h:mX P t=some false)(hg:cs[off]?=some v):prun P (part t cs off)=some v:=by
 unfold part
 rw[bH,Kr h,Option.bind_some]
 simp only[Bool.false_eq_true,if_false,hg]
 rfl
theorem Ei{d:Nat}{k:IntKind}{a b:Int}(ht:P.underlying t=some (.int k)):prun P (Op.equalIn (d+1) t (.int k a) (.int k b))=some (a==b):=by
 unfold Op.equalIn
 rw[bH,eU ht]
 simp
 rfl
inductive EqF (P:Program) (d:Nat) (X Y:Array Value):List Field→List Bool→Prop
 | nil:EqF P d X Y [] []
 | cons {f : Field} {fs : List Field} {b : Bool} {bs : List Bool} {u v : Value} (hn : f.name ≠ "_") (hu : prun P (part f.type X f.offset) = some u) (hv : prun P (part f.type Y f.offset) = some v) (he : prun P (Op.equalIn d f.type u v) = some b) (hr : EqF P d X Y fs bs) : EqF P d X Y (f :: fs) (b :: bs)
theorem Mm{d:Nat}{X Y:Array Value}:∀(fs:List Field) (bs:List Bool), EqF P d X Y fs bs →
 prun P (forIn fs ((none, ()) : Option Bool × Unit) fun f _ => if f.name ≠ "_" then do
  if !(← Op.equalIn d f.type (← part f.type X f.offset) (← part f.type Y f.offset)) then pure (.done (some false,())) else pure (.yield (none,()))
  else pure (.yield (none,())))=some (if bs.all id then (none,()) else (some false,()))
 | [],[],.nil=>rfl
 | f::fs,b::bs,.cons hn hu hv he hr=>by
  rw[List.forIn_cons,bH]
  simp only[hn,ne_eq,not_false_eq_true,if_true]
  rw[bH,hu,Option.bind_some,bH,hv,Option.bind_some,bH,he,Option.bind_some]
  cases b with
  | false=>rfl
  | true =>
   simp only[Bool.not_true,Bool.false_eq_true,if_false,Pw,Option.bind_some,List.all_cons,id,Bool.true_and]
   exact Mm fs bs hr
theorem Dj{d:Nat}{fields:Array Field}{X Y:Array Value}{bs:List Bool}(ht:P.underlying t=some (.struct fields))(hs:P.stoodInHeld t=false)(hf:EqF P d X Y fields.toList bs):prun P (Op.equalIn (d+1) t (.agg X) (.agg Y))=some (bs.all id):=by
 unfold Op.equalIn
 rw[bH,eU ht]
 simp only[Option.bind_some]
 rw[bH,show prun P program=some P from rfl,Option.bind_some]
 simp only[hs,Bool.false_eq_true,if_false]
 have:=Mm fields.toList bs hf
 rw[bH,← Array.forIn_toList,this,Option.bind_some]
 cases bs.all id<;>rfl
theorem Ty{a b:Value}{r:Bool}(h:prun P (Op.equalIn (9999+1) t a b)=some r):prun P (Op.equal t a b)=some r:=h
end
end Go.Rex
namespace Go.Rex
open Go.RowKit
class Mv (p:Prop) (q:outParam Prop):Prop where
 mv:q→p
theorem mv{p q:Prop}[i:Mv p q](h:q):p:=i.mv h
section
variable {C:Ctx} {P:Program} {s:TS} {Q:Exit→TS→Prop} {next:TS→Prop}
instance {x y:Code}:Mv (TX C P (.seq x y) s Q) (TX C P x s (Gy (fun s=>TX C P y s Q) Q)):=⟨TX.seq⟩
instance {id:Nat} {b:Code}:Mv (TX C P (.block id b) s Q) (TX C P b s (nS id Q)):=⟨TX.block⟩
instance:Mv (TX C P .skip s Q) (Q .normal s):=⟨TX.skip⟩
instance {id:Nat}:Mv (TX C P (.exit id) s Q) (Q (.exit id) s):=⟨TX.exit⟩
instance:Mv (TX C P .ret s Q) (Q .ret s):=⟨TX.ret⟩
instance:Mv (Gy next Q .normal s) (next s):=⟨Yj⟩
instance {id:Nat}:Mv (Gy next Q (.exit id) s) (Q (.exit id) s):=⟨Yy⟩
instance:Mv (Gy next Q .ret s) (Q .ret s):=⟨Zh⟩
instance {id:Nat}:Mv (nS id Q .normal s) (Q .normal s):=⟨Td⟩
instance {id:Nat}:Mv (nS id Q .ret s) (Q .ret s):=⟨Uh⟩
instance {id:Nat}:Mv (nS id Q (.exit id) s) (Q .normal s):=⟨Qq⟩
end
def m12:=@Qp
theorem k1{a:Bool}(h:a=true):a=true:=h
theorem k2{a:Option Bool}(h:a=some true):a=some true:=h
def an{p q:Prop}:=@And.intro p q
def z6:=And.intro @List.toList_toArray.{0} <| And.intro @ite_true.{1} <| And.intro @ite_false.{1} <| And.intro @true_and <| And.intro @and_true <| And.intro @and_self <| And.intro @Bool.false_eq_true <| And.intro @decide_true @decide_false
def z7:=And.intro @List.getElem?_toArray.{0} <| And.intro @List.getElem?_cons_succ.{0} <| And.intro @List.getElem?_cons_zero.{0} @Option.bind_some.{0,0}
def zy:=And.intro z1 <| And.intro z2 z3
def zz:=And.intro z1 <| And.intro z2 <| And.intro z3 <| And.intro z4 z6
theorem wr{tm tm':List TV}{hp hp':List TB}(fl:List (Option Nat))(hok:yM fl=true)(hB:RB fl hp hp' fl)(hT:RNs fl tm tm':=by (repeat (first|exact RNs.nil|refine RNs.cons .Z ?_|refine RNs.cons (.keep rfl rfl) ?_|refine RNs.cons (.lsl rfl rfl) ?_|refine RNs.cons (.lsl rfl (by simp only[List.length_set])) ?_|refine RNs.cons (.lptr rfl) ?_|refine RNs.cons (.nil rfl) ?_|refine RNs.cons .nl ?_|refine RNs.cons (.tuple' ?_) ?_|refine RNs.cons (.agg' ?_) ?_))):Wk ⟨tm,hp⟩ ⟨tm',hp'⟩:=Wk.ren fl hok hB hT
theorem rv{fl:List (Option Nat)}{hp:List TB}{n:Nat}{row row':List TV}{hp':List TB}{l:List (Option Nat)}(h:RB fl hp hp' l)(hb:hp[n]?=some (.var row))(hr:RNs fl row row':=by (repeat (first|exact RNs.nil|refine RNs.cons .Z ?_|refine RNs.cons (.keep rfl rfl) ?_|refine RNs.cons (.lsl rfl rfl) ?_|refine RNs.cons (.lsl rfl (by simp only[List.length_set])) ?_|refine RNs.cons (.lptr rfl) ?_|refine RNs.cons (.nil rfl) ?_|refine RNs.cons .nl ?_|refine RNs.cons (.tuple' ?_) ?_|refine RNs.cons (.agg' ?_) ?_))):RB fl hp (.var row'::hp') (some n::l):=.var h hb hr
section
variable {C:Ctx} {P:Program} {ops:Array Oper} {rest:List Oper} {tm tm2:List TV} {hp:List TB} {Q:TS→Prop}
variable {dst:Option Tmp} {ty:TypeId} {pos:String} {aft:Array Edge} {gd:Option (Nat×Bool)} {ms:List Nat} {i:Nat} {np:List Nat} {c:Nat}
theorem bmG{α:Type}{f:α→List TV}{xs:List α}{t:TypeId}{n es:Nat}{ps:Array (Nat×Operand)}{l:List (Nat×TV)}{rows:List (List TV)}(hx:ps.toList.map (fun q => (q.1, tev tm q.2))=l)(hv:tslice P t n l=some (es, rows))(hr:rows=xs.map f) :
 OpG C P { dst:=dst,op:=.buildSlice t n ps,type:=ty,pos:=pos,after:=aft,guard:=gd } ⟨tm,hp⟩ ⟨tput tm dst (.list es (xs.map f)),hp⟩:=by
 subst hr
 exact OpG.buildSlice (s:=⟨tm,hp⟩) (by simp only[hx];exact hv)
theorem TO.bm{α:Type}(f:α→List TV)(xs:List α){t:TypeId}{n es:Nat}{ps:Array (Nat×Operand)}{l:List (Nat×TV)}{rows:List (List TV)}(hw:twant ops tm { dst := dst, op := .buildSlice t n ps, type := ty, pos := pos, after := aft, guard := gd }=some true)(hx:ps.toList.map (fun q => (q.1, tev tm q.2))=l)(hv:tslice P t n l=some (es, rows))(hr:rows=xs.map f)
 (ht:tput tm dst (.list es (xs.map f))=tm2) (hq:TO C P ops rest ⟨tm2,hp⟩ Q):TO C P ops ({ dst:=dst,op:=.buildSlice t n ps,type:=ty,pos:=pos,after:=aft,guard:=gd }::rest) ⟨tm,hp⟩ Q:=by
 subst ht;exact TO.g hw (bmG hx hv hr) hq
theorem TD.bm{α:Type}(f:α→List TV)(xs:List α){t:TypeId}{n es:Nat}{ps:Array (Nat×Operand)}{l:List (Nat×TV)}{rows:List (List TV)}(hw:twant ops tm { dst := dst, op := .buildSlice t n ps, type := ty, pos := pos, after := aft, guard := gd }=some true)(hx:ps.toList.map (fun q => (q.1, tev tm q.2))=l)(hv:tslice P t n l=some (es, rows))(hr:rows=xs.map f)
 (ht:tput tm dst (.list es (xs.map f))=tm2) (hq:TD C P ops ms rest (i+1) (i::np) 0 ⟨tm2,hp⟩ Q):TD C P ops ms ({ dst:=dst,op:=.buildSlice t n ps,type:=ty,pos:=pos,after:=aft,guard:=gd }::rest) i np 0 ⟨tm,hp⟩ Q:=by
 subst ht;exact TD.g hw (bmG hx hv hr) hq
end
end Go.Rex
namespace Go.Rex
open Go.RowKit
theorem Lx{α:Type}{f:α→List TV}{xs:List α}{u:α}{es k fo:Nat}{P:Program}{p:TV}{t:TypeId}(hf:∀ a,(f a).length=es)(hk:xs[k]?=some u)(hp:fM P t (f u) fo=some p):fM P t ((xs.map f).flatten) (k*es+fo)=some p:=by
 obtain⟨h1,h2⟩:=Rh hf hk
 unfold fM at hp ⊢
 split at hp
 ·rename_i ha
  split at hp
  ·rename_i hc
   obtain⟨ho,hle⟩:=hc
   rw[hf] at hle
   obtain rfl:=Option.some.inj hp
   rw[if_pos ⟨ho,by omega⟩,← h1,List.drop_take,List.take_take,List.drop_drop,Nat.min_eq_left (by omega)]
  ·cases hp
 ·have hlt:=(List.getElem?_eq_some_iff.1 hp).1
  rw[hf] at hlt
  rw[← h1,List.getElem?_take,if_pos hlt,List.getElem?_drop] at hp
  exact hp
 ·cases hp
theorem Lg{α:Type}{f:α→List TV}{xs:List α}{u:α}{es fo off:Nat}{P:Program}{hp:List TB}{p:TV}{t:TypeId}{iv:Int}{row:List TV}{vb:Bool}(hg:fN xs iv=some u)(hc:row=(xs.map f).flatten)(hf:∀ a,(f a).length=es)(hoff:off=0+iv.toNat*es+fo)(hpp:fM P t (f u) fo=some p):tload P hp t (.fptr vb row off)=some p:=by
 subst hoff hc
 simp only[tload,hG,Nat.zero_add]
 exact Lx hf (pR hg) hpp
section
variable {C:Ctx} {P:Program} {ops:Array Oper} {rest:List Oper} {tm tm2:List TV} {hp hp2:List TB} {Q:TS→Prop} {o:Oper}
variable {dst:Option Tmp} {ty:TypeId} {pos:String} {aft:Array Edge} {gd:Option (Nat×Bool)} {p q:TV} {ms:List Nat} {i:Nat} {np:List Nat} {c:Nat}
end
inductive EqI (P:Program) (d:Nat) (X Y:Array Value) (e n:Nat):Nat→List Bool→Prop
 | nil (i:Nat):EqI P d X Y e n i []
 | cons {i:Nat} {b:Bool} {bs:List Bool} {u v:Value} (hu:prun P (part e X (i*n))=some u) (hv:prun P (part e Y (i*n))=some v) (he:prun P (Op.equalIn d e u v)=some b) (hr:EqI P d X Y e n (i+1) bs):EqI P d X Y e n i (b::bs)
def wT(s:ByteArray)(i:Int):Option Int:=if 0≤i then (s[i.toNat]?).map fun b=>((b.toNat:Nat):Int) else none
section
variable {P:Program} {tm:List TV} {hp:List TB} {dst:Option Tmp} {ty:TypeId} {pos:String} {aft:Array Edge} {gd:Option (Nat×Bool)}
theorem lG{t:TypeId}{x y:Operand}{s:ByteArray}{k:IntKind}{iv r:Int}(h:tev tm x = .v (.string s))(g:tev tm y = .v (.int k iv))(ht:P.underlying t=some .string)(hr:wT s iv=some r):tpop P hp tm { dst:=dst,op:=.index t x y,type:=ty,pos:=pos,after:=aft,guard:=gd }=some (.v (.int .u8 r)):=by
 have h1:tgen P tm { dst:=dst,op:=.index t x y,type:=ty,pos:=pos,after:=aft,guard:=gd }=some (.v (.int .u8 r)):=by
  refine Br (v:=.int .u8 r) ?_ (fun cs b e=>by cases e) (by simpa [Op.operands] using ⟨kW h,kW g⟩) (by simp[Op.operands,cC h,cC g,cN];exact⟨rfl,rfl⟩) ?_ rfl rfl
  ·simp only[Rex.pop0,cC h,cC g,Bg,ht,mE]
  ·show prun P ((Instr.index t (erased tm x) (erased tm y)) >>= fun r=>(pure (Next.value r):Sem Next))=_
   rw[bH,cC h,cC g]
   unfold Instr.index
   unfold wT at hr
   rw[bH,show prun P (asIntOf (.int k iv))=some (k,iv) from rfl,Option.bind_some]
   simp only
   rw[bH,eU ht,Option.bind_some]
   simp only
   split at hr
   ·rename_i hi
    simp only[hi,if_true]
    rw[Option.map_eq_some_iff] at hr
    obtain⟨b,hb,rfl⟩:=hr
    rw[hb]
    rfl
   ·cases hr
 simp only[tpop,h,g,tindex,kT,ht,orT]
 exact h1
end
end Go.Rex
namespace Go.Rex
open Go.RowKit
def Keeps(h h':List Blk):Prop:=h.length≤h'.length∧∀ m:Nat,h[m]?=some Blk.dfr→h'[m]?=some Blk.dfr
section
variable {P:Program} {C:Ctx}
structure CKeeps(C:Ctx):Prop where
 call:∀ {f args h v h' w},C.call f args h=some (v,h',w)→Keeps h h'
 round:∀ {l args h v h' w},C.round l args h=some (v,h',w)→Keeps h h'
end
end Go.Rex
namespace Go.Rex
open Go.RowKit
section
variable {Fz Fz':Nat→Prop} {h0 h h':List Blk} {L:Nat→LI} {s s':TS} {tm:List Value}
end
section
variable {C:Ctx} {P:Program} {s s':TS} {Q Q':Exit→TS→Prop}
end
end Go.Rex
namespace Go.Rex
open Go.RowKit
structure Out(X:Type) where
 lo:Nat
 base:Nat
 R:X→(Nat→Prop)→List Blk→Prop
 hlo:lo≤base
 stay:∀ {x:X} {Fz Fz':Nat→Prop} {h h':List Blk},R x Fz h→Ext h h'→Grow h Fz Fz' h h'→(FZ Fz' h')→R x Fz' h'
section
variable {E X:Type} {C:Ctx} {P:Program} {O:Out X}
variable {tm tm':List TV} {s s':TS} {x:X} {Q Q':Exit→List TV→X→Prop} {c:Code}
structure Back(o:Oper)(f:Operand)(args:List Operand)(dst:Option Tmp):Prop where
 eq:∃(tys:Array TypeId) (ty:TypeId) (pos:String) (aft:Array Edge) (gd:Option (Nat×Bool)),o={ dst:=dst,op:=.call { callee:=.value f,args:=⟨args⟩,argTypes:=tys },type:=ty,pos:=pos,after:=aft,guard:=gd }
section
variable {nexty:List TV→X→Prop}
end
end
end Go.Rex
namespace Go.Rex
open Go.RowKit
def odsts:List Oper→List Nat
 | []=>[]
 | o::l=>match o.dst with
  | some d=>d::odsts l
  | none=>odsts l
def cdsts:Code→List Nat
 | .seq x y=>cdsts x++cdsts y
 | .cond _ x y=>cdsts x++cdsts y
 | .block _ b=>cdsts b
 | .loop b=>cdsts b
 | .region _ ops _=>odsts ops.toList
 | _=>[]
section
variable {P:Program} {C:Ctx}
end
end Go.Rex
namespace Go.Rex
open Go.RowKit
section
variable {Fz Fz':Nat→Prop} {h0 h h':List Blk} {L:Nat→LI} {s s':TS} {tm:List Value}
end
section
variable {P:Program}
variable {s:TS} {Q:Exit→TS→Prop}
end
end Go.Rex
namespace Go.Rex
open Go.RowKit
section
variable {C:Ctx} {P:Program} {tm tm2:List TV} {hp:List TB} {ops:Array Oper} {rest:List Oper} {Q:TS→Prop}
variable {dst:Option Tmp} {ty:TypeId} {pos:String} {aft:Array Edge} {gd:Option (Nat×Bool)} {x y:Operand} {t u:TypeId}
open Classical in
end
end Go.Rex
namespace Go.Rex
open Go.RowKit
section
variable {C:Ctx} {P:Program} {Fz:Nat→Prop} {h h0:List Blk} {L:Nat→LI} {s:TS} {tm:List Value}
variable {dst:Option Tmp} {ty:TypeId} {pos:String} {aft:Array Edge} {gd:Option (Nat×Bool)}
end
def aAr{α:Type}(xs:List α)(k:Int):Option Nat:=if 0≤k∧k≤xs.length∧0<xs.length then some k.toNat else none
section
variable {C:Ctx} {P:Program} {ops:Array Oper} {rest:List Oper} {tm tm2:List TV} {hp hp2:List TB} {Q:TS→Prop} {o:Oper}
variable {dst:Option Tmp} {ty:TypeId} {pos:String} {aft:Array Edge} {gd:Option (Nat×Bool)} {p q:TV} {ms:List Nat} {i:Nat} {np:List Nat} {c:Nat}
end
section
variable {C:Ctx} {P:Program} {tm tm2:List TV} {hp hp2:List TB} {Q:Exit→TS→Prop} {c:Code}
end
end Go.Rex
namespace Go.Rex
open Go.RowKit
def Jp(P:Program)(g:FuncId)(res:List Blk→Value×List Blk)(k:Nat):Nat→Ctx
 | 0=>⟨fun _ _ _=>none,fun _ _ _=>none⟩
 | d+1=>⟨fun f args h=>if f=g then (match args with|[]=>some ((res h).1,(res h).2,none)|_=>none) else iR (Jp P g res k d) P k f args h,qT (Jp P g res k d) P k⟩
def Xg(P:Program)(g:FuncId)(res:List Blk→Value×List Blk):Prop :=
 ∀(h:List Blk) (B lo:Nat) (D:Nat→Prop) (m:NMap) (w:World),Rel B lo D m h w→lo≤h.length→Calls P g ⟨[]⟩ w (Good B lo D m h w (res h).1 (res h).2)
theorem zW{P:Program}(hm:P.follows .mixedOrders=true){g:FuncId}{res:List Blk→Value×List Blk}(hres:Xg P g res)(k:Nat):∀ d,CtxOk P (Jp P g res k d)
 | 0=>⟨fun h=>by simp[Jp] at h,fun h=>by simp[Jp] at h⟩
 | d+1 =>
  have hD:mM P (Jp P g res k d):=fun {_ _ _ _ _ _ _} hv {_ _ _ _ _ _ _ _ _} hr hlo hA hw hQ=>qR (zW hm hres k d) hm hv hr hlo hA hw hQ
  ⟨fun {f args h v h' wr} hv {B lo D m w args'} hr hlo hw hargs=>by
   simp only[Jp] at hv
   split at hv
   ·rename_i hf
    subst hf
    split at hv
    ·obtain⟨rfl,rfl,rfl⟩:(res h).1=v∧(res h).2=h'∧none=wr:=by simpa using hv
     obtain rfl:args'=[]:=by have:=hargs.len;simpa using this
     exact hres _ _ _ _ _ _ hr hlo
    ·cases hv
   ·exact kP (zW hm hres k d) hD hv hr hlo hw hargs,fun h=>oT (zW hm hres k d) hD h⟩
def Yb(P:Program)(g:FuncId)(res:List Blk→Value×List Blk)(k d:Nat)(f:FuncId)(args:List Value)(h:List Blk):AOut:=(Jp P g res k d).call f args h
theorem Ur{P:Program}(hm:P.follows .mixedOrders=true){g:FuncId}{res:List Blk→Value×List Blk}(hres:Xg P g res){k d:Nat}{f:FuncId}(hv:wV (Yb P g res k d f [] GH)=true):AwT P f:=by
 intro w hgw hgs
 unfold wV at hv
 split at hv
 ·rename_i h' hx
  refine ((zW hm hres k d).call hx (Rel.start w hgw hgs) (Nat.le_refl _) (fun n h=>by cases h) VRs.nil).mono ?_
  rintro e w' ⟨v',m',rfl,hp,hvr⟩
  cases hvr
  exact⟨rfl,hp.below⟩
 ·cases hv
def Olds(h h':List Blk)(w:Option Nat):Prop:=h.length≤h'.length∧∀ m:Nat,m<h.length→wge w (m+1)=true→h'[m]?=h[m]?
section
variable {P:Program} {C:Ctx}
structure COlds(C:Ctx):Prop where
 call:∀ {f args h v h' w},C.call f args h=some (v,h',w)→Olds h h' w
 round:∀ {l args h v h' w},C.round l args h=some (v,h',w)→Olds h h' w
end
end Go.Rex
namespace Go.Rex
open Go.RowKit
section
variable {C:Ctx} {P:Program} {h0 h h':List Blk} {Fz Fz':Nat→Prop} {L L':Nat→LI} {s s':TS} {tm:List Value}
def stays(args:List TV)(c:Code)(tm:List TV)(n:Nat):Bool:=(List.range args.length).any fun i=>match args[i]?,tm[i]? with
 | some (.lsl m 0 _),some (.lsl m' 0 _)=>m==n&&m'==n&&!(cdsts c).contains i
 | _,_=>false
end
end Go.Rex
namespace Go.Rex
open Go.RowKit
section
variable {C:Ctx} {P:Program} {h0 h h':List Blk} {Fz Fz':Nat→Prop} {L L':Nat→LI} {s s':TS} {tm:List Value} {dst:Option Tmp} {ty:TypeId} {pos:String} {aft:Array Edge} {gd:Option (Nat×Bool)}
variable {ops:Array Oper} {o:Oper} {rest:List Oper} {Q:TS→Prop} {ms:List Nat} {i:Nat} {np:List Nat} {c:Nat} {tv tv2:List TV} {hp hp2:List TB}
end
end Go.Rex
namespace Go.Rex
open Go.RowKit
section
variable {C:Ctx} {P:Program} {s s':TS} {dst:Option Tmp} {ty:TypeId} {pos:String} {aft:Array Edge} {gd:Option (Nat×Bool)}
noncomputable def Zx{α:Type}(a b:List α):List α:=if b.length=a.length then b else a
inductive Pair:List TB→List TB→List TB→Prop
 | nil:Pair [] [] []
 | cons {es:Nat} {α:Type} {f:α→List TV} {a b:List α} {B B' B2:List TB} (h:Pair B B' B2):Pair (.rows es (a.map f)::B) (.rows es (b.map f)::B') (.rows es ((Zx a b).map f)::B2)
variable {ops:Array Oper} {o:Oper} {rest:List Oper} {Q:TS→Prop} {ms:List Nat} {i:Nat} {np:List Nat} {c:Nat} {tv tv2:List TV} {hp hp2:List TB}
end
end Go.Rex
namespace Go.Rex
section
variable {P:Program} {tm:List TV} {hp:List TB} {dst:Option Tmp} {ty:TypeId} {pos:String} {aft:Array Edge} {gd:Option (Nat×Bool)} {x y z:Operand} {tys:List TypeId}
end
end Go.Rex
open Go Go.Rex Go.RowKit
namespace Go.Rex
theorem wA{A G H:Prop}(T:A)(h:A→H→G:=by (intro T g;(repeat (first|with_reducible refine mv ?_|with_reducible refine m12 rfl ?_|with_reducible refine TO.nil ?_|((with_reducible first|apply TO.mv|apply TO.asg|apply TO.bin|apply TO.ld|apply TO.fa|apply TO.ia|apply TO.pk|apply TO.sv|apply TO.al|apply TO.bld|apply TO.ext|apply TO.mf|apply TO.fld);(repeat (focus (show _=_;first|exact k1 rfl|exact k2 rfl|(simp only[zz,T,Nat.reduceAdd,Nat.reduceMul,Nat.reduceLeDiff,Nat.reduceEqDiff,tload,hG,fM,List.getElem?_map,bS,cK,Nat.zero_add,tlen,tbuild,tfill,tfield]<;>exact rfl)|exact rfl)));(with_reducible apply TO.here))|((with_reducible apply TO.skip1);(repeat (focus (show _=_;first|exact k1 rfl|exact k2 rfl|(simp only[zz,T,Nat.reduceAdd,Nat.reduceMul,Nat.reduceLeDiff,Nat.reduceEqDiff,twant,List.getElem?_toArray,Option.bind_some]<;>exact rfl)|exact rfl)));(with_reducible apply TO.here))|with_reducible refine TD.nil ?_|((with_reducible first|apply TD.mv|apply TD.asg|apply TD.bin|apply TD.ld|apply TD.fa|apply TD.ia|apply TD.pk|apply TD.sv|apply TD.al|apply TD.bld|apply TD.ext|apply TD.fld);(repeat (focus (show _=_;first|exact k1 rfl|exact k2 rfl|(simp only[zz,T,Nat.reduceAdd,Nat.reduceMul,Nat.reduceLeDiff,Nat.reduceEqDiff,tload,hG,fM,List.getElem?_map,bS,cK,Nat.zero_add,tlen,tbuild,tfill,tfield]<;>exact rfl)|exact rfl)));(with_reducible refine TD.here ?_))|((with_reducible apply TD.skip1);(repeat (focus (show _=_;first|exact k1 rfl|exact k2 rfl|(simp only[zz,T,Nat.reduceAdd,Nat.reduceMul,Nat.reduceLeDiff,Nat.reduceEqDiff,twant,List.getElem?_toArray,Option.bind_some]<;>exact rfl)|exact rfl)));(with_reducible refine TD.here ?_))|((with_reducible apply TX.cond_true);(focus rfl);(focus (first|rfl|(simp only[z1,Bool.not_true,Bool.not_false,T];done))))|((with_reducible apply TX.cond_false);(focus rfl);(focus (first|rfl|(simp only[z1,Bool.not_true,Bool.not_false,T];done))))|((with_reducible apply TX.region);(focus (simp only[List.toList_toArray]<;>exact rfl));(focus rfl);(try dsimp only))|((with_reducible apply TX.drawn);(focus decide +kernel);(focus (simp only[List.toList_toArray]<;>exact rfl));(focus exact rfl);(try dsimp only))|fail));exact g))(g:H):G:=h T g
theorem wa_{A G H:Prop}(T:A)(h:A→H→G:=by (intro T g;(repeat (first|with_reducible refine mv ?_|with_reducible refine m12 rfl ?_|with_reducible refine TO.nil ?_|((with_reducible first|apply TO.mv|apply TO.asg|apply TO.bin|apply TO.fa|apply TO.ia|apply TO.pk|apply TO.sv|apply TO.al|apply TO.bld|apply TO.ext|apply TO.mf|apply TO.fld);(repeat (focus (show _=_;first|exact k1 rfl|exact k2 rfl|(simp only[zz,T,Nat.reduceAdd,Nat.reduceMul,Nat.reduceLeDiff,Nat.reduceEqDiff,tload,hG,fM,List.getElem?_map,bS,cK,Nat.zero_add,tlen,tbuild,tfill,tfield]<;>exact rfl)|exact rfl)));(with_reducible apply TO.here))|((with_reducible apply TO.skip1);(repeat (focus (show _=_;first|exact k1 rfl|exact k2 rfl|(simp only[zz,T,Nat.reduceAdd,Nat.reduceMul,Nat.reduceLeDiff,Nat.reduceEqDiff,twant,List.getElem?_toArray,Option.bind_some]<;>exact rfl)|exact rfl)));(with_reducible apply TO.here))|with_reducible refine TD.nil ?_|((with_reducible first|apply TD.mv|apply TD.asg|apply TD.bin|apply TD.fa|apply TD.ia|apply TD.pk|apply TD.sv|apply TD.al|apply TD.bld|apply TD.ext|apply TD.fld);(repeat (focus (show _=_;first|exact k1 rfl|exact k2 rfl|(simp only[zz,T,Nat.reduceAdd,Nat.reduceMul,Nat.reduceLeDiff,Nat.reduceEqDiff,tload,hG,fM,List.getElem?_map,bS,cK,Nat.zero_add,tlen,tbuild,tfill,tfield]<;>exact rfl)|exact rfl)));(with_reducible refine TD.here ?_))|((with_reducible apply TD.skip1);(repeat (focus (show _=_;first|exact k1 rfl|exact k2 rfl|(simp only[zz,T,Nat.reduceAdd,Nat.reduceMul,Nat.reduceLeDiff,Nat.reduceEqDiff,twant,List.getElem?_toArray,Option.bind_some]<;>exact rfl)|exact rfl)));(with_reducible refine TD.here ?_))|((with_reducible apply TX.cond_true);(focus rfl);(focus (first|rfl|(simp only[z1,Bool.not_true,Bool.not_false,T];done))))|((with_reducible apply TX.cond_false);(focus rfl);(focus (first|rfl|(simp only[z1,Bool.not_true,Bool.not_false,T];done))))|((with_reducible apply TX.region);(focus (simp only[List.toList_toArray]<;>exact rfl));(focus rfl);(try dsimp only))|((with_reducible apply TX.drawn);(focus decide +kernel);(focus (simp only[List.toList_toArray]<;>exact rfl));(focus exact rfl);(try dsimp only))|fail));exact g))(g:H):G:=h T g
theorem wB{A G H:Prop}(T:A)(h:A→H→G:=by (intro T g;(repeat (first|with_reducible refine mv ?_|with_reducible refine m12 rfl ?_|with_reducible refine TO.nil ?_|((with_reducible first|apply TO.mv|apply TO.asg|apply TO.bin|apply TO.ld|apply TO.fa|apply TO.ia|apply TO.pk|apply TO.sv|apply TO.al|apply TO.bf|apply TO.bld|apply TO.ext|apply TO.mf|apply TO.fld);(repeat (focus (show _=_;first|exact k1 rfl|exact k2 rfl|(simp only[zz,T,Nat.reduceAdd,Nat.reduceMul,Nat.reduceLeDiff,Nat.reduceEqDiff,tload,hG,fM,List.getElem?_map,bS,cK,Nat.zero_add,tlen,tbuild,tfill,tfield]<;>exact rfl)|exact rfl)));(with_reducible apply TO.here))|((with_reducible apply TO.skip1);(repeat (focus (show _=_;first|exact k1 rfl|exact k2 rfl|(simp only[zz,T,Nat.reduceAdd,Nat.reduceMul,Nat.reduceLeDiff,Nat.reduceEqDiff,twant,List.getElem?_toArray,Option.bind_some]<;>exact rfl)|exact rfl)));(with_reducible apply TO.here))|with_reducible refine TD.nil ?_|((with_reducible first|apply TD.mv|apply TD.asg|apply TD.bin|apply TD.ld|apply TD.fa|apply TD.ia|apply TD.pk|apply TD.sv|apply TD.al|apply TD.bld|apply TD.ext|apply TD.fld);(repeat (focus (show _=_;first|exact k1 rfl|exact k2 rfl|(simp only[zz,T,Nat.reduceAdd,Nat.reduceMul,Nat.reduceLeDiff,Nat.reduceEqDiff,tload,hG,fM,List.getElem?_map,bS,cK,Nat.zero_add,tlen,tbuild,tfill,tfield]<;>exact rfl)|exact rfl)));(with_reducible refine TD.here ?_))|((with_reducible apply TD.skip1);(repeat (focus (show _=_;first|exact k1 rfl|exact k2 rfl|(simp only[zz,T,Nat.reduceAdd,Nat.reduceMul,Nat.reduceLeDiff,Nat.reduceEqDiff,twant,List.getElem?_toArray,Option.bind_some]<;>exact rfl)|exact rfl)));(with_reducible refine TD.here ?_))|((with_reducible apply TX.cond_true);(focus rfl);(focus (first|rfl|(simp only[z1,Bool.not_true,Bool.not_false,T];done))))|((with_reducible apply TX.cond_false);(focus rfl);(focus (first|rfl|(simp only[z1,Bool.not_true,Bool.not_false,T];done))))|((with_reducible apply TX.region);(focus (simp only[List.toList_toArray]<;>exact rfl));(focus rfl);(try dsimp only))|((with_reducible apply TX.drawn);(focus decide +kernel);(focus (simp only[List.toList_toArray]<;>exact rfl));(focus exact rfl);(try dsimp only))|fail));exact g))(g:H):G:=h T g
theorem wb_{A G H:Prop}(T:A)(h:A→H→G:=by (intro T g;(repeat (first|with_reducible refine mv ?_|with_reducible refine m12 rfl ?_|with_reducible refine TO.nil ?_|((with_reducible first|apply TO.mv|apply TO.asg|apply TO.bin|apply TO.fa|apply TO.ia|apply TO.pk|apply TO.sv|apply TO.al|apply TO.bf|apply TO.bld|apply TO.ext|apply TO.mf|apply TO.fld);(repeat (focus (show _=_;first|exact k1 rfl|exact k2 rfl|(simp only[zz,T,Nat.reduceAdd,Nat.reduceMul,Nat.reduceLeDiff,Nat.reduceEqDiff,tload,hG,fM,List.getElem?_map,bS,cK,Nat.zero_add,tlen,tbuild,tfill,tfield]<;>exact rfl)|exact rfl)));(with_reducible apply TO.here))|((with_reducible apply TO.skip1);(repeat (focus (show _=_;first|exact k1 rfl|exact k2 rfl|(simp only[zz,T,Nat.reduceAdd,Nat.reduceMul,Nat.reduceLeDiff,Nat.reduceEqDiff,twant,List.getElem?_toArray,Option.bind_some]<;>exact rfl)|exact rfl)));(with_reducible apply TO.here))|with_reducible refine TD.nil ?_|((with_reducible first|apply TD.mv|apply TD.asg|apply TD.bin|apply TD.fa|apply TD.ia|apply TD.pk|apply TD.sv|apply TD.al|apply TD.bld|apply TD.ext|apply TD.fld);(repeat (focus (show _=_;first|exact k1 rfl|exact k2 rfl|(simp only[zz,T,Nat.reduceAdd,Nat.reduceMul,Nat.reduceLeDiff,Nat.reduceEqDiff,tload,hG,fM,List.getElem?_map,bS,cK,Nat.zero_add,tlen,tbuild,tfill,tfield]<;>exact rfl)|exact rfl)));(with_reducible refine TD.here ?_))|((with_reducible apply TD.skip1);(repeat (focus (show _=_;first|exact k1 rfl|exact k2 rfl|(simp only[zz,T,Nat.reduceAdd,Nat.reduceMul,Nat.reduceLeDiff,Nat.reduceEqDiff,twant,List.getElem?_toArray,Option.bind_some]<;>exact rfl)|exact rfl)));(with_reducible refine TD.here ?_))|((with_reducible apply TX.cond_true);(focus rfl);(focus (first|rfl|(simp only[z1,Bool.not_true,Bool.not_false,T];done))))|((with_reducible apply TX.cond_false);(focus rfl);(focus (first|rfl|(simp only[z1,Bool.not_true,Bool.not_false,T];done))))|((with_reducible apply TX.region);(focus (simp only[List.toList_toArray]<;>exact rfl));(focus rfl);(try dsimp only))|((with_reducible apply TX.drawn);(focus decide +kernel);(focus (simp only[List.toList_toArray]<;>exact rfl));(focus exact rfl);(try dsimp only))|fail));exact g))(g:H):G:=h T g
theorem wC{A G H:Prop}(T:A)(h:A→H→G:=by (intro T g;(repeat (first|with_reducible refine mv ?_|with_reducible refine m12 rfl ?_|with_reducible refine TO.nil ?_|((with_reducible first|apply TO.mv|apply TO.asg|apply TO.bin|apply TO.ld|apply TO.fa|apply TO.ia|apply TO.pk|apply TO.sv|apply TO.al|apply TO.len|apply TO.bld|apply TO.ext|apply TO.mf|apply TO.fld);(repeat (focus (show _=_;first|exact k1 rfl|exact k2 rfl|(simp only[zz,T,Nat.reduceAdd,Nat.reduceMul,Nat.reduceLeDiff,Nat.reduceEqDiff,tload,hG,fM,List.getElem?_map,bS,cK,Nat.zero_add,tlen,tbuild,tfill,tfield]<;>exact rfl)|exact rfl)));(with_reducible apply TO.here))|((with_reducible apply TO.skip1);(repeat (focus (show _=_;first|exact k1 rfl|exact k2 rfl|(simp only[zz,T,Nat.reduceAdd,Nat.reduceMul,Nat.reduceLeDiff,Nat.reduceEqDiff,twant,List.getElem?_toArray,Option.bind_some]<;>exact rfl)|exact rfl)));(with_reducible apply TO.here))|with_reducible refine TD.nil ?_|((with_reducible first|apply TD.mv|apply TD.asg|apply TD.bin|apply TD.ld|apply TD.fa|apply TD.ia|apply TD.pk|apply TD.sv|apply TD.al|apply TD.len|apply TD.bld|apply TD.ext|apply TD.fld);(repeat (focus (show _=_;first|exact k1 rfl|exact k2 rfl|(simp only[zz,T,Nat.reduceAdd,Nat.reduceMul,Nat.reduceLeDiff,Nat.reduceEqDiff,tload,hG,fM,List.getElem?_map,bS,cK,Nat.zero_add,tlen,tbuild,tfill,tfield]<;>exact rfl)|exact rfl)));(with_reducible refine TD.here ?_))|((with_reducible apply TD.skip1);(repeat (focus (show _=_;first|exact k1 rfl|exact k2 rfl|(simp only[zz,T,Nat.reduceAdd,Nat.reduceMul,Nat.reduceLeDiff,Nat.reduceEqDiff,twant,List.getElem?_toArray,Option.bind_some]<;>exact rfl)|exact rfl)));(with_reducible refine TD.here ?_))|((with_reducible apply TX.cond_true);(focus rfl);(focus (first|rfl|(simp only[z1,Bool.not_true,Bool.not_false,T];done))))|((with_reducible apply TX.cond_false);(focus rfl);(focus (first|rfl|(simp only[z1,Bool.not_true,Bool.not_false,T];done))))|((with_reducible apply TX.region);(focus (simp only[List.toList_toArray]<;>exact rfl));(focus rfl);(try dsimp only))|((with_reducible apply TX.drawn);(focus decide +kernel);(focus (simp only[List.toList_toArray]<;>exact rfl));(focus exact rfl);(try dsimp only))|fail));exact g))(g:H):G:=h T g
theorem wc_{A G H:Prop}(T:A)(h:A→H→G:=by (intro T g;(repeat (first|with_reducible refine mv ?_|with_reducible refine m12 rfl ?_|with_reducible refine TO.nil ?_|((with_reducible first|apply TO.mv|apply TO.asg|apply TO.bin|apply TO.fa|apply TO.ia|apply TO.pk|apply TO.sv|apply TO.al|apply TO.len|apply TO.bld|apply TO.ext|apply TO.mf|apply TO.fld);(repeat (focus (show _=_;first|exact k1 rfl|exact k2 rfl|(simp only[zz,T,Nat.reduceAdd,Nat.reduceMul,Nat.reduceLeDiff,Nat.reduceEqDiff,tload,hG,fM,List.getElem?_map,bS,cK,Nat.zero_add,tlen,tbuild,tfill,tfield]<;>exact rfl)|exact rfl)));(with_reducible apply TO.here))|((with_reducible apply TO.skip1);(repeat (focus (show _=_;first|exact k1 rfl|exact k2 rfl|(simp only[zz,T,Nat.reduceAdd,Nat.reduceMul,Nat.reduceLeDiff,Nat.reduceEqDiff,twant,List.getElem?_toArray,Option.bind_some]<;>exact rfl)|exact rfl)));(with_reducible apply TO.here))|with_reducible refine TD.nil ?_|((with_reducible first|apply TD.mv|apply TD.asg|apply TD.bin|apply TD.fa|apply TD.ia|apply TD.pk|apply TD.sv|apply TD.al|apply TD.len|apply TD.bld|apply TD.ext|apply TD.fld);(repeat (focus (show _=_;first|exact k1 rfl|exact k2 rfl|(simp only[zz,T,Nat.reduceAdd,Nat.reduceMul,Nat.reduceLeDiff,Nat.reduceEqDiff,tload,hG,fM,List.getElem?_map,bS,cK,Nat.zero_add,tlen,tbuild,tfill,tfield]<;>exact rfl)|exact rfl)));(with_reducible refine TD.here ?_))|((with_reducible apply TD.skip1);(repeat (focus (show _=_;first|exact k1 rfl|exact k2 rfl|(simp only[zz,T,Nat.reduceAdd,Nat.reduceMul,Nat.reduceLeDiff,Nat.reduceEqDiff,twant,List.getElem?_toArray,Option.bind_some]<;>exact rfl)|exact rfl)));(with_reducible refine TD.here ?_))|((with_reducible apply TX.cond_true);(focus rfl);(focus (first|rfl|(simp only[z1,Bool.not_true,Bool.not_false,T];done))))|((with_reducible apply TX.cond_false);(focus rfl);(focus (first|rfl|(simp only[z1,Bool.not_true,Bool.not_false,T];done))))|((with_reducible apply TX.region);(focus (simp only[List.toList_toArray]<;>exact rfl));(focus rfl);(try dsimp only))|((with_reducible apply TX.drawn);(focus decide +kernel);(focus (simp only[List.toList_toArray]<;>exact rfl));(focus exact rfl);(try dsimp only))|fail));exact g))(g:H):G:=h T g
theorem wD{A G H:Prop}(T:A)(h:A→H→G:=by (intro T g;(repeat (first|with_reducible refine mv ?_|with_reducible refine m12 rfl ?_|with_reducible refine TO.nil ?_|((with_reducible first|apply TO.mv|apply TO.asg|apply TO.bin|apply TO.ld|apply TO.fa|apply TO.ia|apply TO.pk|apply TO.sv|apply TO.al|apply TO.bf|apply TO.len|apply TO.bld|apply TO.ext|apply TO.mf|apply TO.fld);(repeat (focus (show _=_;first|exact k1 rfl|exact k2 rfl|(simp only[zz,T,Nat.reduceAdd,Nat.reduceMul,Nat.reduceLeDiff,Nat.reduceEqDiff,tload,hG,fM,List.getElem?_map,bS,cK,Nat.zero_add,tlen,tbuild,tfill,tfield]<;>exact rfl)|exact rfl)));(with_reducible apply TO.here))|((with_reducible apply TO.skip1);(repeat (focus (show _=_;first|exact k1 rfl|exact k2 rfl|(simp only[zz,T,Nat.reduceAdd,Nat.reduceMul,Nat.reduceLeDiff,Nat.reduceEqDiff,twant,List.getElem?_toArray,Option.bind_some]<;>exact rfl)|exact rfl)));(with_reducible apply TO.here))|with_reducible refine TD.nil ?_|((with_reducible first|apply TD.mv|apply TD.asg|apply TD.bin|apply TD.ld|apply TD.fa|apply TD.ia|apply TD.pk|apply TD.sv|apply TD.al|apply TD.len|apply TD.bld|apply TD.ext|apply TD.fld);(repeat (focus (show _=_;first|exact k1 rfl|exact k2 rfl|(simp only[zz,T,Nat.reduceAdd,Nat.reduceMul,Nat.reduceLeDiff,Nat.reduceEqDiff,tload,hG,fM,List.getElem?_map,bS,cK,Nat.zero_add,tlen,tbuild,tfill,tfield]<;>exact rfl)|exact rfl)));(with_reducible refine TD.here ?_))|((with_reducible apply TD.skip1);(repeat (focus (show _=_;first|exact k1 rfl|exact k2 rfl|(simp only[zz,T,Nat.reduceAdd,Nat.reduceMul,Nat.reduceLeDiff,Nat.reduceEqDiff,twant,List.getElem?_toArray,Option.bind_some]<;>exact rfl)|exact rfl)));(with_reducible refine TD.here ?_))|((with_reducible apply TX.cond_true);(focus rfl);(focus (first|rfl|(simp only[z1,Bool.not_true,Bool.not_false,T];done))))|((with_reducible apply TX.cond_false);(focus rfl);(focus (first|rfl|(simp only[z1,Bool.not_true,Bool.not_false,T];done))))|((with_reducible apply TX.region);(focus (simp only[List.toList_toArray]<;>exact rfl));(focus rfl);(try dsimp only))|((with_reducible apply TX.drawn);(focus decide +kernel);(focus (simp only[List.toList_toArray]<;>exact rfl));(focus exact rfl);(try dsimp only))|fail));exact g))(g:H):G:=h T g
theorem wF{A G H:Prop}(T:A)(h:A→H→G:=by (intro T g;(repeat (first|with_reducible refine mv ?_|with_reducible refine m12 rfl ?_|with_reducible refine TO.nil ?_|((with_reducible first|apply TO.mv|apply TO.asg|apply TO.bin|apply TO.ld|apply TO.fa|apply TO.ia|apply TO.pk|apply TO.sv|apply TO.al|apply TO.bf|apply TO.bld|apply TO.ext|apply TO.mf|apply TO.fld);(repeat (focus (show _=_;first|exact k1 rfl|exact k2 rfl|(simp only[zz,T,Nat.reduceAdd,Nat.reduceMul,Nat.reduceLeDiff,Nat.reduceEqDiff,tload,hG,fM,List.getElem?_map,bS,cK,Nat.zero_add,tlen,tbuild,tfill,tfield,tslice,tparts]<;>exact rfl)|exact rfl)));(with_reducible apply TO.here))|((with_reducible apply TO.skip1);(repeat (focus (show _=_;first|exact k1 rfl|exact k2 rfl|(simp only[zz,T,Nat.reduceAdd,Nat.reduceMul,Nat.reduceLeDiff,Nat.reduceEqDiff,twant,List.getElem?_toArray,Option.bind_some]<;>exact rfl)|exact rfl)));(with_reducible apply TO.here))|with_reducible refine TD.nil ?_|((with_reducible first|apply TD.mv|apply TD.asg|apply TD.bin|apply TD.ld|apply TD.fa|apply TD.ia|apply TD.pk|apply TD.sv|apply TD.al|apply TD.bld|apply TD.ext|apply TD.fld);(repeat (focus (show _=_;first|exact k1 rfl|exact k2 rfl|(simp only[zz,T,Nat.reduceAdd,Nat.reduceMul,Nat.reduceLeDiff,Nat.reduceEqDiff,tload,hG,fM,List.getElem?_map,bS,cK,Nat.zero_add,tlen,tbuild,tfill,tfield,tslice,tparts]<;>exact rfl)|exact rfl)));(with_reducible refine TD.here ?_))|((with_reducible apply TD.skip1);(repeat (focus (show _=_;first|exact k1 rfl|exact k2 rfl|(simp only[zz,T,Nat.reduceAdd,Nat.reduceMul,Nat.reduceLeDiff,Nat.reduceEqDiff,twant,List.getElem?_toArray,Option.bind_some]<;>exact rfl)|exact rfl)));(with_reducible refine TD.here ?_))|((with_reducible apply TX.cond_true);(focus rfl);(focus (first|rfl|(simp only[z1,Bool.not_true,Bool.not_false,T];done))))|((with_reducible apply TX.cond_false);(focus rfl);(focus (first|rfl|(simp only[z1,Bool.not_true,Bool.not_false,T];done))))|((with_reducible apply TX.region);(focus (simp only[List.toList_toArray]<;>exact rfl));(focus rfl);(try dsimp only))|((with_reducible apply TX.drawn);(focus decide +kernel);(focus (simp only[List.toList_toArray]<;>exact rfl));(focus exact rfl);(try dsimp only))|fail));exact g))(g:H):G:=h T g
theorem sd{A:Prop}{α:Type}{a b:α}(T:A)(h:A→a=b:=by (intro T;first|exact k1 rfl|exact k2 rfl|(simp only[zz,T,Nat.reduceAdd,Nat.reduceMul,Nat.reduceLeDiff,Nat.reduceEqDiff,shift,kill,nK,frz,Kt,view,tml,tmlc,List.length_set,tlen,tslice,tparts]<;>exact rfl)|exact rfl)):a=b:=h T
theorem wn{A:Prop}{α:Type}{a b:α}(T:A)(h:A→a=b:=by (intro T;first|rfl|(simp only[twant,z1,z7,T]<;>rfl))):a=b:=h T
theorem ry{A:Prop}{α:Type}{a b:α}(T:A)(h:A→a=b:=by (intro T;simp only[zy,T,pK,tres,tload,hG,fM];exact rfl)):a=b:=h T
theorem wk_{A:Prop}(T:A){tm tm':List TV}{hp hp':List TB}(fl:List (Option Nat))(hok:yM fl=true)(hB:RB fl hp hp' fl)(hT:A→RNs fl tm tm':=by (intro T;(repeat (first|exact RNs.nil|refine RNs.cons .Z ?_|refine RNs.cons (.keep rfl rfl) ?_|refine RNs.cons (.lsl rfl rfl) ?_|refine RNs.cons (.lsl rfl (by simp only[List.length_set])) ?_|refine RNs.cons (.lptr rfl) ?_|refine RNs.cons (.nil rfl) ?_|refine RNs.cons .nl ?_|refine RNs.cons (.keep (by simp only[T]) rfl) ?_|refine RNs.cons (.tuple' ?_) ?_|refine RNs.cons (.agg' ?_) ?_)))):Wk ⟨tm,hp⟩ ⟨tm',hp'⟩:=Wk.ren fl hok hB (hT T)
theorem ifs{α:Type}{b:Bool}{x y r:Option α}(h:(if b=true then x else y)=r):(b=true∧x=r)∨(b=false∧y=r):=by cases b<;>simp_all
theorem bs{α β:Type}{x:Option α}{f:α→Option β}{r:β}(h:x.bind f=some r):∃ a,x=some a∧f a=some r:=Option.bind_eq_some_iff.1 h
theorem gx{α:Type}{xs:List α}{i:Int}{a:α}(f:α→List TV)(h:fN xs i=some a):tidx (xs.map f) i=some (f a)∧(0≤i∧i<xs.length)∧xs[i.toNat]?=some a:=And.intro (qF (f:=f) h) (And.intro (nA h) (pR h))
theorem lv{A:Prop}(T:A){b:Bool}{G:Prop}(hr:some b=some true)(h:A→b=true→G:=by (intro T hb;first|(cases hb;done)|((first|refine⟨.inl rfl,?_⟩|refine⟨.inr rfl,?_⟩);first|(simp only[pK,tres,z1,hb,Option.map_some]<;>exact rfl)|(simp only[T] at hb;simp only[pK,tres,z1,hb,Option.map_some]<;>exact rfl)))):G:=h T (Option.some.inj hr)
theorem vw{A:Prop}{α:Type}{a b:α}(T:A)(h:A→a=b:=by (intro T;simp only[view,z1,z3,List.toList_toArray,tml,tmlc,List.length_set,Nat.reduceEqDiff,if_false]<;>rfl)):a=b:=h T
end Go.Rex
namespace Go.Rex
open Go.RowKit
def al2{α β:Type}(p:α→β→Bool):List α→List β→Bool
 | [],[]=>true
 | a::s,b::t=>p a b&&al2 p s t
 | _,_=>false
theorem oU{α β:Type}{p:α→β→Bool}:∀ {s:List α} {t:List β},al2 p s t=true→t.length=s.length∧∀(i:Nat) a b,s[i]?=some a→t[i]?=some b→p a b=true
 | [],[],_=>⟨rfl,fun i a b h=>by simp at h⟩
 | [],_::_,hh=>by simp[al2] at hh
 | _::_,[],hh=>by simp[al2] at hh
 | a::s,b::t,hh=>by
  simp only[al2,Bool.and_eq_true] at hh
  obtain⟨h1,h2⟩:=oU hh.2
  refine⟨by simp[h1],fun i x y hx hy=>?_⟩
  cases i with
  | zero=>simp at hx hy;subst hx hy;exact hh.1
  | succ i=>exact h2 i x y (by simpa using hx) (by simpa using hy)
theorem Li{α:Type}{p:α→α→Bool}(h:∀ a b,p a b=true→a=b){s t:List α}(hh:al2 p s t=true):s=t:=by
 obtain⟨h1,h2⟩:=oU hh
 apply List.ext_getElem?
 intro i
 cases hs:s[i]? with
 | none=>rw[List.getElem?_eq_none_iff] at hs;rw[eq_comm,List.getElem?_eq_none_iff];omega
 | some a =>
  have hi:=(List.getElem?_eq_some_iff.1 hs).1
  have ht:t[i]?=some t[i]:=List.getElem?_eq_getElem (by omega)
  rw[ht,h a _ (h2 i a _ hs ht)]
def yP(σ:List Nat):Addr→Addr→Bool
 | ⟨n,o,none⟩,⟨n',o',none⟩=>(match σ[n]? with|some k=>Nat.beq k n'|none=>false)&&Nat.beq o o'
 | _,_=>false
def mV(σ:List Nat):Nat→Value→Value→Bool
 | 0,_,_=>false
 | d+1,a,b=>match a,b with
  | .bool x,.bool y=>x==y
  | .int k x,.int k' y=>decide (k=k')&&decide (x=y)
  | .float k x,.float k' y=>decide (k=k')&&Nat.beq x y
  | .complex k x z,.complex k' y u=>decide (k=k')&&(Nat.beq x y&&Nat.beq z u)
  | .string ⟨⟨s⟩⟩,.string ⟨⟨t⟩⟩=>decide (s=t)
  | .pointer none,.pointer none=>true
  | .pointer (some x),.pointer (some y)=>yP σ x y
  | .slice none l c,.slice none l' c'=>Nat.beq l l'&&Nat.beq c c'
  | .slice (some x) l c,.slice (some y) l' c'=>yP σ x y&&(Nat.beq l l'&&Nat.beq c c')
  | .map none,.map none=>true
  | .func (.func f) ⟨a⟩ ⟨b⟩,.func (.func g) ⟨a'⟩ ⟨b'⟩=>Nat.beq f g&&(al2 (mV σ d) a a'&&al2 (mV σ d) b b')
  | .nilFunc,.nilFunc=>true
  | .nilIface,.nilIface=>true
  | .iface t v,.iface t' v'=>Nat.beq t t'&&mV σ d v v'
  | .agg ⟨a⟩,.agg ⟨a'⟩=>al2 (mV σ d) a a'
  | .tuple ⟨a⟩,.tuple ⟨a'⟩=>al2 (mV σ d) a a'
  | _,_=>false
def dS(σ:List Nat)(D:Nat→Prop):Nat→Prop:=fun n=>∃ k,σ[n]?=some k∧D k
def mS(σ:List Nat)(m:NMap):NMap:=fun n=>m (σ[n]?.getD 0)
theorem Xh{σ:List Nat}{D:Nat→Prop}{m:NMap}:∀(d:Nat) (a b b':Value),mV σ d a b=true→VR D m b b'→VR (dS σ D) (mS σ m) a b':=by
 intro d
 induction d with
 | zero=>intro a b b' h;cases h
 | succ d ih =>
  intro a b b' h hr
  have hl:∀ {s t t':List Value},al2 (mV σ d) s t=true→VRs D m t t'→VRs (dS σ D) (mS σ m) s t':=by
   intro s t t' hh hs
   obtain⟨h1,h2⟩:=oU hh
   refine⟨hs.len.trans h1,fun i v v' hv hv'=>?_⟩
   have hi:=(List.getElem?_eq_some_iff.1 hv).1
   have ht:t[i]?=some t[i]:=List.getElem?_eq_getElem (by omega)
   exact ih v _ v' (h2 i v _ hv ht) (hs.at' i _ v' ht hv')
  have ha:∀ {x y:Addr},yP σ x y=true→∃ n o k,x=⟨n,o,none⟩∧y=⟨k,o,none⟩∧σ[n]?=some k:=by
   intro x y hh
   obtain⟨n,o,s⟩:=x
   obtain⟨n',o',s'⟩:=y
   cases s<;>cases s'<;>simp only[yP] at hh<;>try (cases hh;done)
   simp only[Bool.and_eq_true] at hh
   obtain⟨h1,h2⟩:=hh
   have h2:=Nat.eq_of_beq_eq_true h2
   subst h2
   split at h1
   ·rename_i k hk
    have h1:=Nat.eq_of_beq_eq_true h1
    subst h1
    exact⟨n,o,k,rfl,rfl,hk⟩
   ·cases h1
  have hms:∀ {n k:Nat},σ[n]?=some k→mS σ m n=m k:=fun hk=>by unfold mS;rw[hk];rfl
  unfold mV at h
  split at h
  ·cases hr;rw[eq_of_beq h];exact .bool _
  ·simp only[Bool.and_eq_true,decide_eq_true_eq] at h;cases hr;rw[h.1,h.2];exact .int _ _
  ·simp only[Bool.and_eq_true,decide_eq_true_eq] at h;cases hr;rw[h.1,Nat.eq_of_beq_eq_true h.2];exact .float _ _ _ ‹_›
  ·simp only[Bool.and_eq_true,decide_eq_true_eq] at h;cases hr;rw[h.1,Nat.eq_of_beq_eq_true h.2.1,Nat.eq_of_beq_eq_true h.2.2];exact .complex _ _ _ _ _ ‹_› ‹_›
  ·simp only[decide_eq_true_eq] at h;cases hr;rw[h];exact .string _
  ·cases hr;exact .nilPtr
  ·obtain⟨n,o,k,rfl,rfl,hk⟩:=ha h
   cases hr
   rename_i hD
   have:=VR.ptr (D:=dS σ D) (m:=mS σ m) n o ⟨k,hk,hD⟩
   rwa [hms hk] at this
  ·simp only[Bool.and_eq_true] at h;cases hr;rw[Nat.eq_of_beq_eq_true h.1,Nat.eq_of_beq_eq_true h.2];exact .nilSlice _ _
  ·simp only[Bool.and_eq_true] at h
   obtain⟨n,o,k,rfl,rfl,hk⟩:=ha h.1
   have e1:=Nat.eq_of_beq_eq_true h.2.1
   have e2:=Nat.eq_of_beq_eq_true h.2.2
   subst e1 e2
   cases hr with
   | slice _ _ _ _ c' hD hlc hcc he =>
    have:=VR.slice (D:=dS σ D) (m:=mS σ m) n o _ _ c' ⟨k,hk,hD⟩ hlc hcc (by rw[hms hk];exact he)
    rwa [hms hk] at this
  ·cases hr;exact .nilMap
  ·simp only[Bool.and_eq_true] at h
   cases hr with
   | func _ _ _ a' b' la ha' lb hb' =>
    rw[Nat.eq_of_beq_eq_true h.1]
    have h1:=hl h.2.1 ⟨la,ha'⟩
    have h2:=hl h.2.2 ⟨lb,hb'⟩
    exact .func _ _ _ _ _ h1.len h1.at' h2.len h2.at'
  ·cases hr;exact .nilFunc
  ·cases hr;exact .nilIface
  ·simp only[Bool.and_eq_true] at h
   cases hr with
   | iface _ _ v' hv=>rw[Nat.eq_of_beq_eq_true h.1];exact .iface _ _ _ (ih _ _ _ h.2 hv)
  ·cases hr with
   | agg _ a' la ha'=>exact .agg' (hl h ⟨la,ha'⟩)
  ·cases hr with
   | tuple _ a' la ha'=>exact .tuple' (hl h ⟨la,ha'⟩)
  ·cases h
def mB(σ:List Nat):Blk→Option Blk→Bool
 | .cells es c,some (.cells es' c')=>Nat.beq es es'&&al2 (mV σ 60) c c'
 | _,_=>false
def mH(σ:List Nat)(h:List Blk):List Nat→List Blk→Bool
 | [],[]=>true
 | n::t,b::s=>mB σ b h[n]?&&mH σ h t s
 | _,_=>false
theorem Xe{σ:List Nat}{h:List Blk}:∀ {t:List Nat} {s:List Blk},mH σ h t s=true→s.length=t.length∧∀(i:Nat) b,s[i]?=some b→∃ n,t[i]?=some n∧mB σ b h[n]?=true
 | [],[],_=>⟨rfl,fun i b h=>by simp at h⟩
 | [],_::_,hh=>by simp[mH] at hh
 | _::_,[],hh=>by simp[mH] at hh
 | n::t,b::s,hh=>by
  simp only[mH,Bool.and_eq_true] at hh
  obtain⟨h1,h2⟩:=Xe hh.2
  refine⟨by simp[h1],fun i x hx=>?_⟩
  cases i with
  | zero=>simp at hx;subst hx;exact⟨n,rfl,hh.1⟩
  | succ i=>exact h2 i x (by simpa using hx)
def Zu(σ:List Nat):Option Addr→List Nat
 | some ⟨n,_,none⟩=>if σ.contains n then σ else σ++[n]
 | _=>σ
def tZ:Nat→List Nat→Value→List Nat
 | 0,σ,_=>σ
 | d+1,σ,v=>match v with
  | .pointer a=>Zu σ a
  | .slice a _ _=>Zu σ a
  | .func _ ⟨a⟩ ⟨b⟩=>b.foldl (tZ d) (a.foldl (tZ d) σ)
  | .iface _ v=>tZ d σ v
  | .agg ⟨a⟩=>a.foldl (tZ d) σ
  | .tuple ⟨a⟩=>a.foldl (tZ d) σ
  | _=>σ
def reach(h:List Blk):Nat→Nat→List Nat→List Nat
 | 0,_,σ=>σ
 | k+1,i,σ=>match σ[i]? with
  | none=>σ
  | some n=>match h[n]? with
   | some (.cells _ c)=>reach h k (i+1) (c.foldl (tZ 60) σ)
   | _=>reach h k (i+1) σ
def Gm(args:List Value)(h:List Blk):List Nat:=reach h 1000 0 (args.foldl (tZ 60) (List.range NG))
structure Piece where
 f:FuncId
 args:List Value
 h:List Blk
 v:Value
def fits(p:Piece)(args:List Value)(h:List Blk)(σ:List Nat):Bool:=al2 Nat.beq (List.range NG) (σ.take NG)&&(al2 (mV σ 60) p.args args&&mH σ h σ p.h)
def look:List Piece→FuncId→List Value→List Blk→Option Value
 | [],_,_,_=>none
 | p::t,f,args,h=>match Nat.beq p.f f with
  | true=>(match fits p args h (Gm args h) with
   | true=>some p.v
   | false=>look t f args h)
  | false=>look t f args h
def Ye(P:Program)(tab:List Piece)(k:Nat):Nat→Ctx
 | 0=>⟨fun _ _ _=>none,fun _ _ _=>none⟩
 | d + 1 => ⟨fun f args h => match look tab f args h with
     | some v=>some (v,h,none)
     | none=>iR (Ye P tab k d) P k f args h,qT (Ye P tab k d) P k⟩
def Zq(P:Program)(tab:List Piece)(k d:Nat)(p:Piece):AOut:=iR (Ye P tab k d) P k p.f p.args p.h
theorem Xi{σ:List Nat}{D D':Nat→Prop}{m m':NMap}(hσ:∀ n k,σ[n]?=some k→D n→D' k∧m' k=m n):∀(d:Nat) (a b b':Value),mV σ d a b=true→VR D m a b'→VR D' m' b b':=by
 intro d
 induction d with
 | zero=>intro a b b' h;cases h
 | succ d ih =>
  intro a b b' h hr
  have hl:∀ {s t t':List Value},al2 (mV σ d) s t=true→VRs D m s t'→VRs D' m' t t':=by
   intro s t t' hh hs
   obtain⟨h1,h2⟩:=oU hh
   refine⟨hs.len.trans h1.symm,fun i v v' hv hv'=>?_⟩
   have hi:=(List.getElem?_eq_some_iff.1 hv).1
   have ht:s[i]?=some s[i]:=List.getElem?_eq_getElem (by omega)
   exact ih _ v v' (h2 i _ v ht hv) (hs.at' i _ v' ht hv')
  have ha:∀ {x y:Addr},yP σ x y=true→∃ n o k,x=⟨n,o,none⟩∧y=⟨k,o,none⟩∧σ[n]?=some k:=by
   intro x y hh
   obtain⟨n,o,s⟩:=x
   obtain⟨n',o',s'⟩:=y
   cases s<;>cases s'<;>simp only[yP] at hh<;>try (cases hh;done)
   simp only[Bool.and_eq_true] at hh
   obtain⟨h1,h2⟩:=hh
   have h2:=Nat.eq_of_beq_eq_true h2
   subst h2
   split at h1
   ·rename_i k hk
    have h1:=Nat.eq_of_beq_eq_true h1
    subst h1
    exact⟨n,o,k,rfl,rfl,hk⟩
   ·cases h1
  unfold mV at h
  split at h
  ·cases hr;rw[← eq_of_beq h];exact .bool _
  ·simp only[Bool.and_eq_true,decide_eq_true_eq] at h;cases hr;rw[← h.1,← h.2];exact .int _ _
  ·simp only[Bool.and_eq_true,decide_eq_true_eq] at h;cases hr;rw[← h.1,← Nat.eq_of_beq_eq_true h.2];exact .float _ _ _ (by assumption)
  ·simp only[Bool.and_eq_true,decide_eq_true_eq] at h;cases hr;rw[← h.1,← Nat.eq_of_beq_eq_true h.2.1,← Nat.eq_of_beq_eq_true h.2.2];exact .complex _ _ _ _ _ (by assumption) (by assumption)
  ·simp only[decide_eq_true_eq] at h;cases hr;rw[← h];exact .string _
  ·cases hr;exact .nilPtr
  ·obtain⟨n,o,k,rfl,rfl,hk⟩:=ha h
   cases hr
   rename_i hD
   obtain⟨e1,e2⟩:=hσ n k hk hD
   have:=VR.ptr (D:=D') (m:=m') k o e1
   rwa [e2] at this
  ·simp only[Bool.and_eq_true] at h;cases hr;rw[← Nat.eq_of_beq_eq_true h.1,← Nat.eq_of_beq_eq_true h.2];exact .nilSlice _ _
  ·simp only[Bool.and_eq_true] at h
   obtain⟨n,o,k,rfl,rfl,hk⟩:=ha h.1
   have e1:=Nat.eq_of_beq_eq_true h.2.1
   have e2:=Nat.eq_of_beq_eq_true h.2.2
   subst e1 e2
   cases hr with
   | slice _ _ _ _ c' hD hlc hcc he =>
    obtain⟨e1,e2⟩:=hσ n k hk hD
    have:=VR.slice (D:=D') (m:=m') k o _ _ c' e1 hlc hcc (by rw[e2];exact he)
    rwa [e2] at this
  ·cases hr;exact .nilMap
  ·simp only[Bool.and_eq_true] at h
   cases hr with
   | func _ _ _ a' b' la ha' lb hb' =>
    rw[← Nat.eq_of_beq_eq_true h.1]
    have h1:=hl h.2.1 ⟨la,ha'⟩
    have h2:=hl h.2.2 ⟨lb,hb'⟩
    exact .func _ _ _ _ _ h1.len h1.at' h2.len h2.at'
  ·cases hr;exact .nilFunc
  ·cases hr;exact .nilIface
  ·simp only[Bool.and_eq_true] at h
   cases hr with
   | iface _ _ v' hv=>rw[← Nat.eq_of_beq_eq_true h.1];exact .iface _ _ _ (ih _ _ _ h.2 hv)
  ·cases hr with
   | agg _ a' la ha'=>exact .agg' (hl h ⟨la,ha'⟩)
  ·cases hr with
   | tuple _ a' la ha'=>exact .tuple' (hl h ⟨la,ha'⟩)
  ·cases h
def Zt(τ:List Nat):Addr→Addr
 | ⟨n,o,none⟩=>⟨bE τ n,o,none⟩
 | a=>a
def ren(τ:List Nat):Nat→Value→Value
 | 0,v=>v
 | d+1,v=>match v with
  | .pointer (some a)=>.pointer (some (Zt τ a))
  | .slice (some a) l c=>.slice (some (Zt τ a)) l c
  | .func f ⟨a⟩ ⟨b⟩=>.func f ⟨a.map (ren τ d)⟩ ⟨b.map (ren τ d)⟩
  | .iface t v=>.iface t (ren τ d v)
  | .agg ⟨a⟩=>.agg ⟨a.map (ren τ d)⟩
  | .tuple ⟨a⟩=>.tuple ⟨a.map (ren τ d)⟩
  | v=>v
def aAy(τ:List Nat):Blk→Blk
 | .cells es c=>.cells es (c.map (ren τ 60))
 | b=>b
def rng(n:Nat):Nat→List Nat
 | 0=>[]
 | k+1=>n::rng (n+1) k
theorem Ew:∀(k n:Nat),(rng n k).length=k
 | 0,_=>rfl
 | k+1,n=>by simp[rng,Ew k]
theorem Ka:∀(k n i:Nat),i<k→(rng n k)[i]?=some (n+i)
 | 0,_,_,h=>by omega
 | k+1,n,0,_=>rfl
 | k+1,n,i+1,h=>by simp only[rng,List.getElem?_cons_succ];rw[Ka k (n+1) i (by omega)];congr 1;omega
structure PieceN extends Piece where
 nb:List Blk
def mBs(σ:List Nat)(a b:Blk):Bool:=match a,b with
 | .dead,.dead=>true
 | _,_=>mB σ a (some b)
def As:List PieceN→FuncId→List Value→List Blk→Option (Value×List Blk)
 | [],_,_,_=>none
 | p::t,f,args,h=>match Nat.beq p.f f with
  | true =>
   let σ:=Gm args h
   match fits p.toPiece args h σ with
   | true =>
    let τ:=σ++rng h.length p.nb.length
    let v:=ren τ 60 p.v
    let bs:=p.nb.map (aAy τ)
    match mV τ 60 p.v v&&al2 (mBs τ) p.nb bs with
    | true=>some (v,h++bs)
    | false=>As t f args h
   | false=>As t f args h
  | false=>As t f args h
def aD(P:Program)(p:PieceN):Prop :=
 ∀ {D:Nat→Prop} {m:NMap} {w:World} {args':List Value},Rel w.heap.size p.h.length D m p.h w→VRs D m p.args args'→Calls P p.f ⟨args'⟩ w (Good w.heap.size p.h.length D m p.h w p.v (p.h++p.nb))
theorem Uf{B lo:Nat}{D:Nat→Prop}{m m':NMap}{h hp nb bs:List Blk}{w w':World}{σ:List Nat}(hr:Rel B lo D m h w)(hlo:lo≤h.length)(hσ:σ.length=hp.length)
 (hp':Post w.heap.size hp.length (dS σ D) (mS σ m) hp w m' (hp++nb) w') (hbs:al2 (mBs (σ++rng h.length nb.length)) nb bs=true) :
 Post B lo D m h w (fun j=>if j<h.length then m j else m' (hp.length+(j-h.length))) (h++bs) w' ∧
  ∀ n k,(σ++rng h.length nb.length)[n]?=some k→Dx (dS σ D) hp.length (hp++nb).length n→Dx D h.length (h++bs).length k∧(fun j=>if j<h.length then m j else m' (hp.length+(j-h.length))) k=m' n:=by
 obtain⟨hbl,hba⟩:=oU hbs
 have hlt:∀ n,D n→(if n<h.length then m n else m' (hp.length+(n-h.length)))=m n:=fun n hn=>if_pos (hr.dom n hn)
 have hge:∀ i,(if h.length+i<h.length then m (h.length+i) else m' (hp.length+(h.length+i-h.length)))=m' (hp.length+i):=fun i=>by
  rw[if_neg (by omega),Nat.add_sub_cancel_left]
 have hτ:∀ n k,(σ++rng h.length nb.length)[n]?=some k→Dx (dS σ D) hp.length (hp++nb).length n→Dx D h.length (h++bs).length k∧(fun j=>if j<h.length then m j else m' (hp.length+(j-h.length))) k=m' n:=by
  intro n k hk hd
  by_cases hn:n<σ.length
  ·rw[List.getElem?_append_left hn] at hk
   rcases hd with⟨k',hk',hD⟩|hd
   ·obtain rfl:=Option.some.inj (hk'.symm.trans hk)
    refine⟨.inl hD,?_⟩
    simp only[hlt _ hD]
    rw[hp'.agree n ⟨_,hk',hD⟩]
    unfold mS
    rw[hk']
    rfl
   ·omega
  ·rw[List.getElem?_append_right (by omega)] at hk
   have hi:n-σ.length<nb.length:=by
    have:=(List.getElem?_eq_some_iff.1 hk).1
    rwa [Ew] at this
   rw[Ka _ _ _ hi] at hk
   obtain rfl:=Option.some.inj hk
   refine⟨.inr ⟨by omega,by rw[List.length_append,hbl];omega⟩,?_⟩
   simp only[hge]
   congr 1
   omega
 refine⟨⟨fun n hn=>hlt n hn,?_,hp'.below.mono hr.le,by simp⟩,hτ⟩
 have hf:=hr.frame hp'.below
 have split:∀ n b,Dx D h.length (h++bs).length n→(h++bs)[n]?=some b→(D n∧h[n]?=some b)∨∃ i c,n=h.length+i∧nb[i]?=some c∧bs[i]?=some b∧mBs (σ++rng h.length nb.length) c b=true∧Dx (dS σ D) hp.length (hp++nb).length (hp.length+i)∧(hp++nb)[hp.length+i]?=some c:=by
  intro n b hd hb
  by_cases hn:n<h.length
  ·rw[List.getElem?_append_left hn] at hb
   rcases hd with hd|hd
   ·exact .inl ⟨hd,hb⟩
   ·omega
  ·rw[List.getElem?_append_right (by omega)] at hb
   have hi:=(List.getElem?_eq_some_iff.1 hb).1
   have hc:nb[n-h.length]?=some nb[n-h.length]:=List.getElem?_eq_getElem (by omega)
   refine .inr ⟨n-h.length,_,by omega,hc,hb,hba _ _ _ hc hb,.inr ⟨by omega,by rw[List.length_append];omega⟩,?_⟩
   rw[List.getElem?_append_right (by omega),Nat.add_sub_cancel_left]
   exact hc
 have cells:∀ {c b:Blk},mBs (σ++rng h.length nb.length) c b=true→b ≠ .dead→∃ es x y,c = .cells es x∧b = .cells es y∧al2 (mV (σ++rng h.length nb.length) 60) x y=true:=by
  intro c b hm hne
  unfold mBs at hm
  cases c<;>cases b<;>simp only[mB] at hm<;>try (cases hm;done)
  ·exact absurd rfl hne
  simp only[Bool.and_eq_true] at hm
  have e1:=Nat.eq_of_beq_eq_true hm.1
  subst e1
  exact⟨_,_,_,rfl,rfl,hm.2⟩
 refine⟨Nat.le_trans hr.le hp'.below.size,fun n hd=>?_,fun n b hd hb=>?_,fun n b hd hb hne=>?_,fun n b hd hl hb hne=>?_,fun n b hd hl hb hne=>?_,fun n b hd hl hb=>?_,fun n n' b b' hd hd' hl hl' hb hb' hne hne' he=>?_,?_⟩
 ·rcases hd with hd|hd
  ·have:=hr.dom n hd;simp;omega
  ·exact hd.2
 ·rcases split n b hd hb with⟨h1,h2⟩|⟨i,c,rfl,h1,h2,h3,h4,h5⟩
  ·exact (hf.ok n b h1 h2).mono (fun k hk=>.inl hk) (fun k hk=>hlt k hk) (hlt n h1)
  ·by_cases hne:b = .dead
   ·subst hne;trivial
   obtain⟨es,x,y,rfl,rfl,hxy⟩:=cells h3 hne
   obtain⟨o1,o2⟩:=hp'.rel.ok _ _ h4 h5
   obtain⟨l1,l2⟩:=oU hxy
   refine⟨by simp only[hge];exact o1,fun q v hv=>?_⟩
   have hq:=(List.getElem?_eq_some_iff.1 hv).1
   have hx:x[q]?=some x[q]:=List.getElem?_eq_getElem (by omega)
   obtain⟨v',q1,q2⟩:=o2 q _ hx
   exact⟨v',by simp only[hge];exact q1,Xi hτ 60 _ v v' (l2 q _ v hx hv) q2⟩
 ·rcases split n b hd hb with⟨h1,h2⟩|⟨i,c,rfl,h1,h2,h3,h4,h5⟩
  ·simp only[hlt n h1];exact hf.lt n b h1 h2 hne
  ·obtain⟨es,x,y,rfl,rfl,hxy⟩:=cells h3 hne
   simp only[hge]
   exact hp'.rel.lt _ _ h4 h5 (by simp)
 ·rcases split n b hd hb with⟨h1,h2⟩|⟨i,c,rfl,h1,h2,h3,h4,h5⟩
  ·simp only[hlt n h1];exact hr.base n b h1 hl h2 hne
  ·obtain⟨es,x,y,rfl,rfl,hxy⟩:=cells h3 hne
   simp only[hge]
   exact Nat.le_trans hr.le (hp'.rel.base _ _ h4 (by omega) h5 (by simp))
 ·rcases split n b hd hb with⟨h1,h2⟩|⟨i,c,rfl,h1,h2,h3,h4,h5⟩
  ·simp only[hlt n h1];exact hr.low n b h1 hl h2 hne
  ·omega
 ·rcases split n b hd hb with⟨h1,h2⟩|⟨i,c,rfl,h1,h2,h3,h4,h5⟩
  ·have:=hf.own n b h1 hl h2
   cases b<;>try trivial
   all_goals
    unfold Owns at this ⊢
    simp only[hlt n h1]
    exact this
  ·by_cases hne:b = .dead
   ·subst hne;trivial
   obtain⟨es,x,y,rfl,rfl,hxy⟩:=cells h3 hne
   have:=hp'.rel.own _ _ h4 (by omega) h5
   unfold Owns at this ⊢
   simp only[hge]
   rw[(oU hxy).1]
   exact this
 ·rcases split n b hd hb with⟨h1,h2⟩|⟨i,c,rfl,h1,h2,h3,h4,h5⟩<;>rcases split n' b' hd' hb' with⟨h1',h2'⟩|⟨i',c',rfl,h1',h2',h3',h4',h5'⟩
  ·simp only[hlt n h1,hlt n' h1'] at he
   exact hr.inj n n' b b' h1 h1' hl hl' h2 h2' hne hne' he
  ·obtain⟨es,x,y,rfl,rfl,hxy⟩:=cells h3' hne'
   simp only[hlt n h1,hge] at he
   have e1:=hr.lt n b h1 h2 hne
   have e2:=hp'.rel.base _ _ h4' (by omega) h5' (by simp)
   omega
  ·obtain⟨es,x,y,rfl,rfl,hxy⟩:=cells h3 hne
   simp only[hlt n' h1',hge] at he
   have e1:=hr.lt n' b' h1' h2' hne'
   have e2:=hp'.rel.base _ _ h4 (by omega) h5 (by simp)
   omega
  ·obtain⟨es,x,y,rfl,rfl,hxy⟩:=cells h3 hne
   obtain⟨es',x',y',rfl,rfl,hxy'⟩:=cells h3' hne'
   simp only[hge] at he
   have:=hp'.rel.inj _ _ _ _ h4 h4' (by omega) (by omega) h5 h5' (by simp) (by simp) he
   omega
 ·exact hf.gl.mono (fun n hn=>.inl hn) (fun n hn=>hlt n hn)
theorem Qy{p:Piece}{args:List Value}{h:List Blk}{σ:List Nat}{B lo:Nat}{D:Nat→Prop}{m:NMap}{w:World}{args':List Value}(hr:Rel B lo D m h w)(hargs:VRs D m args args')(hb:fits p args h σ=true) :
 σ.length=p.h.length∧Rel w.heap.size p.h.length (dS σ D) (mS σ m) p.h w∧VRs (dS σ D) (mS σ m) p.args args':=by
 simp only[fits,Bool.and_eq_true] at hb
 obtain⟨h0,h1,h2⟩:=hb
 have hg0:∀ g,g<NG→σ[g]?=some g:=fun g hg=>by
  obtain⟨k1,k2⟩:=oU h0
  have hl:g<(σ.take NG).length:=by rw[k1,List.length_range];exact hg
  have h3:=k2 g g _ (by simp[hg]) (List.getElem?_eq_getElem hl)
  have h4:=Nat.eq_of_beq_eq_true h3
  rw[List.getElem_take] at h4
  rw[List.getElem?_eq_getElem (by rw[List.length_take] at hl;omega),← h4]
 obtain⟨hlen,hat⟩:=Xe h2
 have hargs0:VRs (dS σ D) (mS σ m) p.args args':=by
  obtain⟨k1,k2⟩:=oU h1
  refine⟨hargs.len.trans k1,fun i v v' hv hv'=>?_⟩
  have hi:=(List.getElem?_eq_some_iff.1 hv).1
  have hb:args[i]?=some args[i]:=List.getElem?_eq_getElem (by omega)
  exact Xh 60 v _ v' (k2 i v _ hv hb) (hargs.at' i _ v' hb hv')
 have blk:∀ n b,dS σ D n→p.h[n]?=some b→BlkOk (dS σ D) (mS σ m) w n b∧(mS σ m n).block<w.heap.size:=by
  rintro n b ⟨k,hk,hD⟩ hb
  obtain⟨k',hk',hm⟩:=hat n b hb
  obtain rfl:=Option.some.inj (hk.symm.trans hk')
  have ems:mS σ m n=m k:=by unfold mS;rw[hk];rfl
  cases hx:h[k]? with
  | none=>rw[hx] at hm;cases b<;>simp[mB] at hm
  | some b' =>
   rw[hx] at hm
   cases b<;>cases b'<;>simp only[mB] at hm<;>try (cases hm;done)
   rename_i es c es' c'
   simp only[Bool.and_eq_true] at hm
   have e1:=Nat.eq_of_beq_eq_true hm.1
   subst e1
   obtain⟨o1,o2⟩:=hr.ok k _ hD hx
   have o3:=hr.lt k _ hD hx (by simp)
   rw[← ems] at o1 o2 o3
   obtain⟨l1,l2⟩:=oU hm.2
   refine⟨⟨o1,fun i v hv=>?_⟩,o3⟩
   have hi:=(List.getElem?_eq_some_iff.1 hv).1
   have hc':c'[i]?=some c'[i]:=List.getElem?_eq_getElem (by omega)
   obtain⟨v',q1,q2⟩:=o2 i _ hc'
   exact⟨v',q1,Xh 60 v _ v' (l2 i v _ hv hc') q2⟩
 have dom:∀ n,dS σ D n→n<p.h.length:=by
  rintro n ⟨k,hk,_⟩
  have:=(List.getElem?_eq_some_iff.1 hk).1
  omega
 have hR:Rel w.heap.size p.h.length (dS σ D) (mS σ m) p.h w :=
  ⟨Nat.le_refl _,dom,fun n b hD hb=>(blk n b hD hb).1,fun n b hD hb _=>(blk n b hD hb).2,fun n b hD hl=>absurd (dom n hD) (by omega),fun n b hD _ hb _=>(blk n b hD hb).2,
   fun n b hD hl=>absurd (dom n hD) (by omega),fun n n' b b' hD _ hl=>absurd (dom n hD) (by omega),⟨fun g hg=>by
    obtain⟨q1,q2⟩:=hr.gl.nm g hg
    have ems:mS σ m g=m g:=by unfold mS;rw[hg0 g hg];rfl
    rw[ems]
    exact⟨⟨g,hg0 g hg,q1⟩,q2⟩,Nat.le_trans hr.gl.gb hr.le,hr.gl.gw⟩⟩
 exact⟨hlen.symm,hR,hargs0⟩
theorem Hk{P:Program}:∀ {tab:List PieceN}, (∀ p∈tab, aD P p)→∀ {f:FuncId} {args:List Value} {h:List Blk} {r:Value×List Blk}, As tab f args h=some r →
 ∀(B lo:Nat) (D:Nat→Prop) (m:NMap) (w:World) (args':List Value),Rel B lo D m h w→lo≤h.length→VRs D m args args'→Calls P f ⟨args'⟩ w (Good B lo D m h w r.1 r.2)
 | [],_,f,args,h,r,hv=>by cases hv
 | p::t,ht,f,args,h,r,hv=>by
  intro B lo D m w args' hr hlo hargs
  have next:As t f args h=some r→Calls P f ⟨args'⟩ w (Good B lo D m h w r.1 r.2):=fun hv=>Hk (fun p hp=>ht p (by simp[hp])) hv B lo D m w args' hr hlo hargs
  simp only[As] at hv
  split at hv
  ·rename_i hf
   have hf:=Nat.eq_of_beq_eq_true hf
   subst hf
   split at hv
   ·rename_i hb
    split at hv
    ·rename_i hm
     obtain rfl:=Option.some.inj hv
     generalize Gm args h=σ at hb hm
     obtain⟨hσ,hR,hargs0⟩:=Qy hr hargs hb
     rw[Bool.and_eq_true] at hm
     refine (ht p (by simp) hR hargs0).mono ?_
     rintro e w' ⟨v',m',rfl,hp,hvr⟩
     obtain⟨q1,q2⟩:=Uf hr hlo hσ hp hm.2
     exact⟨v',_,rfl,q1,Xi q2 60 _ _ v' hm.1 hvr⟩
    ·exact next hv
   ·exact next hv
  ·exact next hv
def Cl(P:Program)(tab:List PieceN)(k:Nat):Nat→Ctx
 | 0=>⟨fun _ _ _=>none,fun _ _ _=>none⟩
 | d + 1 => ⟨fun f args h => match As tab f args h with
     | some r=>some (r.1,r.2,none)
     | none=>iR (Cl P tab k d) P k f args h,qT (Cl P tab k d) P k⟩
theorem tD{P:Program}(hm:P.follows .mixedOrders=true){tab:List PieceN}(ht:∀ p∈tab,aD P p)(k:Nat):∀ d,CtxOk P (Cl P tab k d)
 | 0=>⟨fun h=>by simp[Cl] at h,fun h=>by simp[Cl] at h⟩
 | d+1 =>
  have hD:mM P (Cl P tab k d):=fun {_ _ _ _ _ _ _} hv {_ _ _ _ _ _ _ _ _} hr hlo hA hw hQ=>qR (tD hm ht k d) hm hv hr hlo hA hw hQ
  ⟨fun {f args h v h' wr} hv {B lo D m w args'} hr hlo hw hargs=>by
   simp only[Cl] at hv
   split at hv
   ·rename_i r hl
    have hv:=Option.some.inj hv
    obtain⟨rfl,rfl,rfl⟩:r.1=v∧r.2=h'∧none=wr:=by simpa using hv
    exact Hk ht hl B lo D m w args' hr hlo hargs
   ·exact kP (tD hm ht k d) hD hv hr hlo hw hargs,fun h=>oT (tD hm ht k d) hD h⟩
def Qe(P:Program)(tab:List PieceN)(k d:Nat)(p:PieceN):AOut:=iR (Cl P tab k d) P k p.f p.args p.h
def kdB(σ:List Nat)(a b:Blk):Bool:=match a with
 | .dead=>true
 | _=>mBs σ a b
theorem Rel.kills{B lo:Nat}{D:Nat→Prop}{m:NMap}{h h2:List Blk}{w:World}(hr:Rel B lo D m h w)(hl:h2.length=h.length)(hk:∀(n:Nat) (b:Blk),h2[n]?=some b→b=Blk.dead∨h[n]?=some b):Rel B lo D m h2 w:=by
 refine⟨hr.le,fun n hn=>by rw[hl];exact hr.dom n hn,fun n b hd hb=>?_,fun n b hd hb hne=>?_,fun n b hd hlo hb hne=>?_,fun n b hd hlo hb hne=>?_,fun n b hd hlo hb=>?_,fun n n' b b' hd hd' hl1 hl2 hb hb' hne hne' he=>?_,hr.gl⟩
 ·rcases hk n b hb with rfl|h
  ·trivial
  ·exact hr.ok n b hd h
 ·exact hr.lt n b hd ((hk n b hb).resolve_left hne) hne
 ·exact hr.base n b hd hlo ((hk n b hb).resolve_left hne) hne
 ·exact hr.low n b hd hlo ((hk n b hb).resolve_left hne) hne
 ·rcases hk n b hb with rfl|h
  ·trivial
  ·exact hr.own n b hd hlo h
 ·exact hr.inj n n' b b' hd hd' hl1 hl2 ((hk n b hb).resolve_left hne) ((hk n' b' hb').resolve_left hne') hne hne' he
def eqN(p:PieceN):AOut→Bool
 | some (v,h,none)=>mV (rng 0 h.length) 60 p.v v&&al2 (kdB (rng 0 h.length)) p.nb (h.drop p.h.length)&&al2 (mBs (rng 0 h.length)) p.h (h.take p.h.length)
 | _=>false
theorem Xd{N:Nat}:∀(d:Nat) (a b:Value),mV (rng 0 N) d a b=true→a=b:=by
 intro d
 induction d with
 | zero=>intro a b h;cases h
 | succ d ih =>
  intro a b h
  have hl:∀ {s t:List Value},al2 (mV (rng 0 N) d) s t=true→s=t:=fun hh=>Li ih hh
  have ha:∀ {x y:Addr},yP (rng 0 N) x y=true→x=y:=by
   intro x y hh
   obtain⟨n,o,s⟩:=x
   obtain⟨n',o',s'⟩:=y
   cases s<;>cases s'<;>simp only[yP] at hh<;>try (cases hh;done)
   simp only[Bool.and_eq_true] at hh
   obtain⟨h1,h2⟩:=hh
   have h2:=Nat.eq_of_beq_eq_true h2
   subst h2
   split at h1
   ·rename_i k hk
    have h1:=Nat.eq_of_beq_eq_true h1
    subst h1
    have hn:n<N:=by have:=(List.getElem?_eq_some_iff.1 hk).1;rwa [Ew] at this
    rw[Ka _ _ _ hn] at hk
    have:=Option.some.inj hk
    simp at this
    subst this
    rfl
   ·cases h1
  unfold mV at h
  split at h
  ·rw[eq_of_beq h]
  ·simp only[Bool.and_eq_true,decide_eq_true_eq] at h;rw[h.1,h.2]
  ·simp only[Bool.and_eq_true,decide_eq_true_eq] at h;rw[h.1,Nat.eq_of_beq_eq_true h.2]
  ·simp only[Bool.and_eq_true,decide_eq_true_eq] at h;rw[h.1,Nat.eq_of_beq_eq_true h.2.1,Nat.eq_of_beq_eq_true h.2.2]
  ·simp only[decide_eq_true_eq] at h;rw[h]
  ·rfl
  ·rw[ha h]
  ·simp only[Bool.and_eq_true] at h;rw[Nat.eq_of_beq_eq_true h.1,Nat.eq_of_beq_eq_true h.2]
  ·simp only[Bool.and_eq_true] at h;rw[ha h.1,Nat.eq_of_beq_eq_true h.2.1,Nat.eq_of_beq_eq_true h.2.2]
  ·rfl
  ·simp only[Bool.and_eq_true] at h;rw[Nat.eq_of_beq_eq_true h.1,hl h.2.1,hl h.2.2]
  ·rfl
  ·rfl
  ·simp only[Bool.and_eq_true] at h;rw[Nat.eq_of_beq_eq_true h.1,ih _ _ h.2]
  ·rw[hl h]
  ·rw[hl h]
  ·cases h
theorem Sx{N:Nat}{a b:Blk}(h:mBs (rng 0 N) a b=true):a=b:=by
 unfold mBs at h
 cases a<;>cases b<;>simp only[mB] at h<;>try (cases h;done)
 ·rfl
 simp only[Bool.and_eq_true] at h
 rw[Nat.eq_of_beq_eq_true h.1,Li (fun a b hh=>Xd 60 a b hh) h.2]
theorem aB{P:Program}(hm:P.follows .mixedOrders=true){tab:List PieceN}(ht:∀ p∈tab,aD P p){k d:Nat}{p:PieceN}(hv:eqN p (Qe P tab k d p)=true):aD P p:=by
 unfold eqN at hv
 split at hv
 ·rename_i v h hx
  simp only[Bool.and_eq_true] at hv
  obtain⟨⟨h1,h2⟩,h3⟩:=hv
  have e1:=Xd 60 _ _ h1
  have e3:p.h=h.take p.h.length:=Li (fun a b hh=>Sx hh) h3
  obtain⟨k1,k2⟩:=oU h2
  have k3:p.h.length≤h.length:=by
   have:=congrArg List.length e3
   rw[List.length_take] at this
   omega
  have hlen:(p.h++p.nb).length=h.length:=by rw[List.length_append,← k1,List.length_drop];omega
  have hk:∀(n:Nat) (b:Blk),(p.h++p.nb)[n]?=some b→b=Blk.dead∨h[n]?=some b:=by
   intro n b hb
   by_cases hn:n<p.h.length
   ·rw[List.getElem?_append_left hn] at hb
    refine .inr ?_
    have hq:(h.take p.h.length)[n]?=h[n]?:=by rw[List.getElem?_take,if_pos hn]
    rw[← hq,← e3]
    exact hb
   ·rw[List.getElem?_append_right (by omega)] at hb
    have hi:=(List.getElem?_eq_some_iff.1 hb).1
    have hd:(h.drop p.h.length)[n-p.h.length]?=some (h.drop p.h.length)[n-p.h.length]:=List.getElem?_eq_getElem (by omega)
    have hm:=k2 _ _ _ hb hd
    unfold kdB at hm
    split at hm
    ·exact .inl rfl
    ·refine .inr ?_
     rw[Sx hm,← hd,List.getElem?_drop]
     congr 1
     omega
  intro D m w args' hr hargs
  have hD:mM P (Cl P tab k d):=fun {_ _ _ _ _ _ _} hv {_ _ _ _ _ _ _ _ _} hr hlo hA hw hQ=>qR (tD hm ht k d) hm hv hr hlo hA hw hQ
  rw[e1]
  refine (kP (tD hm ht k d) hD hx hr (Nat.le_refl _) (fun n hn=>by cases hn) hargs).mono ?_
  rintro e w' ⟨v',m',rfl,hp,hvr⟩
  refine⟨v',m',rfl,⟨hp.agree,?_,hp.below,by simp⟩,by rw[hlen];exact hvr⟩
  rw[hlen]
  exact hp.rel.kills hlen hk
 ·cases hv
theorem Bf{P:Program}(hm:P.follows .mixedOrders=true){tab:List PieceN}(ht:∀ p∈tab,aD P p){k d:Nat}{f:FuncId}(hv:wV ((Cl P tab k d).call f [] GH)=true):AwT P f:=by
 intro w hgw hgs
 unfold wV at hv
 split at hv
 ·rename_i h' hx
  refine ((tD hm ht k d).call hx (Rel.start w hgw hgs) (Nat.le_refl _) (fun n h=>by cases h) VRs.nil).mono ?_
  rintro e w' ⟨v',m',rfl,hp,hvr⟩
  cases hvr
  exact⟨rfl,hp.below⟩
 ·cases hv
theorem aC{P:Program}:∀ p∈([]:List PieceN),aD P p:=fun p hp=>by simp at hp
theorem aA{P:Program}{p:PieceN}{tab:List PieceN}(h:aD P p)(ht:∀ p∈tab,aD P p):∀ q∈p::tab,aD P q:=by
 intro q hq
 rcases List.mem_cons.1 hq with rfl|hq
 ·exact h
 ·exact ht q hq
end Go.Rex
