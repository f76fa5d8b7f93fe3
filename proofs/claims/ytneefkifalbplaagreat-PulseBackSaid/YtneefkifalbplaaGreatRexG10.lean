/- An executor of the program's functions on trees of values,proved sound. -/
import Derived.Test.YtneefkifalbplaaGreatRexG9
import Derived.Test.YtneefkifalbplaaGreatRexG7
set_option linter.unusedSimpArgs false
set_option linter.unusedVariables false
set_option linter.defProp false
namespace Go.Rex
open Go.RowKit
section
variable {C:Ctx} {P:Program} {ops:Array Oper} {rest:List Oper} {tm tm2:List TV} {hp hp2:List TB} {Q:TS→Prop} {o:Oper}
variable {dst:Option Tmp} {ty:TypeId} {pos:String} {aft:Array Edge} {gd:Option (Nat×Bool)} {p q:TV} {ms:List Nat} {i:Nat} {np:List Nat} {c:Nat}
theorem TO.mv{x:Operand}(hw:twant ops tm { dst:=dst,op:=.move x,type:=ty,pos:=pos,after:=aft,guard:=gd }=some true)(hv:tev tm x=p)(ht:tput tm dst p=tm2)(hq:TO C P ops rest ⟨tm2,hp⟩ Q):TO C P ops ({ dst:=dst,op:=.move x,type:=ty,pos:=pos,after:=aft,guard:=gd }::rest) ⟨tm,hp⟩ Q:=
 TO.pop1 hw (by subst hv;rfl) ht hq
theorem TD.mv{x:Operand}(hw:twant ops tm { dst:=dst,op:=.move x,type:=ty,pos:=pos,after:=aft,guard:=gd }=some true)(hv:tev tm x=p)(ht:tput tm dst p=tm2)(hq:TD C P ops ms rest (i+1) np c ⟨tm2,hp⟩ Q):TD C P ops ms ({ dst:=dst,op:=.move x,type:=ty,pos:=pos,after:=aft,guard:=gd }::rest) i np c ⟨tm,hp⟩ Q:=
 TD.pop1 hw (by subst hv;rfl) ht hq
theorem TO.asg{x:Operand}(hw:twant ops tm { dst:=dst,op:=.assign x,type:=ty,pos:=pos,after:=aft,guard:=gd }=some true)(hv:tev tm x=p)(ht:tput tm dst p=tm2)(hq:TO C P ops rest ⟨tm2,hp⟩ Q):TO C P ops ({ dst:=dst,op:=.assign x,type:=ty,pos:=pos,after:=aft,guard:=gd }::rest) ⟨tm,hp⟩ Q:=
 TO.pop1 hw (by subst hv;rfl) ht hq
theorem TD.asg{x:Operand}(hw:twant ops tm { dst:=dst,op:=.assign x,type:=ty,pos:=pos,after:=aft,guard:=gd }=some true)(hv:tev tm x=p)(ht:tput tm dst p=tm2)(hq:TD C P ops ms rest (i+1) np c ⟨tm2,hp⟩ Q):TD C P ops ms ({ dst:=dst,op:=.assign x,type:=ty,pos:=pos,after:=aft,guard:=gd }::rest) i np c ⟨tm,hp⟩ Q:=
 TD.pop1 hw (by subst hv;rfl) ht hq
theorem TO.bin{b:BinOp}{t u:TypeId}{x y:Operand}{a d r:Value}(hw:twant ops tm { dst:=dst,op:=.binOp b t x y u,type:=ty,pos:=pos,after:=aft,guard:=gd }=some true)(hx:tev tm x = .v a)(hy:tev tm y = .v d)(hv:cT b a d=some r)(ht:tput tm dst (.v r)=tm2)(hq:TO C P ops rest ⟨tm2,hp⟩ Q):TO C P ops ({ dst:=dst,op:=.binOp b t x y u,type:=ty,pos:=pos,after:=aft,guard:=gd }::rest) ⟨tm,hp⟩ Q:=
 TO.pop1 hw (by simp only[tpop,hx,hy,tbin,hv,Option.map_some,orT]) ht hq
theorem TD.bin{b:BinOp}{t u:TypeId}{x y:Operand}{a d r:Value}(hw:twant ops tm { dst:=dst,op:=.binOp b t x y u,type:=ty,pos:=pos,after:=aft,guard:=gd }=some true)(hx:tev tm x = .v a)(hy:tev tm y = .v d)(hv:cT b a d=some r)(ht:tput tm dst (.v r)=tm2)(hq:TD C P ops ms rest (i+1) np c ⟨tm2,hp⟩ Q):TD C P ops ms ({ dst:=dst,op:=.binOp b t x y u,type:=ty,pos:=pos,after:=aft,guard:=gd }::rest) i np c ⟨tm,hp⟩ Q:=
 TD.pop1 hw (by simp only[tpop,hx,hy,tbin,hv,Option.map_some,orT]) ht hq
theorem TO.ext{x:Operand}{n:Nat}{l:List TV}(hw:twant ops tm { dst:=dst,op:=.extract x n,type:=ty,pos:=pos,after:=aft,guard:=gd }=some true)(hx:tev tm x = .tuple l)(hv:l[n]?=some p)(ht:tput tm dst p=tm2)(hq:TO C P ops rest ⟨tm2,hp⟩ Q):TO C P ops ({ dst:=dst,op:=.extract x n,type:=ty,pos:=pos,after:=aft,guard:=gd }::rest) ⟨tm,hp⟩ Q:=
 TO.pop1 hw (by simp only[tpop,hx,hv]) ht hq
theorem TD.ext{x:Operand}{n:Nat}{l:List TV}(hw:twant ops tm { dst:=dst,op:=.extract x n,type:=ty,pos:=pos,after:=aft,guard:=gd }=some true)(hx:tev tm x = .tuple l)(hv:l[n]?=some p)(ht:tput tm dst p=tm2)(hq:TD C P ops ms rest (i+1) np c ⟨tm2,hp⟩ Q):TD C P ops ms ({ dst:=dst,op:=.extract x n,type:=ty,pos:=pos,after:=aft,guard:=gd }::rest) i np c ⟨tm,hp⟩ Q:=
 TD.pop1 hw (by simp only[tpop,hx,hv]) ht hq
theorem TO.fa{t:TypeId}{x:Operand}{f:Nat}(hw:twant ops tm { dst:=dst,op:=.fieldAddr t x f,type:=ty,pos:=pos,after:=aft,guard:=gd }=some true)(hx:tev tm x=q)(hv:aJ P t q f=some p)(ht:tput tm dst p=tm2)(hq:TO C P ops rest ⟨tm2,hp⟩ Q):TO C P ops ({ dst:=dst,op:=.fieldAddr t x f,type:=ty,pos:=pos,after:=aft,guard:=gd }::rest) ⟨tm,hp⟩ Q:=
 TO.pop1 hw (by simp only[tpop,hx,hv]) ht hq
theorem TD.fa{t:TypeId}{x:Operand}{f:Nat}(hw:twant ops tm { dst:=dst,op:=.fieldAddr t x f,type:=ty,pos:=pos,after:=aft,guard:=gd }=some true)(hx:tev tm x=q)(hv:aJ P t q f=some p)(ht:tput tm dst p=tm2)(hq:TD C P ops ms rest (i+1) np c ⟨tm2,hp⟩ Q):TD C P ops ms ({ dst:=dst,op:=.fieldAddr t x f,type:=ty,pos:=pos,after:=aft,guard:=gd }::rest) i np c ⟨tm,hp⟩ Q:=
 TD.pop1 hw (by simp only[tpop,hx,hv]) ht hq
theorem TO.ia{t:TypeId}{x y:Operand}{q2:TV}(hw:twant ops tm { dst:=dst,op:=.indexAddr t x y,type:=ty,pos:=pos,after:=aft,guard:=gd }=some true)(hx:tev tm x=q)(hy:tev tm y=q2)(hv:aR P hp t q q2=some p)(ht:tput tm dst p=tm2)(hq:TO C P ops rest ⟨tm2,hp⟩ Q):TO C P ops ({ dst:=dst,op:=.indexAddr t x y,type:=ty,pos:=pos,after:=aft,guard:=gd }::rest) ⟨tm,hp⟩ Q:=
 TO.pop1 hw (by simp only[tpop,hx,hy,hv]) ht hq
theorem TD.ia{t:TypeId}{x y:Operand}{q2:TV}(hw:twant ops tm { dst:=dst,op:=.indexAddr t x y,type:=ty,pos:=pos,after:=aft,guard:=gd }=some true)(hx:tev tm x=q)(hy:tev tm y=q2)(hv:aR P hp t q q2=some p)(ht:tput tm dst p=tm2)(hq:TD C P ops ms rest (i+1) np c ⟨tm2,hp⟩ Q):TD C P ops ms ({ dst:=dst,op:=.indexAddr t x y,type:=ty,pos:=pos,after:=aft,guard:=gd }::rest) i np c ⟨tm,hp⟩ Q:=
 TD.pop1 hw (by simp only[tpop,hx,hy,hv]) ht hq
theorem TO.fld{t:TypeId}{x:Operand}{f:Nat}(hw:twant ops tm { dst:=dst,op:=.field t x f,type:=ty,pos:=pos,after:=aft,guard:=gd }=some true)(hx:tev tm x=q)(hv:tfield P t q f=some p)(ht:tput tm dst p=tm2)(hq:TO C P ops rest ⟨tm2,hp⟩ Q):TO C P ops ({ dst:=dst,op:=.field t x f,type:=ty,pos:=pos,after:=aft,guard:=gd }::rest) ⟨tm,hp⟩ Q:=
 TO.pop1 hw (by simp only[tpop,hx,hv]) ht hq
theorem TO.pk{x y z:Operand}(hw:twant ops tm { dst:=dst,op:=.pick x y z,type:=ty,pos:=pos,after:=aft,guard:=gd }=some true)(hv:tpick (tev tm x) (tev tm y) (tev tm z)=some p)(ht:tput tm dst p=tm2)(hq:TO C P ops rest ⟨tm2,hp⟩ Q):TO C P ops ({ dst:=dst,op:=.pick x y z,type:=ty,pos:=pos,after:=aft,guard:=gd }::rest) ⟨tm,hp⟩ Q:=
 TO.pop1 hw (by simp only[tpop,hv]) ht hq
theorem TD.pk{x y z:Operand}(hw:twant ops tm { dst:=dst,op:=.pick x y z,type:=ty,pos:=pos,after:=aft,guard:=gd }=some true)(hv:tpick (tev tm x) (tev tm y) (tev tm z)=some p)(ht:tput tm dst p=tm2)(hq:TD C P ops ms rest (i+1) np c ⟨tm2,hp⟩ Q):TD C P ops ms ({ dst:=dst,op:=.pick x y z,type:=ty,pos:=pos,after:=aft,guard:=gd }::rest) i np c ⟨tm,hp⟩ Q:=
 TD.pop1 hw (by simp only[tpop,hv]) ht hq
theorem TO.len{x:Operand}{t:TypeId}{ts:List TypeId}(hw:twant ops tm { dst:=dst,op:=.call { callee:=.builtin .len,args:=#[x],argTypes:=⟨t::ts⟩ },type:=ty,pos:=pos,after:=aft,guard:=gd }=some true)(hx:tev tm x=q)(hv:tlen P (some t) q=some p)(ht:tput tm dst p=tm2)(hq:TO C P ops rest ⟨tm2,hp⟩ Q):TO C P ops ({ dst:=dst,op:=.call { callee:=.builtin .len,args:=#[x],argTypes:=⟨t::ts⟩ },type:=ty,pos:=pos,after:=aft,guard:=gd }::rest) ⟨tm,hp⟩ Q:=
 TO.pop1 hw (by simp only[tpop,if_true,hx,List.getElem?_toArray,List.getElem?_cons_zero,hv,orT]) ht hq
theorem TD.len{x:Operand}{t:TypeId}{ts:List TypeId}(hw:twant ops tm { dst:=dst,op:=.call { callee:=.builtin .len,args:=#[x],argTypes:=⟨t::ts⟩ },type:=ty,pos:=pos,after:=aft,guard:=gd }=some true)(hx:tev tm x=q)(hv:tlen P (some t) q=some p)(ht:tput tm dst p=tm2)(hq:TD C P ops ms rest (i+1) np c ⟨tm2,hp⟩ Q):TD C P ops ms ({ dst:=dst,op:=.call { callee:=.builtin .len,args:=#[x],argTypes:=⟨t::ts⟩ },type:=ty,pos:=pos,after:=aft,guard:=gd }::rest) i np c ⟨tm,hp⟩ Q:=
 TD.pop1 hw (by simp only[tpop,if_true,hx,List.getElem?_toArray,List.getElem?_cons_zero,hv,orT]) ht hq
theorem TO.bld{t:TypeId}{ps:Array (Nat×Operand)}{l:List (Nat×TV)}(hw:twant ops tm { dst:=dst,op:=.build t ps,type:=ty,pos:=pos,after:=aft,guard:=gd }=some true)(hx:ps.toList.map (fun q=>(q.1,tev tm q.2))=l)(hv:tbuild P t l=some p)(ht:tput tm dst p=tm2)(hq:TO C P ops rest ⟨tm2,hp⟩ Q):TO C P ops ({ dst:=dst,op:=.build t ps,type:=ty,pos:=pos,after:=aft,guard:=gd }::rest) ⟨tm,hp⟩ Q:=
 TO.pop1 hw (by simp only[tpop,hx,hv]) ht hq
theorem TD.bld{t:TypeId}{ps:Array (Nat×Operand)}{l:List (Nat×TV)}(hw:twant ops tm { dst:=dst,op:=.build t ps,type:=ty,pos:=pos,after:=aft,guard:=gd }=some true)(hx:ps.toList.map (fun q=>(q.1,tev tm q.2))=l)(hv:tbuild P t l=some p)(ht:tput tm dst p=tm2)(hq:TD C P ops ms rest (i+1) np c ⟨tm2,hp⟩ Q):TD C P ops ms ({ dst:=dst,op:=.build t ps,type:=ty,pos:=pos,after:=aft,guard:=gd }::rest) i np c ⟨tm,hp⟩ Q:=
 TD.pop1 hw (by simp only[tpop,hx,hv]) ht hq
theorem TO.mf{f:FuncId}{a b:Array Operand}{l1 l2:List TV}(hw:twant ops tm { dst:=dst,op:=.makeFunc (.func f) a b,type:=ty,pos:=pos,after:=aft,guard:=gd }=some true)(hx:a.toList.map (tev tm)=l1)(hy:b.toList.map (tev tm)=l2)(hv:(l1.all (lf 4)&&l2.all (lf 4))=true)(ht:tput tm dst (.func f l1 l2)=tm2)(hq:TO C P ops rest ⟨tm2,hp⟩ Q):TO C P ops ({ dst:=dst,op:=.makeFunc (.func f) a b,type:=ty,pos:=pos,after:=aft,guard:=gd }::rest) ⟨tm,hp⟩ Q:=
 TO.pop1 hw (by subst hx hy;simp only[tpop];rw[a9];simpa only[List.all_map,Function.comp_def] using hv) ht hq
theorem TD.mf{f:FuncId}{a b:Array Operand}{l1 l2:List TV}(hw:twant ops tm { dst:=dst,op:=.makeFunc (.func f) a b,type:=ty,pos:=pos,after:=aft,guard:=gd }=some true)(hx:a.toList.map (tev tm)=l1)(hy:b.toList.map (tev tm)=l2)(hv:(l1.all (lf 4)&&l2.all (lf 4))=true)(ht:tput tm dst (.func f l1 l2)=tm2)(hq:TD C P ops ms rest (i+1) np c ⟨tm2,hp⟩ Q):TD C P ops ms ({ dst:=dst,op:=.makeFunc (.func f) a b,type:=ty,pos:=pos,after:=aft,guard:=gd }::rest) i np c ⟨tm,hp⟩ Q:=
 TD.pop1 hw (by subst hx hy;simp only[tpop];rw[a9];simpa only[List.all_map,Function.comp_def] using hv) ht hq
theorem TO.ld{t:TypeId}{a:Operand}(hw:twant ops tm { dst:=dst,op:=.load t a,type:=ty,pos:=pos,after:=aft,guard:=gd }=some true)(hx:tev tm a=p)(hv:tload P hp t p=some q)(ht:tput tm dst q=tm2)(hh2:hp=hp2)(hq:TO C P ops rest ⟨tm2,hp2⟩ Q):TO C P ops ({ dst:=dst,op:=.load t a,type:=ty,pos:=pos,after:=aft,guard:=gd }::rest) ⟨tm,hp⟩ Q:=by
 subst ht hh2
 exact TO.g hw (OpG.load (by rw[show tev (TS.mk tm hp).tm a=p from hx];exact hv)) hq
theorem TD.ld{t:TypeId}{a:Operand}(hw:twant ops tm { dst:=dst,op:=.load t a,type:=ty,pos:=pos,after:=aft,guard:=gd }=some true)(hx:tev tm a=p)(hv:tload P hp t p=some q)(ht:tput tm dst q=tm2)(hh2:hp=hp2)(hq:TD C P ops ms rest (i+1) (i::np) 0 ⟨tm2,hp2⟩ Q):TD C P ops ms ({ dst:=dst,op:=.load t a,type:=ty,pos:=pos,after:=aft,guard:=gd }::rest) i np 0 ⟨tm,hp⟩ Q:=by
 subst ht hh2
 exact TD.g hw (OpG.load (by rw[show tev (TS.mk tm hp).tm a=p from hx];exact hv)) hq
theorem TD.ldF{t:TypeId}{a:Operand}{idx:Nat}(hnf:kN ops=true)(hw:twant ops tm { dst:=dst,op:=.load t a,type:=ty,pos:=pos,after:=aft,guard:=gd }=some true)(hx:tev tm a=p)(hv:tload P hp t p=some q)(hap:apart hp idx p=true)(ht:tput tm dst q=tm2)(hh2:hp=hp2)(hq:TD C P ops ms rest (i+1) (i::np) (idx+2) ⟨tm2,hp2⟩ Q):TD C P ops ms ({ dst:=dst,op:=.load t a,type:=ty,pos:=pos,after:=aft,guard:=gd }::rest) i np (idx+2) ⟨tm,hp⟩ Q:=by
 subst ht hh2
 exact TD.ldF0 (s:=⟨tm,hp⟩) hnf hw (by rw[show tev (TS.mk tm hp).tm a=p from hx];exact hap) (OpL.load (s:=⟨tm,hp⟩) (by rw[show tev (TS.mk tm hp).tm a=p from hx];exact hv)) hq
theorem TO.al{e:TypeId}{z:List Value}{zt:List TV}(hw:twant ops tm { dst:=dst,op:=.alloc e,type:=ty,pos:=pos,after:=aft,guard:=gd }=some true)(hv:jD P e=some z)(hz:z.map TV.v=zt)(ht:tput tm dst (.lptr hp.length 0 0)=tm2)(hh2:(hp++[.var zt])=hp2)(hq:TO C P ops rest ⟨tm2,hp2⟩ Q):TO C P ops ({ dst:=dst,op:=.alloc e,type:=ty,pos:=pos,after:=aft,guard:=gd }::rest) ⟨tm,hp⟩ Q:=by
 subst ht hh2
 exact TO.g hw (by subst hz;exact OpG.alloc hv) hq
theorem TD.al{e:TypeId}{z:List Value}{zt:List TV}(hw:twant ops tm { dst:=dst,op:=.alloc e,type:=ty,pos:=pos,after:=aft,guard:=gd }=some true)(hv:jD P e=some z)(hz:z.map TV.v=zt)(ht:tput tm dst (.lptr hp.length 0 0)=tm2)(hh2:(hp++[.var zt])=hp2)(hq:TD C P ops ms rest (i+1) (i::np) 0 ⟨tm2,hp2⟩ Q):TD C P ops ms ({ dst:=dst,op:=.alloc e,type:=ty,pos:=pos,after:=aft,guard:=gd }::rest) i np 0 ⟨tm,hp⟩ Q:=by
 subst ht hh2
 exact TD.g hw (by subst hz;exact OpG.alloc hv) hq
theorem TO.bx{e:TypeId}{x:Operand}{l:List TV}(hw:twant ops tm { dst:=dst,op:=.box e x,type:=ty,pos:=pos,after:=aft,guard:=gd }=some true)(hx:tev tm x=p)(hj:iY p=false)(hl:tcells p=l)(ht:tput tm dst (.lptr hp.length 0 0)=tm2)(hh2:(hp++[.var l])=hp2)(hq:TO C P ops rest ⟨tm2,hp2⟩ Q):TO C P ops ({ dst:=dst,op:=.box e x,type:=ty,pos:=pos,after:=aft,guard:=gd }::rest) ⟨tm,hp⟩ Q:=by
 subst ht hh2
 exact TO.g hw (by subst hl;exact OpG.box hx hj) hq
theorem TO.bf{e:TypeId}{x:Operand}{l:List TV}(hw:twant ops tm { dst:=dst,op:=.box e x,type:=ty,pos:=pos,after:=aft,guard:=gd }=some true)(hx:tev tm x=p)(hj:iY p=false)(hl:tcells p=l)(hlf:l.all (lf 4)=true)(ht:tput tm dst (.fptr true l 0)=tm2)(hh2:hp=hp2)(hq:TO C P ops rest ⟨tm2,hp2⟩ Q):TO C P ops ({ dst:=dst,op:=.box e x,type:=ty,pos:=pos,after:=aft,guard:=gd }::rest) ⟨tm,hp⟩ Q:=by
 subst ht hh2
 exact TO.g hw (by subst hl;exact OpG.boxF hx hj hlf) hq
theorem TO.bs{t:TypeId}{n:Nat}{ps:Array (Nat×Operand)}{l:List (Nat×TV)}{es:Nat}{rows:List (List TV)}(hw:twant ops tm { dst:=dst,op:=.buildSlice t n ps,type:=ty,pos:=pos,after:=aft,guard:=gd }=some true)(hx:ps.toList.map (fun q=>(q.1,tev tm q.2))=l)(hv:tslice P t n l=some (es,rows))(ht:tput tm dst (.list es rows)=tm2)(hh2:hp=hp2)(hq:TO C P ops rest ⟨tm2,hp2⟩ Q):TO C P ops ({ dst:=dst,op:=.buildSlice t n ps,type:=ty,pos:=pos,after:=aft,guard:=gd }::rest) ⟨tm,hp⟩ Q:=by
 subst ht hh2
 exact TO.g hw (OpG.buildSlice (s:=⟨tm,hp⟩) (by simp only[hx];exact hv)) hq
theorem TD.bs{t:TypeId}{n:Nat}{ps:Array (Nat×Operand)}{l:List (Nat×TV)}{es:Nat}{rows:List (List TV)}(hw:twant ops tm { dst:=dst,op:=.buildSlice t n ps,type:=ty,pos:=pos,after:=aft,guard:=gd }=some true)(hx:ps.toList.map (fun q=>(q.1,tev tm q.2))=l)(hv:tslice P t n l=some (es,rows))(ht:tput tm dst (.list es rows)=tm2)(hh2:hp=hp2)(hq:TD C P ops ms rest (i+1) (i::np) 0 ⟨tm2,hp2⟩ Q):TD C P ops ms ({ dst:=dst,op:=.buildSlice t n ps,type:=ty,pos:=pos,after:=aft,guard:=gd }::rest) i np 0 ⟨tm,hp⟩ Q:=by
 subst ht hh2
 exact TD.g hw (OpG.buildSlice (s:=⟨tm,hp⟩) (by simp only[hx];exact hv)) hq
theorem aDx(hsl0:True){α:Type}{x y:Operand}{t0 t1 e:TypeId}{tys:List TypeId}{n len es:Nat}{xs ys:List α}{f:α→List TV}{z:List Value}{new:List (List TV)}{xy:List α}(hx:tev tm x = .lsl n 0 len)(hb:hp[n]?=some (.rows es (xs.map f)))(hlen:len=xs.length)(hy:tev tm y = .list es new)(hnew:new=ys.map f)(hsl:dY P t0=some e)(hni:mM P (some t1)=true)(hz:jD P e=some z)(hes:z.length=es)(hap:lL (mN P e) xs ys=some xy)(hff:∀ a,(f a).length=es∧(f a).all tone=true∧(f a).all (lf 4)=true):OpW C P { dst:=dst,op:=.call { callee:=.builtin .append,args:=#[x,y],argTypes:=⟨t0::t1::tys⟩ },type:=ty,pos:=pos,after:=aft,guard:=gd } ⟨tm,hp⟩ ⟨tput (tm.map (kill n 4)) dst (.lsl n 0 xy.length),(hp.map (oR n)).set n (.rows es (xy.map f))⟩:=by
 unfold lL at hap
 split at hap
 ·rename_i hl
  obtain rfl:=a6 hap
  subst hnew
  have:=OpW.append (C:=C) (P:=P) (s:=⟨tm,hp⟩) (dst:=dst) (ty:=ty) (pos:=pos) (aft:=aft) (gd:=gd) (x:=x) (y:=y) (t0:=t0) (t1:=t1) (e:=e) (tys:=tys) (n:=n) (len:=len) (es:=es) (rows:=xs.map f) (new:=ys.map f) (z:=z) hx hb (by simp[hlen]) hy hsl hni hz hes (by simpa [aBa] using hl)
   (fun r hr=>by obtain⟨a,_,rfl⟩:=l5.1 hr;exact (hff a).1) (fun r hr=>by obtain⟨a,_,rfl⟩:=l5.1 hr;exact (hff a).2.1) (fun r hr=>by obtain⟨a,_,rfl⟩:=l5.1 hr;exact (hff a).2.2)
  simpa using this
 ·cases hap
theorem TO.ap{α:Type}{x y:Operand}{t0 t1 e:TypeId}{tys:List TypeId}{n len es:Nat}{xs ys:List α}{f:α→List TV}{z:List Value}{new:List (List TV)}{xy:List α}(hw:twant ops tm { dst:=dst,op:=.call { callee:=.builtin .append,args:=#[x,y],argTypes:=⟨t0::t1::tys⟩ },type:=ty,pos:=pos,after:=aft,guard:=gd }=some true)(hx:tev tm x = .lsl n 0 len)(hb:hp[n]?=some (.rows es (xs.map f)))(hlen:len=xs.length)(hy:tev tm y = .list es new)(hnew:new=ys.map f)(hsl:dY P t0=some e)(hni:mM P (some t1)=true)(hz:jD P e=some z)(hes:z.length=es)(hap:lL (mN P e) xs ys=some xy)(hff:∀ a,(f a).length=es∧(f a).all tone=true∧(f a).all (lf 4)=true)(ht:tput (tm.map (kill n 4)) dst (.lsl n 0 xy.length)=tm2)(hh2:(hp.map (oR n)).set n (.rows es (xy.map f))=hp2)(hq:TO C P ops rest ⟨tm2,hp2⟩ Q):TO C P ops ({ dst:=dst,op:=.call { callee:=.builtin .append,args:=#[x,y],argTypes:=⟨t0::t1::tys⟩ },type:=ty,pos:=pos,after:=aft,guard:=gd }::rest) ⟨tm,hp⟩ Q:=by
 subst ht hh2
 exact TO.w hw (aDx trivial hx hb hlen hy hnew hsl hni hz hes hap hff) hq
theorem TD.ap{α:Type}{x y:Operand}{t0 t1 e:TypeId}{tys:List TypeId}{n len es:Nat}{xs ys:List α}{f:α→List TV}{z:List Value}{new:List (List TV)}{xy:List α}(hw:twant ops tm { dst:=dst,op:=.call { callee:=.builtin .append,args:=#[x,y],argTypes:=⟨t0::t1::tys⟩ },type:=ty,pos:=pos,after:=aft,guard:=gd }=some true)(hx:tev tm x = .lsl n 0 len)(hb:hp[n]?=some (.rows es (xs.map f)))(hlen:len=xs.length)(hy:tev tm y = .list es new)(hnew:new=ys.map f)(hsl:dY P t0=some e)(hni:mM P (some t1)=true)(hz:jD P e=some z)(hes:z.length=es)(hap:lL (mN P e) xs ys=some xy)(hff:∀ a,(f a).length=es∧(f a).all tone=true∧(f a).all (lf 4)=true)(hnp:np.all (fun j=>(aK ms i).testBit j)=true)(ht:tput (tm.map (kill n 4)) dst (.lsl n 0 xy.length)=tm2)(hh2:(hp.map (oR n)).set n (.rows es (xy.map f))=hp2)(hq:TD C P ops ms rest (i+1) (i::np) 1 ⟨tm2,hp2⟩ Q):TD C P ops ms ({ dst:=dst,op:=.call { callee:=.builtin .append,args:=#[x,y],argTypes:=⟨t0::t1::tys⟩ },type:=ty,pos:=pos,after:=aft,guard:=gd }::rest) i np c ⟨tm,hp⟩ Q:=by
 subst ht hh2
 exact TD.w hw (aDx trivial hx hb hlen hy hnew hsl hni hz hes hap hff) hnp hq
theorem Xm{n j:Nat}{b b':TB}(hj:((hp.map (oR n)).set n b)[j]?=some b')(hl:b'.live=true)(hne:j≠n):∃ b,hp[j]?=some b∧b.live=true:=by
 rw[d8 (Ne.symm hne),e8] at hj
 cases hq:hp[j]? with
 | none=>rw[hq] at hj;cases hj
 | some b0 =>
  rw[hq] at hj
  obtain rfl:=a6 hj
  refine⟨b0,rfl,?_⟩
  cases b0<;>first|rfl|exact hl
theorem aDE(hsl0:True){α:Type}{x y:Operand}{t0 t1 e:TypeId}{tys:List TypeId}{n len es:Nat}{xs ys:List α}{f:α→List TV}{z:List Value}{new:List (List TV)}{xy:List α}(hx:tev tm x = .lsl n 0 len)(hb:hp[n]?=some (.rows es (xs.map f)))(hlen:len=xs.length)(hy:tev tm y = .list es new)(hnew:new=ys.map f)(hsl:dY P t0=some e)(hni:mM P (some t1)=true)(hz:jD P e=some z)(hes:z.length=es)(hap:lL (mN P e) xs ys=some xy)(hff:∀ a,(f a).length=es∧(f a).all tone=true∧(f a).all (lf 4)=true):OpA C P { dst:=dst,op:=.call { callee:=.builtin .append,args:=#[x,y],argTypes:=⟨t0::t1::tys⟩ },type:=ty,pos:=pos,after:=aft,guard:=gd } ⟨tm,hp⟩ ⟨tput (tm.map (kill n 4)) dst (.lsl n 0 xy.length),(hp.map (oR n)).set n (.rows es (xy.map f))⟩ n:=by
 unfold lL at hap
 split at hap
 ·rename_i hl
  obtain rfl:=a6 hap
  subst hnew
  have:=OpA.append (C:=C) (P:=P) (s:=⟨tm,hp⟩) (dst:=dst) (ty:=ty) (pos:=pos) (aft:=aft) (gd:=gd) (x:=x) (y:=y) (t0:=t0) (t1:=t1) (e:=e) (tys:=tys) (n:=n) (len:=len) (es:=es) (rows:=xs.map f) (new:=ys.map f) (z:=z) hx hb (by simp[hlen]) hy hsl hni hz hes (by simpa [aBa] using hl)
   (fun r hr=>by obtain⟨a,_,rfl⟩:=l5.1 hr;exact (hff a).1) (fun r hr=>by obtain⟨a,_,rfl⟩:=l5.1 hr;exact (hff a).2.1) (fun r hr=>by obtain⟨a,_,rfl⟩:=l5.1 hr;exact (hff a).2.2)
  simpa using this
 ·cases hap
theorem TD.apf{α:Type}{x y:Operand}{t0 t1 e:TypeId}{tys:List TypeId}{n len es:Nat}{xs ys:List α}{f:α→List TV}{z:List Value}{new:List (List TV)}{xy:List α}(hw:twant ops tm { dst:=dst,op:=.call { callee:=.builtin .append,args:=#[x,y],argTypes:=⟨t0::t1::tys⟩ },type:=ty,pos:=pos,after:=aft,guard:=gd }=some true)(hx:tev tm x = .lsl n 0 len)(hb:hp[n]?=some (.rows es (xs.map f)))(hlen:len=xs.length)(hy:tev tm y = .list es new)(hnew:new=ys.map f)(hsl:dY P t0=some e)(hni:mM P (some t1)=true)(hz:jD P e=some z)(hes:z.length=es)(hap:lL (mN P e) xs ys=some xy)(hff:∀ a,(f a).length=es∧(f a).all tone=true∧(f a).all (lf 4)=true)(hnp:okW ops ms i ⟨tm,hp⟩ n np=true)(ht:tput (tm.map (kill n 4)) dst (.lsl n 0 xy.length)=tm2)(hh2:(hp.map (oR n)).set n (.rows es (xy.map f))=hp2)(hq:TD C P ops ms rest (i+1) (i::np) (n+2) ⟨tm2,hp2⟩ Q):TD C P ops ms ({ dst:=dst,op:=.call { callee:=.builtin .append,args:=#[x,y],argTypes:=⟨t0::t1::tys⟩ },type:=ty,pos:=pos,after:=aft,guard:=gd }::rest) i np 0 ⟨tm,hp⟩ Q:=by
 subst ht hh2
 exact TD.apW hw (aDE trivial hx hb hlen hy hnew hsl hni hz hes hap hff) (fun j b' hj hl hne=>Xm hj hl hne) ⟨_,hb,rfl⟩ hnp hq
theorem TO.cal{fo:Operand}{g:FuncId}{args:Array Operand}{tys:Array TypeId}{first caps as:List TV}{th:List TB}(hw:twant ops tm { dst:=dst,op:=.call { callee:=.value fo,args:=args,argTypes:=tys },type:=ty,pos:=pos,after:=aft,guard:=gd }=some true)(hf:tev tm fo = .func g first caps)(hg:aN P g=true)(hsp:Spec C g as ⟨[p],th⟩)(has:first++(args.toList.map (tev tm)++caps)=as)(hl:as.all (lf 4)=true)(hth:th.all uW=true)(ht:tput tm dst (shift hp.length 4 p)=tm2)(hh2:hp++th=hp2)(hq:TO C P ops rest ⟨tm2,hp2⟩ Q):TO C P ops ({ dst:=dst,op:=.call { callee:=.value fo,args:=args,argTypes:=tys },type:=ty,pos:=pos,after:=aft,guard:=gd }::rest) ⟨tm,hp⟩ Q:=by
 subst ht hh2
 exact TO.g hw (OpG.call (s:=⟨tm,hp⟩) hf hg has hl hsp hth) hq
theorem TD.cal{fo:Operand}{g:FuncId}{args:Array Operand}{tys:Array TypeId}{first caps as:List TV}{th:List TB}(hw:twant ops tm { dst:=dst,op:=.call { callee:=.value fo,args:=args,argTypes:=tys },type:=ty,pos:=pos,after:=aft,guard:=gd }=some true)(hf:tev tm fo = .func g first caps)(hg:aN P g=true)(hsp:Spec C g as ⟨[p],th⟩)(has:first++(args.toList.map (tev tm)++caps)=as)(hl:as.all (lf 4)=true)(hth:th.all uW=true)(ht:tput tm dst (shift hp.length 4 p)=tm2)(hh2:hp++th=hp2)(hq:TD C P ops ms rest (i+1) (i::np) 0 ⟨tm2,hp2⟩ Q):TD C P ops ms ({ dst:=dst,op:=.call { callee:=.value fo,args:=args,argTypes:=tys },type:=ty,pos:=pos,after:=aft,guard:=gd }::rest) i np 0 ⟨tm,hp⟩ Q:=by
 subst ht hh2
 exact TD.g hw (OpG.call (s:=⟨tm,hp⟩) hf hg has hl hsp hth) hq
theorem TD.calF{idx:Nat}{fo:Operand}{g:FuncId}{args:Array Operand}{tys:Array TypeId}{first caps as:List TV}{th:List TB}(hnf:kN ops=true)(hw:twant ops tm { dst:=dst,op:=.call { callee:=.value fo,args:=args,argTypes:=tys },type:=ty,pos:=pos,after:=aft,guard:=gd }=some true)(hf:tev tm fo = .func g first caps)(hg:aN P g=true)(hsp:Spec C g as ⟨[p],th⟩)(has:first++(args.toList.map (tev tm)++caps)=as)(hl:as.all (lf 4)=true)(hth:th.all uW=true)(hnp:np.all (fun j=>(aK ms i).testBit j)=true)(ht:tput tm dst (shift hp.length 4 p)=tm2)(hh2:hp++th=hp2)(hq:TD C P ops ms rest (i+1) (i::np) (idx+2) ⟨tm2,hp2⟩ Q):TD C P ops ms ({ dst:=dst,op:=.call { callee:=.value fo,args:=args,argTypes:=tys },type:=ty,pos:=pos,after:=aft,guard:=gd }::rest) i np (idx+2) ⟨tm,hp⟩ Q:=by
 subst ht hh2
 exact TD.gF hnf hw (OpGs.call (s:=⟨tm,hp⟩) hf hg has hl hsp hth) hnp hq
theorem TO.lok{fo:Operand}{g:FuncId}{args:Array Operand}{tys:Array TypeId}{first caps as:List TV}{th:List TB}(hw:twant ops tm { dst:=dst,op:=.call { callee:=.value fo,args:=args,argTypes:=tys },type:=ty,pos:=pos,after:=aft,guard:=gd }=some true)(hf:tev tm fo = .func g first caps)(hg:aN P g=true)(hsp:Spec C g as ⟨[p],th⟩)(has:first++((args.toList.map (tev tm)).map (view hp 4)++caps)=as)(hth:th.all uW=true)(hcp:cl 4 p=true)(hcl:th.all kL=true)(ht:tput tm dst (shift hp.length 4 p)=tm2)(hh2:hp++th=hp2)(hq:TO C P ops rest ⟨tm2,hp2⟩ Q):TO C P ops ({ dst:=dst,op:=.call { callee:=.value fo,args:=args,argTypes:=tys },type:=ty,pos:=pos,after:=aft,guard:=gd }::rest) ⟨tm,hp⟩ Q:=by
 subst ht hh2
 exact TO.g hw (OpG.look (s:=⟨tm,hp⟩) hf hg has hsp hth hcp hcl) hq
theorem TD.lok{fo:Operand}{g:FuncId}{args:Array Operand}{tys:Array TypeId}{first caps as:List TV}{th:List TB}(hw:twant ops tm { dst:=dst,op:=.call { callee:=.value fo,args:=args,argTypes:=tys },type:=ty,pos:=pos,after:=aft,guard:=gd }=some true)(hf:tev tm fo = .func g first caps)(hg:aN P g=true)(hsp:Spec C g as ⟨[p],th⟩)(has:first++((args.toList.map (tev tm)).map (view hp 4)++caps)=as)(hth:th.all uW=true)(hcp:cl 4 p=true)(hcl:th.all kL=true)(ht:tput tm dst (shift hp.length 4 p)=tm2)(hh2:hp++th=hp2)(hq:TD C P ops ms rest (i+1) (i::np) 0 ⟨tm2,hp2⟩ Q):TD C P ops ms ({ dst:=dst,op:=.call { callee:=.value fo,args:=args,argTypes:=tys },type:=ty,pos:=pos,after:=aft,guard:=gd }::rest) i np 0 ⟨tm,hp⟩ Q:=by
 subst ht hh2
 exact TD.g hw (OpG.look (s:=⟨tm,hp⟩) hf hg has hsp hth hcp hcl) hq
theorem TD.lokw{fo:Operand}{g:FuncId}{args:Array Operand}{tys:Array TypeId}{first caps as:List TV}{th:List TB}(hw:twant ops tm { dst:=dst,op:=.call { callee:=.value fo,args:=args,argTypes:=tys },type:=ty,pos:=pos,after:=aft,guard:=gd }=some true)(hf:tev tm fo = .func g first caps)(hg:aN P g=true)(hsp:Spec C g as ⟨[p],th⟩)(has:first++((args.toList.map (tev tm)).map (view hp 4)++caps)=as)(hth:th.all uW=true)(hcp:cl 4 p=true)(hcl:th.all kL=true)(hnp:np.all (fun j=>(aK ms i).testBit j)=true)(ht:tput tm dst (shift hp.length 4 p)=tm2)(hh2:hp++th=hp2)(hq:TD C P ops ms rest (i+1) (i::np) 1 ⟨tm2,hp2⟩ Q):TD C P ops ms ({ dst:=dst,op:=.call { callee:=.value fo,args:=args,argTypes:=tys },type:=ty,pos:=pos,after:=aft,guard:=gd }::rest) i np c ⟨tm,hp⟩ Q:=by
 subst ht hh2
 exact TD.w hw (OpG.toW (OpG.look (s:=⟨tm,hp⟩) hf hg has hsp hth hcp hcl)) hnp hq
theorem TO.frz(n:Nat){l:List Oper}{b:TB}(hb:hp[n]?=some b)(hl:lfB b=true)(ht:tm.map (frz n b 4)=tm2)(hh2:(hp.map (Lm n b)).set n .dead=hp2)(hq:TO C P ops l ⟨tm2,hp2⟩ Q):TO C P ops l ⟨tm,hp⟩ Q:=by
 subst ht hh2
 exact TO.weak (Wk.freeze n hb hl) hq
theorem TD.frz(n:Nat){l:List Oper}{b:TB}(hb:hp[n]?=some b)(hl:lfB b=true)(ht:tm.map (frz n b 4)=tm2)(hh2:(hp.map (Lm n b)).set n .dead=hp2)(hcb:Nat.ble c 1=true)(hq:TD C P ops ms l i np c ⟨tm2,hp2⟩ Q):TD C P ops ms l i np c ⟨tm,hp⟩ Q:=by
 subst ht hh2
 exact TD.weak hcb (Wk.freeze n hb hl) hq
end
end Go.Rex
namespace Go.Rex
open Go.RowKit
section
variable {P:Program} {tm:List TV} {hp:List TB}
variable {dst:Option Tmp} {ty:TypeId} {pos:String} {aft:Array Edge} {gd:Option (Nat×Bool)} {x y:Operand} {t u:TypeId} {tys:List TypeId}
theorem qZ{o:Oper}{v:Value}(ha:o.op.operands.toList.all (fun x=>(er 3 (tev tm x)).isSome)=true)(hv:Rex.pop P (erased tm) o=some v)(hi:qC 3 v=true):tgen P tm o=some (inj 3 v):=by
 unfold tgen
 rw[a9 ha,hv]
 simp only
 rw[a9 hi]
theorem cG{a:Value}(h:tev tm x = .v a):erased tm x=a:=by unfold erased;rw[h];rfl
theorem pJ{a:Value}(h:tev tm x = .v a):(er 3 (tev tm x)).isSome=true:=by rw[h];rfl
theorem bS{b:Bool}(h:tev tm x = .v (.bool b)):tpop P hp tm { dst:=dst,op:=.unOp .not t x,type:=ty,pos:=pos,after:=aft,guard:=gd }=some (.v (.bool (!b))):=by
 have:tgen P tm { dst:=dst,op:=.unOp .not t x,type:=ty,pos:=pos,after:=aft,guard:=gd }=some (inj 3 (.bool (!b))):=
  qZ (by simp[Op.operands,pJ h]) (by simp only[Rex.pop,Rex.pop0,aAj,cG h]) rfl
 exact this
theorem aBK{k:IntKind}{n:Int}(h:tev tm x = .v (.int k n)):tpop P hp tm { dst:=dst,op:=.unOp .neg t x,type:=ty,pos:=pos,after:=aft,guard:=gd }=some (.v (.int k (k.wrap (0-n)))):=by
 have:tgen P tm { dst:=dst,op:=.unOp .neg t x,type:=ty,pos:=pos,after:=aft,guard:=gd }=some (inj 3 (.int k (k.wrap (0-n)))):=
  qZ (by simp[Op.operands,pJ h]) (by simp only[Rex.pop,Rex.pop0,aAm,cG h]) rfl
 exact this
theorem vV{k:FloatKind}{a b:Nat}(h:tev tm x = .v (.complex k a b)):tpop P hp tm { dst:=dst,op:=.call { callee:=.builtin .real,args:=#[x],argTypes:=⟨tys⟩ },type:=ty,pos:=pos,after:=aft,guard:=gd }=some (.v (.float k a)):=by
 have:tgen P tm { dst:=dst,op:=.call { callee:=.builtin .real,args:=#[x],argTypes:=⟨tys⟩ },type:=ty,pos:=pos,after:=aft,guard:=gd }=some (inj 3 (.float k a)):=
  qZ (by simpa [Op.operands,Call.operands] using pJ h) (by
   exact Vw (cG h)) rfl
 exact this
theorem vE{k:FloatKind}{a b:Nat}(h:tev tm x = .v (.complex k a b)):tpop P hp tm { dst:=dst,op:=.call { callee:=.builtin .imag,args:=#[x],argTypes:=⟨tys⟩ },type:=ty,pos:=pos,after:=aft,guard:=gd }=some (.v (.float k b)):=by
 have:tgen P tm { dst:=dst,op:=.call { callee:=.builtin .imag,args:=#[x],argTypes:=⟨tys⟩ },type:=ty,pos:=pos,after:=aft,guard:=gd }=some (inj 3 (.float k b)):=
  qZ (by simpa [Op.operands,Call.operands] using pJ h) (by
   exact Vx (cG h)) rfl
 exact this
theorem Cr{a b:Nat}(h:tev tm x = .v (.float .f32 a))(g:tev tm y = .v (.float .f32 b)):tpop P hp tm { dst:=dst,op:=.call { callee:=.builtin .complex,args:=#[x,y],argTypes:=⟨tys⟩ },type:=ty,pos:=pos,after:=aft,guard:=gd }=some (.v (.complex .f32 a b)):=by
 have:tgen P tm { dst:=dst,op:=.call { callee:=.builtin .complex,args:=#[x,y],argTypes:=⟨tys⟩ },type:=ty,pos:=pos,after:=aft,guard:=gd }=some (inj 3 (.complex .f32 a b)):=
  qZ (by simpa [Op.operands,Call.operands] using ⟨pJ h,pJ g⟩) (by
   exact Mb (cG h) (cG g)) rfl
 exact this
theorem Pj{o:Oper}{v:Value}(hp0:Rex.pop0 P (erased tm) o=rB P (erased tm) o)(hsel:∀ cs b,o.op ≠ .select cs b)(ha:o.op.operands.toList.all (fun x=>(er 3 (tev tm x)).isSome)=true)(hc:o.op.operands.toList.all (fun x=>dX (erased tm x))=true)
 (hv:prun P (execOp (erased tm) o)=some (.value v)) (hi:qC 3 v=true) (hcv:bR v=true):tgen P tm o=some (inj 3 v):=by
 refine qZ ha (Tu ?_) hi
 rw[hp0]
 unfold rB
 split
 ·rename_i cs b e;exact absurd e (hsel _ _)
 ·rw[a9 hc,hv]
  simp only
  rw[a9 hcv]
theorem bW{α β:Type}{s:Sem α}{f:α→Sem β}:prun P (s >>= f)=(prun P s).bind fun a=>prun P (f a):=by
 induction s with
 | pure a=>rfl
 | program k ih=>exact ih _
 | mark m k ih=>exact ih
 | _=>rfl
theorem lP{t:TypeId}{d:TypeDesc}(h:P.underlying t=some d):prun P (underlying t)=some d:=by
 unfold underlying
 rw[bW]
 show prun P (match P.underlying t with | some d => pure d | none => stuck "no such type") = some d
 rw[h]
 rfl
theorem Xp{v w:Value}(h:tev tm x = .v v)(hc:dX v=true)(hw:prun P (convert t u v)=some w)(hi:qC 3 w=true)(hcw:bR w=true):tpop P hp tm { dst:=dst,op:=.convert t u x,type:=ty,pos:=pos,after:=aft,guard:=gd }=some (inj 3 w):=by
 have:tgen P tm { dst:=dst,op:=.convert t u x,type:=ty,pos:=pos,after:=aft,guard:=gd }=some (inj 3 w):=by
  refine Pj rfl (fun cs b e=>by cases e) (by simpa [Op.operands] using pJ h) (by simpa [Op.operands,cG h] using hc) ?_ hi hcw
  show prun P (convert t u (erased tm x) >>= fun r=>(pure (Next.value r):Sem Next))=_
  rw[bW,cG h,hw]
  rfl
 exact this
theorem sQ{k ks:IntKind}{kd:FloatKind}{n:Int}(hs:P.underlying t=some (.int ks))(hd:P.underlying u=some (.float kd))(h:tev tm x = .v (.int k n)):tpop P hp tm { dst:=dst,op:=.convert t u x,type:=ty,pos:=pos,after:=aft,guard:=gd }=some (.v (.float kd (kd.nearest n))):=by
 refine Xp (w:=.float kd (kd.nearest n)) h rfl ?_ rfl rfl
 unfold convert
 rw[bW,lP hs,a7,bW,lP hd,a7]
 rfl
theorem Uq{v w:Value}(h:tev tm x = .v v)(hn:Vn P t u v=some w)(hw:prun P (convert t u v)=some w∨prun P (convert t u v)=none)(hi:qC 3 w=true):tpop P hp tm { dst:=dst,op:=.convert t u x,type:=ty,pos:=pos,after:=aft,guard:=gd }=some (inj 3 w):=by
 have:tgen P tm { dst:=dst,op:=.convert t u x,type:=ty,pos:=pos,after:=aft,guard:=gd }=some (inj 3 w):=by
  refine qZ (by simpa [Op.operands] using pJ h) (xN rfl ?_ ?_) hi
  ·show Vn P t u (erased tm x)=some w
   rw[cG h];exact hn
  ·show prun P (convert t u (erased tm x) >>= fun r=>(pure (Next.value r):Sem Next))=_∨prun P (convert t u (erased tm x) >>= fun r=>(pure (Next.value r):Sem Next))=_
   rw[bW,cG h]
   rcases hw with hw|hw
   ·rw[hw];exact .inl rfl
   ·rw[hw];exact .inr rfl
 exact this
theorem Eu{k kd:FloatKind}{b r:Nat}(hr:f2f k b kd=some r):prun P (Conv.floatToFloat k b kd)=some (.float kd r)∨prun P (Conv.floatToFloat k b kd)=none:=by
 unfold Conv.floatToFloat
 unfold f2f at hr
 split at hr
 ·rename_i e;rw[a9 e];obtain rfl:=a6 hr;exact .inl rfl
 ·rename_i e
  rw[b6 e]
  split at hr
  ·rename_i hn
   obtain⟨s,t,e2⟩:=mS hn
   have e3:k.decode b = .nan s t:=e2
   rw[e3]
   exact .inr rfl
  ·split at hr
   ·cases hr
   ·rename_i hd;obtain rfl:=a6 hr;simp only[hd];exact .inl rfl
   ·rename_i hd
    simp only[hd]
    split at hr
    ·cases hr
    ·rename_i hi
     obtain rfl:=a6 hr
     rw[b6 hi]
     exact .inl rfl
theorem qK{k ks kd:FloatKind}{b r:Nat}(hs:P.underlying t=some (.float ks))(hd:P.underlying u=some (.float kd))(h:tev tm x = .v (.float k b))(hr:f2f k b kd=some r):tpop P hp tm { dst:=dst,op:=.convert t u x,type:=ty,pos:=pos,after:=aft,guard:=gd }=some (.v (.float kd r)):=by
 refine Uq (w:=.float kd r) h ?_ ?_ rfl
 ·simp only[Vn,hs,hd,hr,Option.map_some]
 ·have e : prun P (convert t u (.float k b)) = prun P (Conv.floatToFloat k b kd) := by
    unfold convert
    rw[bW,lP hs,a7,bW,lP hd,a7]
  rw[e]
  exact Eu hr
def f2i(s:FloatKind)(b:Nat)(d:IntKind):Option Int:=
 match (s.decode b).toInt .zero with
 | some n=>if d.min≤n∧n≤d.max then some n else none
 | none=>none
theorem sU{k ks:FloatKind}{kd:IntKind}{b:Nat}{r:Int}(hs:P.underlying t=some (.float ks))(hd:P.underlying u=some (.int kd))(h:tev tm x = .v (.float k b))(hr:f2i k b kd=some r):tpop P hp tm { dst:=dst,op:=.convert t u x,type:=ty,pos:=pos,after:=aft,guard:=gd }=some (.v (.int kd r)):=by
 have hnb:iX k b=false:=by
  cases hq:iX k b with
  | false=>rfl
  | true =>
   obtain⟨s,t,e⟩:=mS hq
   have e:k.decode b = .nan s t:=e
   unfold f2i at hr
   rw[e] at hr
   cases hr
 refine Xp (w:=.int kd r) h (by simp only[dX,depth,clean,qP,hnb];rfl) ?_ rfl rfl
 unfold convert
 rw[bW,lP hs,a7,bW,lP hd,a7]
 show prun P (Conv.floatToInt k b kd)=_
 unfold Conv.floatToInt
 unfold f2i at hr
 split at hr
 ·rename_i n hn
  split at hr
  ·rename_i hc
   obtain rfl:=a6 hr
   simp only[hn]
   rw[a9 hc]
   rfl
  ·cases hr
 ·cases hr
theorem Cy{k kd ks:FloatKind}{a b r i:Nat}(hs:P.underlying t=some (.complex ks))(hd:P.underlying u=some (.complex kd))(h:tev tm x = .v (.complex k a b))(hr:f2f k a kd=some r)(hi:f2f k b kd=some i):tpop P hp tm { dst:=dst,op:=.convert t u x,type:=ty,pos:=pos,after:=aft,guard:=gd }=some (.v (.complex kd r i)):=by
 refine Uq (w:=.complex kd r i) h ?_ ?_ rfl
 ·simp only[Vn,hs,hd,hr,hi,Option.map_some,Option.bind_some]
 ·have e : prun P (convert t u (.complex k a b)) = prun P (Conv.complexToComplex k a b kd) := by
    unfold convert
    rw[bW,lP hs,a7,bW,lP hd,a7]
  rw[e]
  unfold Conv.complexToComplex
  rw[bW]
  rcases Eu (P:=P) hr with h1|h1
  ·rw[h1,a7]
   simp only
   rw[bW]
   rcases Eu (P:=P) hi with h2|h2
   ·rw[h2];exact .inl rfl
   ·rw[h2];exact .inr rfl
  ·rw[h1];exact .inr rfl
def yP(op:BinOp)(k:IntKind)(a b:Int):Int:=
 let x:=BitVec.ofInt k.bits a
 let y:=BitVec.ofInt k.bits b
 match op with
 | .and=>k.wrap (x &&& y).toNat
 | .or=>k.wrap (x ||| y).toNat
 | .xor=>k.wrap (x ^^^ y).toNat
 | _=>k.wrap (x &&& ~~~y).toNat
def shI(op:BinOp)(k:IntKind)(a b:Int):Option Int:=
 if b<0 then none else match op with
 | .shl=>some (k.wrap (a*2^(min b.toNat k.bits)))
 | _=>some (a.fdiv (2^(min b.toNat k.bits)))
theorem aAN{b:BinOp}{v w r:Value}(h:tev tm x = .v v)(g:tev tm y = .v w)(hf:cT b v w=none)(hc:dX v=true)(hd:dX w=true)(he:prun P (eqGuard b t x y v w)=some ())(hw:prun P (binOp b t v w)=some r)(hi:qC 3 r=true)(hcr:bR r=true) :
 tpop P hp tm { dst:=dst,op:=.binOp b t x y u,type:=ty,pos:=pos,after:=aft,guard:=gd }=some (inj 3 r):=by
 have h1:tgen P tm { dst:=dst,op:=.binOp b t x y u,type:=ty,pos:=pos,after:=aft,guard:=gd }=some (inj 3 r):=by
  refine Pj ?_ (fun cs b e=>by cases e) (by simpa [Op.operands] using ⟨pJ h,pJ g⟩) (by simpa [Op.operands,cG h,cG g] using ⟨hc,hd⟩) ?_ hi hcr
  ·simp only[Rex.pop0,cG h,cG g,hf,qE]
  ·show prun P ((eqGuard b t x y (erased tm x) (erased tm y) >>= fun _=>binOp b t (erased tm x) (erased tm y)) >>= fun r=>(pure (Next.value r):Sem Next))=_
   rw[bW,cG h,cG g,bW,he,a7,hw]
   rfl
 simp only[tpop,h,g,tbin,hf,Option.map_none,orT]
 exact h1
theorem Tq{b:BinOp}{v w r:Value}(h:tev tm x = .v v)(g:tev tm y = .v w)(hf:cT b v w=none)(hn:Pd b v w=some r)(hw:prun P (eqGuard b t x y v w >>= fun _=>binOp b t v w)=some r∨prun P (eqGuard b t x y v w >>= fun _=>binOp b t v w)=none)(hi:qC 3 r=true) :
 tpop P hp tm { dst:=dst,op:=.binOp b t x y u,type:=ty,pos:=pos,after:=aft,guard:=gd }=some (inj 3 r):=by
 have h1:tgen P tm { dst:=dst,op:=.binOp b t x y u,type:=ty,pos:=pos,after:=aft,guard:=gd }=some (inj 3 r):=by
  refine qZ (by simpa [Op.operands] using ⟨pJ h,pJ g⟩) (xN ?_ ?_ ?_) hi
  ·simp only[Rex.pop0,cG h,cG g,hf,qE]
  ·show Pd b (erased tm x) (erased tm y)=some r
   rw[cG h,cG g];exact hn
  ·show prun P ((eqGuard b t x y (erased tm x) (erased tm y) >>= fun _=>binOp b t (erased tm x) (erased tm y)) >>= fun r=>(pure (Next.value r):Sem Next))=_∨prun P ((eqGuard b t x y (erased tm x) (erased tm y) >>= fun _=>binOp b t (erased tm x) (erased tm y)) >>= fun r=>(pure (Next.value r):Sem Next))=_
   rw[cG h,cG g,bW]
   rcases hw with hw|hw
   ·rw[hw];exact .inl rfl
   ·rw[hw];exact .inr rfl
 simp only[tpop,h,g,tbin,hf,Option.map_none,orT]
 exact h1
theorem Jh{b:BinOp}{v w:Value}(hb:b ≠ .eql∧b ≠ .neq):prun P (eqGuard b t x y v w)=some ():=by
 cases b<;>first|rfl|exact absurd rfl hb.1|exact absurd rfl hb.2
theorem vN{b:BinOp}{k:IntKind}{a d:Int}(h:tev tm x = .v (.int k a))(g:tev tm y = .v (.int k d))(hb:b = .and∨b = .or∨b = .xor∨b = .andNot):tpop P hp tm { dst:=dst,op:=.binOp b t x y u,type:=ty,pos:=pos,after:=aft,guard:=gd }=some (.v (.int k (yP b k a d))):=by
 refine aAN (r:=.int k (yP b k a d)) h g ?_ rfl rfl (Jh ?_) ?_ rfl rfl
 ·rcases hb with rfl|rfl|rfl|rfl<;>simp[cT]
 ·rcases hb with rfl|rfl|rfl|rfl<;>exact⟨by decide,by decide⟩
 ·rcases hb with rfl|rfl|rfl|rfl<;>simp[binOp,Op.intBits,yP]<;>rfl
theorem xB{b:BinOp}{k k':IntKind}{a d r:Int}(h:tev tm x = .v (.int k a))(g:tev tm y = .v (.int k' d))(hb:b = .shl∨b = .shr)(hr:shI b k a d=some r):tpop P hp tm { dst:=dst,op:=.binOp b t x y u,type:=ty,pos:=pos,after:=aft,guard:=gd }=some (.v (.int k r)):=by
 unfold shI at hr
 split at hr
 ·cases hr
 ·rename_i hd
  refine aAN (r:=.int k r) h g ?_ rfl rfl (Jh ?_) ?_ rfl rfl
  ·rcases hb with rfl|rfl<;>simp[cT]
  ·rcases hb with rfl|rfl<;>exact⟨by decide,by decide⟩
  ·rcases hb with rfl|rfl<;>(obtain rfl:=a6 hr;simp only[binOp,Op.shift,if_neg hd];rfl)
end
end Go.Rex
namespace Go.Rex
open Go.RowKit
section
variable {C:Ctx} {P:Program} {Fz:Nat→Prop} {h h0:List Blk} {L:Nat→LI} {s:TS} {tm:List Value}
variable {dst:Option Tmp} {ty:TypeId} {pos:String} {aft:Array Edge} {gd:Option (Nat×Bool)}
end
end Go.Rex
namespace Go.Rex
open Go.RowKit
section
variable {C:Ctx} {P:Program} {ops:Array Oper} {rest:List Oper} {tm tm2:List TV} {hp hp2:List TB} {Q:TS→Prop} {o:Oper}
variable {dst:Option Tmp} {ty:TypeId} {pos:String} {aft:Array Edge} {gd:Option (Nat×Bool)} {p q:TV} {ms:List Nat} {i:Nat} {np:List Nat} {c:Nat}
theorem stV{t:TypeId}{a x:Operand}{n ob:Nat}{row row2 l:List TV}(ha:tev tm a = .lptr n 0 ob)(hx:tev tm x=p)(hj:iY p=false)(hl:tcells p=l)(hb:hp[n]?=some (.var row))(ht:okT P t=true)(hlen:l.length=P.cellsOf t)(hone:l.all tone=true)(hfit:Nat.ble (ob+l.length) row.length=true)(hv:tsplice row ob l=row2) :
 OpW C P { dst:=none,op:=.store t a x,type:=ty,pos:=pos,after:=aft,guard:=gd } ⟨tm,hp⟩ ⟨tm,hp.set n (.var row2)⟩:=by
 subst hl hv
 refine OpW.store (s:=⟨tm,hp⟩) ?_
 rw[show tev (TS.mk tm hp).tm a=_ from ha,show tev (TS.mk tm hp).tm x=p from hx]
 simp only[tstore]
 rw[a9 ⟨hj,ht,hlen,hone⟩,hb]
 simp only
 rw[a9 ⟨trivial,Nat.le_of_ble_eq_true hfit⟩]
theorem stR{α:Type}{f:α→List TV}{xs:List α}{y:α}{u:α}{t:TypeId}{a x:Operand}{n r ob es:Nat}{l:List TV}(ha:tev tm a = .lptr n r ob)(hx:tev tm x=p)(hj:iY p=false)(hl:tcells p=l)(hb:hp[n]?=some (.rows es (xs.map f)))(hr:xs[r]?=some u)(ht:okT P t=true)(hlen:l.length=P.cellsOf t)(hone:l.all tone=true)
 (hlf:l.all (lf 4)=true) (hfit:Nat.ble (ob+l.length) (f u).length=true) (hv:tsplice (f u) ob l=f y) :
 OpW C P { dst:=none,op:=.store t a x,type:=ty,pos:=pos,after:=aft,guard:=gd } ⟨tm,hp⟩ ⟨tm,hp.set n (.rows es ((xs.set r y).map f))⟩:=by
 subst hl
 refine OpW.store (s:=⟨tm,hp⟩) ?_
 rw[show tev (TS.mk tm hp).tm a=_ from ha,show tev (TS.mk tm hp).tm x=p from hx]
 simp only[tstore]
 rw[a9 ⟨hj,ht,hlen,hone⟩,hb]
 simp only[List.getElem?_map,hr,Option.map_some]
 rw[a9 ⟨Nat.le_of_ble_eq_true hfit,hlf⟩,hv,List.map_set]
theorem TO.sv{t:TypeId}{a x:Operand}{n ob:Nat}{row row2 l:List TV}(hw:twant ops tm { dst:=none,op:=.store t a x,type:=ty,pos:=pos,after:=aft,guard:=gd }=some true)(ha:tev tm a = .lptr n 0 ob)(hx:tev tm x=p)(hj:iY p=false)(hl:tcells p=l)(hb:hp[n]?=some (.var row))(ht:okT P t=true)(hlen:l.length=P.cellsOf t)(hone:l.all tone=true)(hfit:Nat.ble (ob+l.length) row.length=true)(hv:tsplice row ob l=row2)
 (hh2:hp.set n (.var row2)=hp2) (hq:TO C P ops rest ⟨tm,hp2⟩ Q):TO C P ops ({ dst:=none,op:=.store t a x,type:=ty,pos:=pos,after:=aft,guard:=gd }::rest) ⟨tm,hp⟩ Q:=by
 subst hh2;exact TO.w hw (stV ha hx hj hl hb ht hlen hone hfit hv) hq
theorem TD.sv{t:TypeId}{a x:Operand}{n ob:Nat}{row row2 l:List TV}(hw:twant ops tm { dst:=none,op:=.store t a x,type:=ty,pos:=pos,after:=aft,guard:=gd }=some true)(ha:tev tm a = .lptr n 0 ob)(hx:tev tm x=p)(hj:iY p=false)(hl:tcells p=l)(hb:hp[n]?=some (.var row))(ht:okT P t=true)(hlen:l.length=P.cellsOf t)(hone:l.all tone=true)(hfit:Nat.ble (ob+l.length) row.length=true)(hv:tsplice row ob l=row2)
 (hnp:okW ops ms i ⟨tm,hp⟩ n np=true) (hh2:hp.set n (.var row2)=hp2) (hq:TD C P ops ms rest (i+1) (i::np) 1 ⟨tm,hp2⟩ Q):TD C P ops ms ({ dst:=none,op:=.store t a x,type:=ty,pos:=pos,after:=aft,guard:=gd }::rest) i np c ⟨tm,hp⟩ Q:=by
 subst hh2;exact TD.wF (s:=⟨tm,hp⟩) hw ha (stV ha hx hj hl hb ht hlen hone hfit hv) hnp hq
theorem TO.sr{α:Type}(f:α→List TV)(xs:List α)(u y:α){t:TypeId}{a x:Operand}{n r ob es:Nat}{l:List TV}(hr:xs[r]?=some u)(hw:twant ops tm { dst:=none,op:=.store t a x,type:=ty,pos:=pos,after:=aft,guard:=gd }=some true)(ha:tev tm a = .lptr n r ob)(hx:tev tm x=p)(hj:iY p=false)(hl:tcells p=l)(hb:hp[n]?=some (.rows es (xs.map f)))(ht:okT P t=true)(hlen:l.length=P.cellsOf t)(hone:l.all tone=true)
 (hlf:l.all (lf 4)=true) (hfit:Nat.ble (ob+l.length) (f u).length=true) (hv:tsplice (f u) ob l=f y) (hh2:hp.set n (.rows es ((xs.set r y).map f))=hp2) (hq:TO C P ops rest ⟨tm,hp2⟩ Q):TO C P ops ({ dst:=none,op:=.store t a x,type:=ty,pos:=pos,after:=aft,guard:=gd }::rest) ⟨tm,hp⟩ Q:=by
 subst hh2;exact TO.w hw (stR ha hx hj hl hb hr ht hlen hone hlf hfit hv) hq
theorem TD.sr{α:Type}(f:α→List TV)(xs:List α)(u y:α){t:TypeId}{a x:Operand}{n r ob es:Nat}{l:List TV}(hr:xs[r]?=some u)(hw:twant ops tm { dst:=none,op:=.store t a x,type:=ty,pos:=pos,after:=aft,guard:=gd }=some true)(ha:tev tm a = .lptr n r ob)(hx:tev tm x=p)(hj:iY p=false)(hl:tcells p=l)(hb:hp[n]?=some (.rows es (xs.map f)))(ht:okT P t=true)(hlen:l.length=P.cellsOf t)(hone:l.all tone=true)
 (hlf:l.all (lf 4)=true) (hfit:Nat.ble (ob+l.length) (f u).length=true) (hv:tsplice (f u) ob l=f y) (hnp:okW ops ms i ⟨tm,hp⟩ n np=true) (hh2:hp.set n (.rows es ((xs.set r y).map f))=hp2) (hq:TD C P ops ms rest (i+1) (i::np) 1 ⟨tm,hp2⟩ Q):TD C P ops ms ({ dst:=none,op:=.store t a x,type:=ty,pos:=pos,after:=aft,guard:=gd }::rest) i np c ⟨tm,hp⟩ Q:=by
 subst hh2;exact TD.wF (s:=⟨tm,hp⟩) hw ha (stR ha hx hj hl hb hr ht hlen hone hlf hfit hv) hnp hq
end
section
variable {C:Ctx} {P:Program} {ops:Array Oper} {rest:List Oper} {tm tm2:List TV} {hp hp2:List TB} {Q:TS→Prop} {o:Oper}
variable {dst:Option Tmp} {ty:TypeId} {pos:String} {aft:Array Edge} {gd:Option (Nat×Bool)} {p q:TV} {ms:List Nat} {i:Nat} {np:List Nat} {c:Nat}
end
theorem z1:(∀ tm t,tev tm (.tmp t)=tnth tm t)∧(∀ tm k n,tev tm (.const (.int k n)) = .v (.int k n))∧(∀ tm b,tev tm (.const (.bool b)) = .v (.bool b))∧(∀ tm s,tev tm (.const (.string s)) = .v (.string s))∧(∀ tm k b,tev tm (.const (.float k b)) = .v (.float k b)) ∧
 (∀ tm k a b,tev tm (.const (.complex k a b)) = .v (.complex k a b))∧(∀ tm,tev tm (.const (.slice none 0 0)) = .v (.slice none 0 0))∧(∀ tm,tev tm (.const .nilFunc) = .v .nilFunc)∧(∀ tm,tev tm (.const .nilIface) = .v .nilIface)∧(∀ tm,tev tm (.const (.pointer none)) = .v (.pointer none)) ∧
 (∀ tm f,tev tm (.func f) = .func f [] [])∧(∀ a l,tnth (a::l) 0=a)∧(∀ a l n,tnth (a::l) (n+1)=tnth l n)∧(∀ tm p,tput tm none p=tm)∧(∀ tm d p,tput tm (some d) p=tm.set d p):=
 ⟨fun _ _=>rfl,fun _ _ _=>rfl,fun _ _=>rfl,fun _ _=>rfl,fun _ _ _=>rfl,fun _ _ _ _=>rfl,fun _=>rfl,fun _=>rfl,fun _=>rfl,fun _=>rfl,fun _ _=>rfl,fun _ _=>rfl,fun _ _ _=>rfl,fun _ _=>rfl,fun _ _ _=>rfl⟩
theorem z2:(∀ k a b,cT .add (.int k a) (.int k b)=some (.int k (k.wrap (a+b))))∧(∀ k a b,cT .sub (.int k a) (.int k b)=some (.int k (k.wrap (a-b))))∧(∀ k a b,cT .mul (.int k a) (.int k b)=some (.int k (k.wrap (a*b)))) ∧
 (∀ k a b,cT .lss (.int k a) (.int k b)=some (.bool (decide (a<b))))∧(∀ k a b,cT .leq (.int k a) (.int k b)=some (.bool (decide (a≤b))))∧(∀ k a b,cT .gtr (.int k a) (.int k b)=some (.bool (decide (a>b))))∧(∀ k a b,cT .geq (.int k a) (.int k b)=some (.bool (decide (a≥b)))) ∧
 (∀ k a b,cT .eql (.int k a) (.int k b)=some (.bool (decide (a=b))))∧(∀ k a b,cT .neq (.int k a) (.int k b)=some (.bool (decide (a≠b))))∧(∀ k a b,cT .quo (.int k a) (.int k b)=if b=0 then none else some (.int k (k.wrap (a.tdiv b))))∧(∀ k a b,cT .rem (.int k a) (.int k b)=if b=0 then none else some (.int k (a.tmod b))):=by
 refine⟨?_,?_,?_,?_,?_,?_,?_,?_,?_,?_,?_⟩<;>(intro k a b;simp only[cT,if_true])
end Go.Rex
namespace Go.Rex
open Go.RowKit
section
variable {C:Ctx} {P:Program} {ops:Array Oper} {rest:List Oper} {tm tm2:List TV} {hp hp2:List TB} {Q:TS→Prop} {o:Oper}
variable {dst:Option Tmp} {ty:TypeId} {pos:String} {aft:Array Edge} {gd:Option (Nat×Bool)} {p q:TV} {ms:List Nat} {i:Nat} {np:List Nat} {c:Nat}
theorem TO.here{l:List Oper}{s:TS}(h:TO C P ops l s Q):TO C P ops l s Q:=h
theorem TD.here{l:List Oper}{s:TS}(h:TD C P ops ms l i np c s Q):TD C P ops ms l i np c s Q:=h
theorem mkG{α:Type}{f:α→List TV}{z0:α}{xs:List α}{t e:TypeId}{x y:Operand}{k k':IntKind}{n:Int}{z:List Value}{es by':Nat}(hm:mkI by' n z0=some xs)(hx:tev tm x = .v (.int k n))(hy:tev tm y = .v (.int k' n))(hs:dY P t=some e)(hz:jD P e=some z)(hb:mN P e=by')(hne:z.length=es)(he:Nat.ble 1 es=true)(hf:z.map .v=f z0) :
 OpG C P { dst:=dst,op:=.makeSlice t x y,type:=ty,pos:=pos,after:=aft,guard:=gd } ⟨tm,hp⟩ ⟨tput tm dst (.lsl hp.length 0 xs.length),hp++[.rows es (xs.map f)]⟩:=by
 unfold mkI at hm
 split at hm
 ·rename_i hc
  obtain rfl:=a6 hm
  have:=OpG.makeSlice (C:=C) (P:=P) (s:=⟨tm,hp⟩) (dst:=dst) (ty:=ty) (pos:=pos) (aft:=aft) (gd:=gd) (t:=t) (l:=x) (c:=y) (n:=n.toNat) (z:=z) (by
   rw[show tev (TS.mk tm hp).tm x=_ from hx,show tev (TS.mk tm hp).tm y=_ from hy]
   simp only[tmake,hs,hz,hb]
   rw[a9 ⟨trivial,hc.1,hc.2.1,hc.2.2,fun h=>by rw[h] at hne;simp at hne;subst hne;simp[Nat.ble] at he⟩])
  rw[hne,hf] at this
  simpa using this
 ·cases hm
theorem TO.mk{α:Type}(f:α→List TV){z0:α}{xs:List α}{t e:TypeId}{x y:Operand}{k k':IntKind}{n:Int}{z:List Value}{es by':Nat}(hm:mkI by' n z0=some xs)(hw:twant ops tm { dst:=dst,op:=.makeSlice t x y,type:=ty,pos:=pos,after:=aft,guard:=gd }=some true)(hx:tev tm x = .v (.int k n))(hy:tev tm y = .v (.int k' n))(hs:dY P t=some e)(hz:jD P e=some z)(hb:mN P e=by')(hne:z.length=es)(he:Nat.ble 1 es=true)(hf:z.map .v=f z0)
 (ht:tput tm dst (.lsl hp.length 0 xs.length)=tm2) (hh2:hp++[.rows es (xs.map f)]=hp2) (hq:TO C P ops rest ⟨tm2,hp2⟩ Q):TO C P ops ({ dst:=dst,op:=.makeSlice t x y,type:=ty,pos:=pos,after:=aft,guard:=gd }::rest) ⟨tm,hp⟩ Q:=by
 subst ht hh2;exact TO.g hw (mkG hm hx hy hs hz hb hne he hf) hq
theorem boG{α:Type}{f:α→List TV}{xs:List α}{t:TypeId}{n es:Nat}{ps:Array (Nat×Operand)}{l:List (Nat×TV)}{rows:List (List TV)}(hx:ps.toList.map (fun q=>(q.1,tev tm q.2))=l)(hv:tslice P t n l=some (es,rows))(hr:rows=xs.map f)(hn:n=xs.length) :
 OpG C P { dst:=dst,op:=.buildSlice t n ps,type:=ty,pos:=pos,after:=aft,guard:=gd } ⟨tm,hp⟩ ⟨tput tm dst (.lsl hp.length 0 xs.length),hp++[.rows es (xs.map f)]⟩:=by
 subst hr hn
 exact OpG.buildOwn (s:=⟨tm,hp⟩) (by simp only[hx];exact hv)
theorem TO.bl{α:Type}(f:α→List TV)(xs:List α){t:TypeId}{n es:Nat}{ps:Array (Nat×Operand)}{l:List (Nat×TV)}{rows:List (List TV)}(hw:twant ops tm { dst:=dst,op:=.buildSlice t n ps,type:=ty,pos:=pos,after:=aft,guard:=gd }=some true)(hx:ps.toList.map (fun q=>(q.1,tev tm q.2))=l)(hv:tslice P t n l=some (es,rows))(hr:rows=xs.map f)(hn:n=xs.length)
 (ht:tput tm dst (.lsl hp.length 0 xs.length)=tm2) (hh2:hp++[.rows es (xs.map f)]=hp2) (hq:TO C P ops rest ⟨tm2,hp2⟩ Q):TO C P ops ({ dst:=dst,op:=.buildSlice t n ps,type:=ty,pos:=pos,after:=aft,guard:=gd }::rest) ⟨tm,hp⟩ Q:=by
 subst ht hh2;exact TO.g hw (boG hx hv hr hn) hq
theorem TD.bl{α:Type}(f:α→List TV)(xs:List α){t:TypeId}{n es:Nat}{ps:Array (Nat×Operand)}{l:List (Nat×TV)}{rows:List (List TV)}(hw:twant ops tm { dst:=dst,op:=.buildSlice t n ps,type:=ty,pos:=pos,after:=aft,guard:=gd }=some true)(hx:ps.toList.map (fun q=>(q.1,tev tm q.2))=l)(hv:tslice P t n l=some (es,rows))(hr:rows=xs.map f)(hn:n=xs.length)
 (ht:tput tm dst (.lsl hp.length 0 xs.length)=tm2) (hh2:hp++[.rows es (xs.map f)]=hp2) (hq:TD C P ops ms rest (i+1) (i::np) 0 ⟨tm2,hp2⟩ Q):TD C P ops ms ({ dst:=dst,op:=.buildSlice t n ps,type:=ty,pos:=pos,after:=aft,guard:=gd }::rest) i np 0 ⟨tm,hp⟩ Q:=by
 subst ht hh2;exact TD.g hw (boG hx hv hr hn) hq
end
end Go.Rex
namespace Go.Rex
open Go.RowKit
theorem z3:(∀(α:Type) (a b:α) (l:List α),(a::l).set 0 b=b::l)∧(∀(α:Type) (a b:α) (l:List α) (n:Nat),(a::l).set (n+1) b=a::l.set n b)∧(∀(α:Type) (a:α) (l:List α),(a::l)[0]?=some a)∧(∀(α:Type) (a:α) (l:List α) (n:Nat),(a::l)[n+1]?=l[n]?) ∧
 (∀(α β:Type) (f:α→β) (a:α) (l:List α),(a::l).map f=f a::l.map f)∧(∀(α β:Type) (f:α→β),([]:List α).map f=[])∧(∀(α:Type) (a:α) (l m:List α),(a::l)++m=a::(l++m))∧(∀(α:Type) (l:List α),[]++l=l)∧(∀(α:Type) (a:α) (l:List α),(a::l).length=l.length+1)∧(∀(α:Type),([]:List α).length=0) ∧
 (∀(α:Type) (l:List α),l.drop 0=l)∧(∀(α:Type) (a:α) (l:List α) (n:Nat),(a::l).drop (n+1)=l.drop n)∧(∀(α:Type) (n:Nat),([]:List α).drop n=[])∧(∀(α:Type) (l:List α),l.take 0=[])∧(∀(α:Type) (a:α) (l:List α) (n:Nat),(a::l).take (n+1)=a::l.take n)∧(∀(α:Type) (n:Nat),([]:List α).take n=[]) ∧
 (∀(α β:Type) (f:α→β) (a:α),(some a).map f=some (f a))∧(∀(α β:Type) (f:α→β) (l:List α),(l.map f).length=l.length):=
 ⟨fun _ _ _ _=>rfl,fun _ _ _ _ _=>rfl,fun _ _ _=>rfl,fun _ _ _ _=>rfl,fun _ _ _ _ _=>rfl,fun _ _ _=>rfl,fun _ _ _ _=>rfl,fun _ _=>rfl,fun _ _ _=>rfl,fun _=>rfl,fun _ _=>rfl,fun _ _ _ _=>rfl,fun _ n=>by cases n<;>rfl,fun _ _=>rfl,fun _ _ _ _=>rfl,fun _ n=>by cases n<;>rfl,fun _ _ _ _=>rfl,fun _ _ _ _=>m5 _⟩
theorem z4:(∀ l,tcells (.agg l)=l)∧(∀ x,tcells (.v x)=[.v x])∧(∀ a b,tcells (.list a b)=[.list a b])∧(∀ a b c,tcells (.func a b c)=[.func a b c])∧(∀ v a b,tcells (.fptr v a b)=[.fptr v a b])∧(∀ a b c,tcells (.lptr a b c)=[.lptr a b c])∧(∀ a b c,tcells (.lsl a b c)=[.lsl a b c]) ∧
 (∀ l,iY (.agg l)=false)∧(∀ x,iY (.v x)=false)∧(∀ a b,iY (.list a b)=false)∧(∀ a b c,iY (.func a b c)=false)∧(∀ v a b,iY (.fptr v a b)=false)∧(∀ a b c,iY (.lptr a b c)=false)∧(∀ a b c,iY (.lsl a b c)=false) ∧
 (∀ a b,tpick (.v (.bool true)) a b=some a)∧(∀ a b,tpick (.v (.bool false)) a b=some b)∧(∀ ops tm dst op ty pos aft,twant ops tm { dst:=dst,op:=op,type:=ty,pos:=pos,after:=aft,guard:=none }=some true)∧(∀(c:List TV) o l,tsplice c o l=c.take o++l++c.drop (o+l.length)) ∧
 (∀ tm,tput tm none=fun _=>tm):=
 ⟨fun _=>rfl,fun _=>rfl,fun _ _=>rfl,fun _ _ _=>rfl,fun _ _ _=>rfl,fun _ _ _=>rfl,fun _ _ _=>rfl,fun _=>rfl,fun _=>rfl,fun _ _=>rfl,fun _ _ _=>rfl,fun _ _ _=>rfl,fun _ _ _=>rfl,fun _ _ _=>rfl,fun _ _=>rfl,fun _ _=>rfl,fun _ _ _ _ _ _ _=>rfl,fun _ _ _=>rfl,fun _=>rfl⟩
end Go.Rex
namespace Go.Rex
theorem z5:(∀ r,tidx r 0=r[0]?)∧(∀ r,tidx r 1=r[1]?)∧(∀ r,tidx r 2=r[2]?)∧(∀ r,tidx r 3=r[3]?)∧(∀ r,tidx r 4=r[4]?)∧(∀ r,tidx r 5=r[5]?)∧(∀ r,tidx r 6=r[6]?)∧(∀ r,tidx r 7=r[7]?)∧(∀ r,tidx r 8=r[8]?)∧(∀ r,tidx r 9=r[9]?):=by
 refine⟨?_,?_,?_,?_,?_,?_,?_,?_,?_,?_⟩<;>(intro r;rfl)
example:(0:Int)<((2:Nat):Int):=by simp only[Int.cast_ofNat_Int,Int.reduceLT]
theorem tml{α β:Type}{f:α→β}{xs:List α}:(xs.map f).take xs.length=xs.map f:=j4 (by simp)
end Go.Rex
namespace Go.Rex
open Go.RowKit
section
variable {C:Ctx} {P:Program} {ops:Array Oper} {rest:List Oper} {tm tm2:List TV} {hp hp2:List TB} {Q:TS→Prop} {o:Oper}
variable {dst:Option Tmp} {ty:TypeId} {pos:String} {aft:Array Edge} {gd:Option (Nat×Bool)} {p q:TV} {ms:List Nat} {i:Nat} {np:List Nat} {c:Nat}
theorem TX.unroll{b:Code}{s:TS}{Q:Exit→TS→Prop}(hx:TX C P b s (Em (fun s=>TX C P (.loop b) s Q) Q)):TX C P (.loop b) s Q:=by
 intro h0 Fz L tm h hs
 obtain⟨K,e,⟨tm',df'⟩,h',w1,h1,h2,hd,s',F',L',q,g,hs'⟩:=hx h0 Fz L tm h hs
 obtain rfl:df'=[]:=hd
 cases e with
 | normal =>
  obtain⟨K2,e2,a2,h2',w2,k1,k2,kd,s3,F3,L3,q3,g3,hs3⟩:=q h0 F' L' tm' h' hs'
  refine⟨max K K2+1,e2,a2,h2',wmin w1 w2,?_,iR h2 k2,kd,s3,F3,L3,q3,g.trans g3,hs3⟩
  simp only[exec]
  rw[kF (Nat.le_max_left K K2) h1]
  simp only
  rw[kF (Nat.le_max_right K K2) k1]
  rfl
 | _=>exact⟨K+1,_,_,h',w1,by simp only[exec,h1],h2,rfl,s',F',L',q,g,hs'⟩
theorem TX.vt{α:Type}(f:α→List TV)(t es:Nat){b:Code}{Q:Exit→TS→Prop}(ht:tnth tm t = .v (.slice none 0 0))(h1:tm.set t (.lsl hp.length 0 ([]:List α).length)=tm2)(h2:hp++[.rows es (([]:List α).map f)]=hp2)(hq:TX C P b ⟨tm2,hp2⟩ Q):TX C P b ⟨tm,hp⟩ Q:=by
 subst h1 h2
 exact TX.weak (Wk.nil t es ht) hq
theorem TX.here{b:Code}{s:TS}{Q:Exit→TS→Prop}(h:TX C P b s Q):TX C P b s Q:=h
theorem tmlc{α β:Type}{f:α→β}{xs:List α}{n:Nat}(h:xs.length=n):(xs.map f).take n=xs.map f:=by subst h;exact tml
def Kf(P:Program)(g:FuncId):Option (Array Value→Sem Value):=
 match P.funcs[g]? with
 | some fd => if fd.body.isNone = true ∧ (fd.name == "runtime.NumGoroutine") = false ∧ (Extern.findNext fd).isNone = true then Extern.find fd else none
 | none=>none
theorem aBq{g:FuncId}{F:Array Value→Sem Value}{vals:List Value}{v:Value}(hF:Kf P g=some F)(hc:vals.all dX=true)(hv:prun P (F ⟨vals⟩)=some v)(hcv:bR v=true)(h:List Blk):aN P g=false∧xslow P g vals h=some (v,h,none):=by
 unfold Kf at hF
 split at hF
 ·rename_i fd hfd
  split at hF
  ·rename_i hcond
   obtain⟨h1,h2,h3⟩:=hcond
   have hb:fd.body=none:=by simpa using h1
   refine⟨by simp[aN,hfd,hb],?_⟩
   have hcall:prun P (callFunc g ⟨vals⟩)=some (.value v):=by
    unfold callFunc
    rw[bW]
    show prun P (match P.funcs[g]? with|none=>_|some fn=>_)=_
    rw[hfd]
    simp only[h2,Bool.false_eq_true,if_false,h1,if_true]
    have hn:Extern.findNext fd=none:=by simpa using h3
    rw[hn]
    rw[bW]
    show prun P _=_
    simp only[hF]
    show prun P (F ⟨vals⟩ >>= fun r=>(pure (Next.value r):Sem Next))=_
    rw[bW,hv]
    rfl
   simp only[xslow,hfd,hb,Sm,Ye,hc,if_true,hcall,hcv,Option.map_some]
  ·cases hF
 ·cases hF
theorem aDo{fo:Operand}{g:FuncId}{args:Array Operand}{tys:Array TypeId}{l:List TV}{vals:List Value}{v:Value}(hf:tev tm fo = .func g [] [])(hl:args.toList.map (tev tm)=l)(he:l.mapM (er 3)=some vals)(hs0:∀ h,aN P g=false∧xslow P g vals h=some (v,h,none))(hi:qC 3 v=true)(hp1:inj 3 v=p) :
 OpG C P { dst:=dst,op:=.call { callee:=.value fo,args:=args,argTypes:=tys },type:=ty,pos:=pos,after:=aft,guard:=gd } ⟨tm,hp⟩ ⟨tput tm dst p,hp⟩:=by
 subst hp1
 intro h0 Fz L vm h hs
 have hfv:=dJ hs.fz hs.tmr fo
 rw[show tev (TS.mk tm hp).tm fo=_ from hf] at hfv
 obtain⟨f',c',hfe,vf,vc⟩:∃ f' c',ev vm fo = .func (.func g) ⟨f'⟩ ⟨c'⟩∧VLs Fz h noL [] f'∧VLs Fz h noL [] c':=by
  generalize ev vm fo=y at *
  cases hfv with
  | func _ _ _ _ a' b' la ha lb hb=>exact⟨a',b',rfl,⟨la,ha⟩,⟨lb,hb⟩⟩
 have hf0:f'=[]:=by have:=vf.len;simpa using this
 have hc0:c'=[]:=by have:=vc.len;simpa using this
 subst hf0 hc0
 have hargs:=zH hs.fz hs.tmr args.toList
 rw[show args.toList.map (tev (TS.mk tm hp).tm)=l from hl] at hargs
 obtain⟨q1,q2⟩:=Bl he
 have hve:args.toList.map (ev vm)=vals:=by
  apply j8
  intro j
  cases hx:(args.toList.map (ev vm))[j]? with
  | none =>
   rw[i6] at hx
   rw[eq_comm,i6]
   have:=hargs.len
   omega
  | some x =>
   have hj:=(a8.1 hx).1
   have hll:=hargs.len
   have hp':l[j]?=some l[j]:=b8 (by omega)
   have hy:vals[j]?=some vals[j]:=b8 (by omega)
   rw[hy,VL.er 3 (q2 j _ _ hp' hy) (hargs.at' j _ _ hp' hx)]
 obtain⟨hg,hx⟩:=hs0 h
 refine⟨rfl,v,h,?_,Ext.refl h,Fz,L,Grow.refl _ _,hs.put dst (VL.inj 3 hi)⟩
 simp only[xop,hop,bhop]
 rw[Pl]
 simp only[hfe]
 rw[b6 (by rw[hg];exact Bool.false_ne_true)]
 simp only[List.nil_append,List.append_nil,hve]
 exact hx
theorem aDf{fo:Operand}{g:FuncId}{args:Array Operand}{tys:Array TypeId}{F:Array Value→Sem Value}{l:List TV}{vals:List Value}{v:Value}(hf:tev tm fo = .func g [] [])(hF:Kf P g=some F)(hl:args.toList.map (tev tm)=l)(he:l.mapM (er 3)=some vals)(hc:vals.all dX=true)(hv:prun P (F ⟨vals⟩)=some v)(hcv:bR v=true)(hi:qC 3 v=true)(hp1:inj 3 v=p) :
 OpG C P { dst:=dst,op:=.call { callee:=.value fo,args:=args,argTypes:=tys },type:=ty,pos:=pos,after:=aft,guard:=gd } ⟨tm,hp⟩ ⟨tput tm dst p,hp⟩:=aDo hf hl he (fun h=>aBq hF hc hv hcv h) hi hp1
theorem TO.ex{fo:Operand}{g:FuncId}{args:Array Operand}{tys:Array TypeId}{F:Array Value→Sem Value}{l:List TV}{vals:List Value}{v:Value}(hw:twant ops tm { dst:=dst,op:=.call { callee:=.value fo,args:=args,argTypes:=tys },type:=ty,pos:=pos,after:=aft,guard:=gd }=some true)(hf:tev tm fo = .func g [] [])(hF:Kf P g=some F)(hl:args.toList.map (tev tm)=l)(he:l.mapM (er 3)=some vals)(hc:vals.all dX=true)(hv:prun P (F ⟨vals⟩)=some v)(hcv:bR v=true)(hi:qC 3 v=true)(hp1:inj 3 v=p)
 (ht:tput tm dst p=tm2) (hq:TO C P ops rest ⟨tm2,hp⟩ Q):TO C P ops ({ dst:=dst,op:=.call { callee:=.value fo,args:=args,argTypes:=tys },type:=ty,pos:=pos,after:=aft,guard:=gd }::rest) ⟨tm,hp⟩ Q:=by
 subst ht;exact TO.g hw (aDf hf hF hl he hc hv hcv hi hp1) hq
variable {x y:Operand} {t u:TypeId}
theorem Et{b:BinOp}{v w:Value}{r:Option Value}(he:prun P (eqGuard b t x y v w)=some ())(hw:prun P (binOp b t v w)=r):prun P (eqGuard b t x y v w >>= fun _=>binOp b t v w)=r:=by
 rw[bW,he,a7,hw]
theorem Bj{b:BinOp}{k k':FloatKind}{a d:Nat}:prun P (eqGuard b t x y (.float k a) (.float k' d))=some ():=by
 cases b<;>rfl
theorem eS{b:BinOp}{k:FloatKind}{a d:Nat}(h:tev tm x = .v (.float k a))(g:tev tm y = .v (.float k d))(hb:b = .eql∨b = .neq∨b = .lss∨b = .leq∨b = .gtr∨b = .geq):tpop P hp tm { dst:=dst,op:=.binOp b t x y u,type:=ty,pos:=pos,after:=aft,guard:=gd }=some (.v (.bool (fcmp b k a d))):=by
 refine Tq (r:=.bool (fcmp b k a d)) h g ?_ ?_ (.inl (Et Bj ?_)) rfl
 ·simp[cT]
 ·rcases hb with rfl|rfl|rfl|rfl|rfl|rfl<;>simp[Pd]
 ·rcases hb with rfl|rfl|rfl|rfl|rfl|rfl<;>(simp[binOp,Op.floatCmp,fcmp];rfl)
def farith(op:BinOp)(k:FloatKind)(a b:Nat):Option Nat:=some (arN op k a b)
theorem aAz{b:BinOp}{k:FloatKind}{a d:Nat}(hb:b = .add∨b = .sub∨b = .mul∨b = .quo):prun P (Op.floatArith b k a d)=some (.float k (arN b k a d))∨prun P (Op.floatArith b k a d)=none:=by
 have e:prun P (Op.floatArith b k a d)=prun P (match farith0 b k a d with|some r=>pure (.float k r)|none=>do pure (.float k (← choose (.nanBits k a d))):Sem Value):=by
  rcases hb with rfl|rfl|rfl|rfl<;>rfl
 rw[e]
 unfold arN
 cases farith0 b k a d with
 | some r=>exact .inl rfl
 | none=>exact .inr rfl
theorem Rf{b:BinOp}{k:FloatKind}{a d r:Nat}(h:tev tm x = .v (.float k a))(g:tev tm y = .v (.float k d))(hb:b = .add∨b = .sub∨b = .mul∨b = .quo)(hr:farith b k a d=some r):tpop P hp tm { dst:=dst,op:=.binOp b t x y u,type:=ty,pos:=pos,after:=aft,guard:=gd }=some (.v (.float k r)):=by
 obtain rfl:=a6 hr
 refine Tq (r:=.float k (arN b k a d)) h g ?_ ?_ ?_ rfl
 ·simp[cT]
 ·rcases hb with rfl|rfl|rfl|rfl<;>simp[Pd]
 ·have e : binOp b t (.float k a) (.float k d) = Op.floatArith b k a d := by
    rcases hb with rfl|rfl|rfl|rfl<;>simp[binOp]
  rcases aAz (P:=P) (k:=k) (a:=a) (d:=d) hb with h1|h1
  ·exact .inl (Et Bj (by rw[e];exact h1))
  ·exact .inr (Et Bj (by rw[e];exact h1))
theorem Ql{k:FloatKind}{a:Nat}(h:tev tm x = .v (.float k a)):tpop P hp tm { dst:=dst,op:=.unOp .neg t x,type:=ty,pos:=pos,after:=aft,guard:=gd }=some (.v (.float k (Op.negFloat k a))):=by
 have h1:tgen P tm { dst:=dst,op:=.unOp .neg t x,type:=ty,pos:=pos,after:=aft,guard:=gd }=some (inj 3 (.float k (Op.negFloat k a))):=by
  refine qZ (by simpa [Op.operands] using pJ h) (xN rfl ?_ (.inl ?_)) rfl
  ·show aC4 .neg (erased tm x)=_
   rw[cG h]
   rfl
  ·show prun P (Op.unary .neg (erased tm x) >>= fun r=>(pure (Next.value r):Sem Next))=_
   rw[bW,cG h]
   rfl
 exact h1
def trI(way:Ieee.Toward)(b:Nat):Option Nat:=
 if iX .f64 b=true then some b else some (FloatKind.f64.encode ((FloatKind.f64.decode b).integral way))
theorem aC2{n:String}{way:Ieee.Toward}{b r:Nat}(hn:iX .f64 b=false)(h:trI way b=some r):prun P (Extern.MathFloor.toIntegral n way #[.float .f64 b])=some (.float .f64 r):=by
 unfold trI at h
 rw[hn] at h
 obtain rfl:=a6 h
 show prun P (match FloatKind.f64.decode b with
  | .nan s t=>if FloatKind.f64.format.quiet t=t then (pure (Value.float .f64 b):Sem Value) else do
   let kept ← choose (.extern "math.Floor,Ceil,Trunc,RoundToEven.signallingNaN kept" 2)
   pure (Value.float .f64 (if kept==1 then b else FloatKind.f64.encode (.nan s (FloatKind.f64.format.quiet t))))
  | d=>pure (Value.float .f64 (FloatKind.f64.encode (d.integral way))))=_
 have hr:=aAH hn
 split
 ·rename_i s t e;exact absurd e (hr s t)
 ·rfl
variable {fo:Operand} {g:FuncId} {args:Array Operand} {tyA:Array TypeId} {F:Array Value→Sem Value}
theorem Cn{k:FloatKind}{b:Nat}(h:iX k b=false):[Value.float k b].all dX=true:=by
 have e:dX (.float k b)=(true&&!iX k b):=rfl
 rw[List.all_cons,List.all_nil,e,h]
 rfl
def fbits(k:FloatKind)(b:Nat):Option Int:=if iX k b=true then none else some ((b:Nat):Int)
theorem TO.fb{k:FloatKind}{ik:IntKind}{b:Nat}{n:Int}(hw:twant ops tm { dst:=dst,op:=.call { callee:=.value fo,args:=args,argTypes:=tyA },type:=ty,pos:=pos,after:=aft,guard:=gd }=some true)(hf:tev tm fo = .func g [] [])(hF:Kf P g=some F)(hl:args.toList.map (tev tm)=[.v (.float k b)])(hb:fbits k b=some n)(hv:prun P (F ⟨[.float k b]⟩)=some (.int ik ((b:Nat):Int)))
 (ht:tput tm dst (.v (.int ik n))=tm2) (hq:TO C P ops rest ⟨tm2,hp⟩ Q):TO C P ops ({ dst:=dst,op:=.call { callee:=.value fo,args:=args,argTypes:=tyA },type:=ty,pos:=pos,after:=aft,guard:=gd }::rest) ⟨tm,hp⟩ Q:=by
 unfold fbits at hb
 split at hb
 ·cases hb
 ·rename_i hn
  obtain rfl:=a6 hb
  exact TO.ex hw hf hF hl rfl (Cn (Bool.eq_false_iff.2 hn)) hv rfl rfl rfl ht hq
def Uo(P:Program)(g:FuncId):Bool:=match P.funcs[g]? with
 | some fd=>Uv fd&&fd.body.isNone
 | none=>false
theorem Wz{b:Nat}(hA:Uo P g=true)(hn:iX .f64 b=true)(h:List Blk):aN P g=false∧xslow P g [.float .f64 b] h=some (.float .f64 b,h,none):=by
 unfold Uo at hA
 split at hA
 ·rename_i fd hfd
  simp only[Bool.and_eq_true] at hA
  obtain⟨h1,h2⟩:=hA
  have hb:fd.body=none:=by simpa using h2
  refine⟨by simp[aN,hfd,hb],?_⟩
  have hv:Ye P g [.float .f64 b]=none:=by
   unfold Ye
   rw[b6]
   simp only[List.all_cons,List.all_nil,dX,depth,clean,qP,hn]
   decide
  have hz:Mp fd=false:=by
   unfold Uv at h1
   simp only[Bool.and_eq_true,Bool.or_eq_true,beq_iff_eq] at h1
   unfold Mp
   rcases h1.1 with e|e|e<;>rw[e]<;>rfl
  simp only[xslow,hfd,hb,Sm,hv,aAi,hz,h1,hn,Bool.false_eq_true,if_false,if_true,ite_self]
 ·cases hA
theorem TO.tr{n:String}{way:Ieee.Toward}{b r:Nat}(hw:twant ops tm { dst:=dst,op:=.call { callee:=.value fo,args:=args,argTypes:=tyA },type:=ty,pos:=pos,after:=aft,guard:=gd }=some true)(hf:tev tm fo = .func g [] [])(hF:Kf P g=some (Extern.MathFloor.toIntegral n way))(hA:Uo P g=true)(hl:args.toList.map (tev tm)=[.v (.float .f64 b)])(hr:trI way b=some r)
 (ht:tput tm dst (.v (.float .f64 r))=tm2) (hq:TO C P ops rest ⟨tm2,hp⟩ Q):TO C P ops ({ dst:=dst,op:=.call { callee:=.value fo,args:=args,argTypes:=tyA },type:=ty,pos:=pos,after:=aft,guard:=gd }::rest) ⟨tm,hp⟩ Q:=by
 subst ht
 refine TO.g hw ?_ hq
 cases hn:iX .f64 b with
 | true =>
  have e:r=b:=by unfold trI at hr;rw[hn] at hr;exact (a6 hr).symm
  subst e
  exact aDo hf hl rfl (Wz hA hn) rfl rfl
 | false=>exact aDf hf hF hl rfl (Cn hn) (aC2 hn hr) rfl rfl rfl
end
end Go.Rex
namespace Go.Rex
open Go.RowKit
section
variable {P:Program} {tm:List TV} {hp:List TB}
variable {dst:Option Tmp} {ty:TypeId} {pos:String} {aft:Array Edge} {gd:Option (Nat×Bool)} {x y:Operand} {t u:TypeId}
inductive EqF (P:Program) (d:Nat) (X Y:Array Value):List Field→List Bool→Prop
 | nil:EqF P d X Y [] []
 | cons {f : Field} {fs : List Field} {b : Bool} {bs : List Bool} {u v : Value} (hn : f.name ≠ "_") (hu : prun P (part f.type X f.offset) = some u) (hv : prun P (part f.type Y f.offset) = some v) (he : prun P (Op.equalIn d f.type u v) = some b) (hr : EqF P d X Y fs bs) : EqF P d X Y (f :: fs) (b :: bs)
end
end Go.Rex
namespace Go.Rex
open Go.RowKit
class Mv (p:Prop) (q:outParam Prop):Prop where
 mv:q→p
theorem mv{p q:Prop}[i:Mv p q](h:q):p:=i.mv h
section
variable {C:Ctx} {P:Program} {s:TS} {Q:Exit→TS→Prop} {next:TS→Prop}
instance {x y:Code}:Mv (TX C P (.seq x y) s Q) (TX C P x s (Em (fun s=>TX C P y s Q) Q)):=⟨TX.seq⟩
instance {id:Nat} {b:Code}:Mv (TX C P (.block id b) s Q) (TX C P b s (nF id Q)):=⟨TX.block⟩
instance:Mv (TX C P .skip s Q) (Q .normal s):=⟨TX.skip⟩
instance {id:Nat}:Mv (TX C P (.exit id) s Q) (Q (.exit id) s):=⟨TX.exit⟩
instance:Mv (TX C P .ret s Q) (Q .ret s):=⟨TX.ret⟩
instance:Mv (Em next Q .normal s) (next s):=⟨aCY⟩
instance {id:Nat}:Mv (Em next Q (.exit id) s) (Q (.exit id) s):=⟨aB5⟩
instance:Mv (Em next Q .ret s) (Q .ret s):=⟨aC7⟩
instance {id:Nat}:Mv (nF id Q .normal s) (Q .normal s):=⟨Zw⟩
instance {id:Nat}:Mv (nF id Q .ret s) (Q .ret s):=⟨Yk⟩
instance {id:Nat}:Mv (nF id Q (.exit id) s) (Q .normal s):=⟨aAh⟩
end
def m12:=@Xg
theorem k1{a:Bool}(h:a=true):a=true:=h
theorem k2{a:Option Bool}(h:a=some true):a=some true:=h
def an{p q:Prop}:=@And.intro p q
def z6:=And.intro @List.toList_toArray.{0} <| And.intro @ite_true.{1} <| And.intro @ite_false.{1} <| And.intro @true_and <| And.intro @and_true <| And.intro @and_self <| And.intro @Bool.false_eq_true <| And.intro @decide_true @decide_false
def z7:=And.intro @List.getElem?_toArray.{0} <| And.intro @List.getElem?_cons_succ.{0} <| And.intro @List.getElem?_cons_zero.{0} @Option.bind_some.{0,0}
def zy:=And.intro z1 <| And.intro z2 z3
def zz:=And.intro z1 <| And.intro z2 <| And.intro z3 <| And.intro z4 z6
theorem wr{tm tm':List TV}{hp hp':List TB}(fl:List (Option Nat))(hok:Cg fl=true)(hB:RB fl hp hp' fl)(hT:RNs fl tm tm':=by (repeat (first|exact RNs.nil|refine RNs.cons .U ?_|refine RNs.cons (.keep rfl rfl) ?_|refine RNs.cons (.lsl rfl rfl) ?_|refine RNs.cons (.lsl rfl (by simp only[List.length_set])) ?_|refine RNs.cons (.lptr rfl) ?_|refine RNs.cons (.nil rfl) ?_|refine RNs.cons .nl ?_|refine RNs.cons (.tuple' ?_) ?_|refine RNs.cons (.agg' ?_) ?_))):Wk ⟨tm,hp⟩ ⟨tm',hp'⟩:=Wk.ren fl hok hB hT
theorem rv{fl:List (Option Nat)}{hp:List TB}{n:Nat}{row row':List TV}{hp':List TB}{l:List (Option Nat)}(h:RB fl hp hp' l)(hb:hp[n]?=some (.var row))(hr:RNs fl row row':=by (repeat (first|exact RNs.nil|refine RNs.cons .U ?_|refine RNs.cons (.keep rfl rfl) ?_|refine RNs.cons (.lsl rfl rfl) ?_|refine RNs.cons (.lsl rfl (by simp only[List.length_set])) ?_|refine RNs.cons (.lptr rfl) ?_|refine RNs.cons (.nil rfl) ?_|refine RNs.cons .nl ?_|refine RNs.cons (.tuple' ?_) ?_|refine RNs.cons (.agg' ?_) ?_))):RB fl hp (.var row'::hp') (some n::l):=.var h hb hr
section
variable {C:Ctx} {P:Program} {ops:Array Oper} {rest:List Oper} {tm tm2:List TV} {hp:List TB} {Q:TS→Prop}
variable {dst:Option Tmp} {ty:TypeId} {pos:String} {aft:Array Edge} {gd:Option (Nat×Bool)} {ms:List Nat} {i:Nat} {np:List Nat} {c:Nat}
theorem bmG{α:Type}{f:α→List TV}{xs:List α}{t:TypeId}{n es:Nat}{ps:Array (Nat×Operand)}{l:List (Nat×TV)}{rows:List (List TV)}(hx:ps.toList.map (fun q=>(q.1,tev tm q.2))=l)(hv:tslice P t n l=some (es,rows))(hr:rows=xs.map f) :
 OpG C P { dst:=dst,op:=.buildSlice t n ps,type:=ty,pos:=pos,after:=aft,guard:=gd } ⟨tm,hp⟩ ⟨tput tm dst (.list es (xs.map f)),hp⟩:=by
 subst hr
 exact OpG.buildSlice (s:=⟨tm,hp⟩) (by simp only[hx];exact hv)
theorem TO.bm{α:Type}(f:α→List TV)(xs:List α){t:TypeId}{n es:Nat}{ps:Array (Nat×Operand)}{l:List (Nat×TV)}{rows:List (List TV)}(hw:twant ops tm { dst:=dst,op:=.buildSlice t n ps,type:=ty,pos:=pos,after:=aft,guard:=gd }=some true)(hx:ps.toList.map (fun q=>(q.1,tev tm q.2))=l)(hv:tslice P t n l=some (es,rows))(hr:rows=xs.map f)
 (ht:tput tm dst (.list es (xs.map f))=tm2) (hq:TO C P ops rest ⟨tm2,hp⟩ Q):TO C P ops ({ dst:=dst,op:=.buildSlice t n ps,type:=ty,pos:=pos,after:=aft,guard:=gd }::rest) ⟨tm,hp⟩ Q:=by
 subst ht;exact TO.g hw (bmG hx hv hr) hq
theorem TD.bm{α:Type}(f:α→List TV)(xs:List α){t:TypeId}{n es:Nat}{ps:Array (Nat×Operand)}{l:List (Nat×TV)}{rows:List (List TV)}(hw:twant ops tm { dst:=dst,op:=.buildSlice t n ps,type:=ty,pos:=pos,after:=aft,guard:=gd }=some true)(hx:ps.toList.map (fun q=>(q.1,tev tm q.2))=l)(hv:tslice P t n l=some (es,rows))(hr:rows=xs.map f)
 (ht:tput tm dst (.list es (xs.map f))=tm2) (hq:TD C P ops ms rest (i+1) (i::np) 0 ⟨tm2,hp⟩ Q):TD C P ops ms ({ dst:=dst,op:=.buildSlice t n ps,type:=ty,pos:=pos,after:=aft,guard:=gd }::rest) i np 0 ⟨tm,hp⟩ Q:=by
 subst ht;exact TD.g hw (bmG hx hv hr) hq
end
end Go.Rex
namespace Go.Rex
open Go.RowKit
section
variable {C:Ctx} {P:Program} {ops:Array Oper} {rest:List Oper} {tm tm2:List TV} {hp hp2:List TB} {Q:TS→Prop} {o:Oper}
variable {dst:Option Tmp} {ty:TypeId} {pos:String} {aft:Array Edge} {gd:Option (Nat×Bool)} {p q:TV} {ms:List Nat} {i:Nat} {np:List Nat} {c:Nat}
end
inductive EqI (P:Program) (d:Nat) (X Y:Array Value) (e n:Nat):Nat→List Bool→Prop
 | nil (i:Nat):EqI P d X Y e n i []
 | cons {i:Nat} {b:Bool} {bs:List Bool} {u v:Value} (hu:prun P (part e X (i*n))=some u) (hv:prun P (part e Y (i*n))=some v) (he:prun P (Op.equalIn d e u v)=some b) (hr:EqI P d X Y e n (i+1) bs):EqI P d X Y e n i (b::bs)
section
variable {P:Program} {tm:List TV} {hp:List TB} {dst:Option Tmp} {ty:TypeId} {pos:String} {aft:Array Edge} {gd:Option (Nat×Bool)}
end
end Go.Rex
namespace Go.Rex
open Go.RowKit
def eQ:Code→Bool
 | .seq x y=>eQ x&&eQ y
 | .cond _ x y=>eQ x&&eQ y
 | .block _ b=>eQ b
 | .loop b=>eQ b
 | .rangeFunc ..=>false
 | _=>true
theorem gE{C:Ctx}{P:Program}{ro:Option Nat}:∀(k:Nat) (c:Code) (tm:List Value) (df:List Nat) (h:List Blk),eQ c=true →
 exec C P ro k c ⟨tm,df⟩ h=(exec C P none k c ⟨tm,[]⟩ h).map fun r=>(r.1,(⟨r.2.1.tm,df⟩:AS),r.2.2.1,r.2.2.2)
 | 0,_,_,_,_,_=>rfl
 | k+1,c,tm,df,h,hn=>by
  cases c with
  | seq x y =>
   simp only[eQ,Bool.and_eq_true] at hn
   simp only[exec]
   rw[gE k x tm df h hn.1]
   rcases hx:exec C P none k x ⟨tm,[]⟩ h with _|⟨e,⟨tm1,df1⟩,h1,w1⟩
   ·rfl
   ·have hd : df1 = [] := by
      have:=gE (C:=C) (P:=P) (ro:=none) k x tm [] h hn.1
      rw[hx] at this
      simpa using this
    subst hd
    cases e with
    | normal =>
     simp only[Option.map_some]
     rw[gE k y tm1 df h1 hn.2]
     cases exec C P none k y ⟨tm1,[]⟩ h1<;>rfl
    | _=>rfl
  | cond g x y =>
   simp only[eQ,Bool.and_eq_true] at hn
   simp only[exec]
   split
   ·cases hv:ev tm g with
    | bool t =>
     cases t with
     | true=>exact gE k x tm df h hn.1
     | false=>exact gE k y tm df h hn.2
    | _=>rfl
   ·rfl
  | block id b =>
   simp only[eQ] at hn
   simp only[exec]
   rw[gE k b tm df h hn]
   rcases hx:exec C P none k b ⟨tm,[]⟩ h with _|⟨e,⟨tm1,df1⟩,h1,w1⟩
   ·rfl
   ·cases e with
    | exit id' =>
     simp only[Option.map_some]
     split<;>rfl
    | _=>rfl
  | loop b =>
   have hn':eQ b=true:=by simpa only[eQ] using hn
   simp only[exec]
   rw[gE k b tm df h hn']
   rcases hx:exec C P none k b ⟨tm,[]⟩ h with _|⟨e,⟨tm1,df1⟩,h1,w1⟩
   ·rfl
   ·have hd : df1 = [] := by
      have:=gE (C:=C) (P:=P) (ro:=none) k b tm [] h hn'
      rw[hx] at this
      simpa using this
    subst hd
    cases e with
    | normal =>
     simp only[Option.map_some]
     rw[gE k (.loop b) tm1 df h1 hn]
     cases exec C P none k (.loop b) ⟨tm1,[]⟩ h1<;>rfl
    | _=>rfl
  | region id ops d =>
   simp only[exec,vZ]
   split
   ·cases iW C P ops tm h<;>rfl
   ·split
    ·cases cR C P ops ops.toList tm h<;>rfl
    ·rfl
  | rangeFunc g ps a b=>simp[eQ] at hn
  | _=>rfl
def Keeps(h h':List Blk):Prop:=h.length≤h'.length∧∀ m:Nat,h[m]?=some Blk.dfr→h'[m]?=some Blk.dfr
theorem Keeps.refl(h:List Blk):Keeps h h:=⟨b7 _,fun _ h=>h⟩
theorem Keeps.trans{a b c:List Blk}(x:Keeps a b)(y:Keeps b c):Keeps a c:=⟨e7 x.1 y.1,fun m h=>y.2 m (x.2 m h)⟩
theorem Keeps.app(h t:List Blk):Keeps h (h++t):=⟨by simp,fun m hm=>by rw[d4 (a8.1 hm).1];exact hm⟩
theorem Keeps.set{h:List Blk}{n:Nat}{b:Blk}(hn:h[n]?≠some Blk.dfr):Keeps h (h.set n b):=
 ⟨by simp,fun m hm=>by rw[d8];exact hm;rintro rfl;exact hn hm⟩
theorem sB{h h':List Blk}{n o:Nat}{vs:List Value}(hw:dL h n o vs=some h'):Keeps h h':=by
 unfold dL at hw
 split at hw
 ·rename_i es c hn
  split at hw
  ·obtain rfl:=a6 hw
   exact Keeps.set (by rw[hn];simp)
  ·cases hw
 ·rename_i t es c hn
  split at hw
  ·obtain rfl:=a6 hw
   exact Keeps.set (by rw[hn];simp)
  ·cases hw
 ·cases hw
section
variable {P:Program} {C:Ctx}
theorem Mi{t:TypeId}{h h':List Blk}{n o:Nat}{v:Value}(hw:lZ P t h n o v=some h'):Keeps h h':=by
 unfold lZ at hw
 split at hw
 ·split at hw
  ·exact sB hw
  ·cases hw
 ·cases hw
theorem Hh{i:TypeInfo}{t1:Option TypeId}{s x v:Value}{h h':List Blk}{w:Option Nat}(hw:sK P i t1 s x h=some (v,h',w)):Keeps h h':=by
 unfold sK at hw
 repeat' split at hw
 all_goals first
  | cases hw;done
  | (simp only[Option.some.injEq,Prod.mk.injEq] at hw;obtain⟨-,rfl,-⟩:=hw;exact Keeps.app _ _)
theorem Hi{tys:Array TypeId}{s x v:Value}{h h':List Blk}{w:Option Nat}(hw:kH P tys s x h=some (v,h',w)):Keeps h h':=by
 unfold kH at hw
 repeat' split at hw
 all_goals first
  | cases hw;done
  | exact Hh hw
  | (simp only[Option.some.injEq,Prod.mk.injEq] at hw;obtain⟨-,rfl,-⟩:=hw;first|exact Keeps.refl _|exact Keeps.app _ _|skip)
  | (rw[d9] at hw;obtain⟨a,ha,e⟩:=hw;simp only[Prod.mk.injEq] at e;obtain⟨-,rfl,-⟩:=e;exact sB ha)
 all_goals (rename_i hn _;exact (Keeps.set (by rw[hn];simp)).trans (Keeps.app _ _))
theorem Qa{tys:Array TypeId}{s x v:Value}{h h':List Blk}{w:Option Nat}(hw:Pp P tys s x h=some (v,h',w)):Keeps h h':=by
 unfold Pp at hw
 repeat' split at hw
 all_goals first
  | cases hw;done
  | (simp only[Option.some.injEq,Prod.mk.injEq] at hw;obtain⟨-,rfl,-⟩:=hw;exact Keeps.refl _)
  | (rw[d9] at hw;obtain⟨a,ha,e⟩:=hw;simp only[Prod.mk.injEq] at e;obtain⟨-,rfl,-⟩:=e;first|exact sB ha|exact Keeps.refl _)
theorem yD{r:Option (Value×List Blk)}{v:Value}{h h':List Blk}{w:Option Nat}(hr:∀ v h',r=some (v,h')→Keeps h h')(hw:zF r=some (v,h',w)):Keeps h h':=by
 unfold zF at hw
 rw[d9] at hw
 obtain⟨⟨v1,h1⟩,ha,e⟩:=hw
 simp only[Prod.mk.injEq] at e
 obtain⟨-,rfl,-⟩:=e
 exact hr _ _ ha
theorem zR{t:TypeId}{len:Nat}{ps:Array (Nat×Value)}{h h':List Blk}{v:Value}(hw:jE P t len ps h=some (v,h')):Keeps h h':=by
 unfold jE at hw
 repeat' split at hw
 all_goals first
  | cases hw;done
  | skip
 rw[Option.bind_eq_some_iff] at hw
 obtain⟨c,-,hw⟩:=hw
 split at hw
 ·simp only[Option.some.injEq,Prod.mk.injEq] at hw
  obtain⟨-,rfl⟩:=hw
  exact Keeps.app _ _
 ·cases hw
theorem Bg{t:TypeId}{l c v:Value}{h h':List Blk}(hw:lN P t l c h=some (v,h')):Keeps h h':=by
 unfold lN at hw
 repeat' split at hw
 all_goals first
  | cases hw;done
  | (simp only[Option.some.injEq,Prod.mk.injEq] at hw;obtain⟨-,rfl⟩:=hw;exact Keeps.app _ _)
theorem xS{t:TypeId}{x k u:Value}{h h':List Blk}{n:Nat}(hw:gS P t x k u h=some (h',n)):Keeps h h':=by
 unfold gS at hw
 split at hw
 ·split at hw
  ·split at hw
   ·split at hw
    ·rename_i hn
     have hset:∀ b,Keeps h (h.set _ b):=fun b=>Keeps.set (b:=b) (by rw[hn];simp)
     repeat' split at hw
     all_goals first
      | cases hw;done
      | (simp only[Option.some.injEq,Prod.mk.injEq] at hw;obtain⟨rfl,-⟩:=hw;exact hset _)
    ·cases hw
   ·cases hw
  ·cases hw
 ·cases hw
theorem Dd{src dst:TypeId}{x:Value}{h h':List Blk}{v:Value}(hw:tM P src dst x h=some (v,h')):Keeps h h':=by
 unfold tM at hw
 repeat' split at hw
 all_goals first
  | cases hw;done
  | (simp only[Option.some.injEq,Prod.mk.injEq] at hw;obtain⟨-,rfl⟩:=hw;exact Keeps.app _ _)
theorem Pn{src dst:TypeId}{x:Value}{h h':List Blk}{v:Value}(hw:Ni P src dst x h=some (v,h')):Keeps h h':=by
 unfold Ni at hw
 split at hw
 ·rename_i r h1
  obtain rfl:=a6 hw
  exact Dd h1
 ·split at hw
  ·simp only[Option.some.injEq,Prod.mk.injEq] at hw
   obtain⟨-,rfl⟩:=hw
   exact Keeps.refl _
  ·rw[d9] at hw
   obtain⟨a,ha,e⟩:=hw
   simp only[Prod.mk.injEq] at e
   obtain⟨-,rfl⟩:=e
   exact Keeps.refl _
theorem Gx{tys:Array TypeId}{s x v:Value}{h h':List Blk}{w:Option Nat}(hw:tW P tys s x h=some (v,h',w)):Keeps h h':=by
 unfold tW at hw
 split at hw
 ·rename_i r hr
  obtain rfl:=a6 hw
  exact Hi hr
 ·unfold xJ at hw
  repeat' split at hw
  all_goals first
   | cases hw;done
   | skip
  rename_i hn _
  simp only[Option.some.injEq,Prod.mk.injEq] at hw
  obtain⟨-,rfl,-⟩:=hw
  exact (Keeps.set (by rw[hn];simp)).trans (Keeps.app _ _)
theorem Ku{ts:Array TypeId}{x y v:Value}{h h':List Blk}{w:Option Nat}(hw:Eb P ts x y h=some (v,h',w)):Keeps h h':=by
 unfold Eb at hw
 split at hw
 ·simp only[Option.some.injEq,Prod.mk.injEq] at hw;obtain⟨-,rfl,-⟩:=hw;exact Keeps.refl _
 ·split at hw
  ·rename_i hn hu
   split at hw
   ·split at hw
    ·simp only[Option.some.injEq,Prod.mk.injEq] at hw;obtain⟨-,rfl,-⟩:=hw;exact Keeps.set (by rw[hn];simp)
    ·cases hw
   ·cases hw
  ·cases hw
 ·cases hw
theorem Rk{g:FuncId}{fd:Func}{args:List Value}{v:Value}{h h':List Blk}{w:Option Nat}(hw:Sm P g fd args h=some (v,h',w)):Keeps h h':=by
 unfold Sm at hw
 split at hw
 ·simp only[Option.some.injEq,Prod.mk.injEq] at hw;obtain⟨-,rfl,-⟩:=hw;exact Keeps.refl _
 ·unfold aAi at hw
  repeat' split at hw
  all_goals first
   | cases hw;done
   | (simp only[Option.some.injEq,Prod.mk.injEq] at hw;obtain⟨-,rfl,-⟩:=hw;first|exact Keeps.refl _|exact Keeps.app _ _)
theorem Vo{ρ:Operand→Value}{o:Oper}{h h':List Blk}{v:Value}{w:Option Nat}(hw:hop P ρ o h=some (v,h',w)):Keeps h h':=by
 unfold hop at hw
 split at hw
 ·repeat' split at hw
  all_goals first
   | cases hw;done
   | (simp only[Option.some.injEq,Prod.mk.injEq] at hw;obtain⟨-,rfl,-⟩:=hw;exact Keeps.app _ _)
 ·simp only[Option.some.injEq,Prod.mk.injEq] at hw;obtain⟨-,rfl,-⟩:=hw;exact Keeps.app _ _
 ·exact yD (fun _ _=>zR) hw
 ·exact yD (fun _ _=>Bg) hw
 ·split at hw
  ·rw[d9] at hw;obtain⟨a,ha,e⟩:=hw;simp only[Prod.mk.injEq] at e;obtain⟨-,rfl,-⟩:=e;exact Keeps.refl _
  ·cases hw
 ·split at hw
  ·rw[d9] at hw;obtain⟨a,ha,e⟩:=hw;simp only[Prod.mk.injEq] at e;obtain⟨-,rfl,-⟩:=e;exact Mi ha
  ·cases hw
 ·unfold bhop at hw
  repeat' split at hw
  all_goals first
   | cases hw;done
   | exact Gx hw
   | exact Qa hw
   | exact Ku hw
   | (rw[d9] at hw;obtain⟨a,ha,e⟩:=hw;simp only[Prod.mk.injEq] at e;obtain⟨-,rfl,-⟩:=e;exact Keeps.refl _)
 ·repeat' split at hw
  all_goals first
   | cases hw;done
   | (simp only[Option.some.injEq,Prod.mk.injEq] at hw;obtain⟨-,rfl,-⟩:=hw;exact Keeps.refl _)
   | (rw[d9] at hw;obtain⟨a,ha,e⟩:=hw;simp only[Prod.mk.injEq] at e;obtain⟨-,rfl,-⟩:=e;exact Keeps.refl _)
 ·rw[d9] at hw;obtain⟨a,ha,e⟩:=hw;simp only[Prod.mk.injEq] at e;obtain⟨-,rfl,-⟩:=e;exact Keeps.refl _
 ·split at hw
  ·simp only[Option.some.injEq,Prod.mk.injEq] at hw;obtain⟨-,rfl,-⟩:=hw;exact Keeps.app _ _
  ·cases hw
 ·rw[d9] at hw;obtain⟨a,ha,e⟩:=hw;simp only[Prod.mk.injEq] at e;obtain⟨-,rfl,-⟩:=e;exact Keeps.refl _
 ·rw[d9] at hw;obtain⟨⟨a,b⟩,ha,e⟩:=hw;simp only[Prod.mk.injEq] at e;obtain⟨-,rfl,-⟩:=e;exact xS ha
 ·rw[d9] at hw;obtain⟨⟨a,b⟩,ha,e⟩:=hw;simp only[Prod.mk.injEq] at e;obtain⟨-,rfl,-⟩:=e;exact xS ha
 ·exact yD (fun _ _=>Pn) hw
 ·cases hw
structure CKeeps(C:Ctx):Prop where
 call:∀ {f args h v h' w},C.call f args h=some (v,h',w)→Keeps h h'
 round:∀ {l args h v h' w},C.round l args h=some (v,h',w)→Keeps h h'
theorem pH(hC:CKeeps C){ρ:Operand→Value}{o:Oper}{h h':List Blk}{v:Value}{w:Option Nat}(hw:xop C P ρ o h=some (v,h',w)):Keeps h h':=by
 unfold xop at hw
 split at hw
 ·rename_i r hr
  obtain rfl:=a6 hw
  exact Vo hr
 ·split at hw
  ·unfold xcall at hw
   repeat' split at hw
   all_goals first
    | cases hw;done
    | exact hC.call hw
    | exact hC.round hw
    | exact Rk hw
    | (rw[d9] at hw;obtain⟨a,ha,e⟩:=hw;simp only[Prod.mk.injEq] at e;obtain⟨-,rfl,-⟩:=e;exact Keeps.refl _)
  ·cases hw
theorem qV(hC:CKeeps C){ops:Array Oper}:∀(l:List Oper) {tm tm':List Value} {h h':List Blk} {w:Option Nat},cR C P ops l tm h=some (tm',h',w)→Keeps h h'
 | [],tm,tm',h,h',w,hw=>by
  simp only[cR,Option.some.injEq,Prod.mk.injEq] at hw
  obtain⟨-,rfl,-⟩:=hw
  exact Keeps.refl _
 | o::l,tm,tm',h,h',w,hw=>by
  simp only[cR] at hw
  split at hw
  ·split at hw
   ·exact qV hC l hw
   ·split at hw
    ·rename_i hx
     rw[d9] at hw;obtain⟨⟨a,b,c⟩,ha,e⟩:=hw;simp only[Prod.mk.injEq] at e;obtain⟨-,rfl,-⟩:=e
     exact (pH hC hx).trans (qV hC l ha)
    ·cases hw
  ·exact qV hC l hw
theorem Ex(hC:CKeeps C){ops:Array Oper}{m i:Nat}{o:Oper}{s s':Dr}(hw:gH C P ops m i o s=some s'):Keeps s.h s'.h:=by
 unfold gH at hw
 split at hw
 ·split at hw
  ·obtain rfl:=a6 hw;exact Keeps.refl _
  ·unfold pZ at hw
   split at hw
   ·rename_i hx
    split at hw
    ·split at hw
     ·obtain rfl:=a6 hw;exact Keeps.refl _
     ·obtain rfl:=a6 hw;exact Keeps.app _ _
    ·split at hw
     ·obtain rfl:=a6 hw;exact pH hC hx
     ·cases hw
   ·cases hw
 ·obtain rfl:=a6 hw;exact Keeps.refl _
theorem xZ(hC:CKeeps C){ops:Array Oper}{ms:List Nat}:∀(l:List Oper) {i:Nat} {s s':Dr},dW C P ops ms l i s=some s'→Keeps s.h s'.h
 | [],i,s,s',hw=>by
  simp only[dW,Option.some.injEq] at hw
  subst hw
  exact Keeps.refl _
 | o::l,i,s,s',hw=>by
  simp only[dW] at hw
  split at hw
  ·rename_i h1
   exact (Ex hC h1).trans (xZ hC l hw)
  ·cases hw
theorem Fp(hC:CKeeps C){ops:Array Oper}{ms:List Nat}{m i:Nat}{o:Oper}{s s':Fr}(hw:fB C P ops ms m i o s=some s'):Keeps s.h s'.h:=by
 unfold fB at hw
 split at hw
 ·split at hw
  ·obtain rfl:=a6 hw;exact Keeps.refl _
  ·unfold gJ at hw
   split at hw
   ·rename_i hx
    split at hw
    ·split at hw
     ·obtain rfl:=a6 hw;exact pH hC hx
     ·split at hw
      ·obtain rfl:=a6 hw;exact pH hC hx
      ·cases hw
     ·split at hw
      ·obtain rfl:=a6 hw;exact pH hC hx
      ·cases hw
     ·split at hw
      ·obtain rfl:=a6 hw;exact pH hC hx
      ·cases hw
     ·split at hw
      ·obtain rfl:=a6 hw;exact Keeps.app _ _
      ·split at hw
       ·obtain rfl:=a6 hw;exact pH hC hx
       ·cases hw
    ·cases hw
   ·cases hw
 ·obtain rfl:=a6 hw;exact Keeps.refl _
theorem xW(hC:CKeeps C){ops:Array Oper}{ms:List Nat}:∀(l:List Oper) {i:Nat} {s s':Fr},cY C P ops ms l i s=some s'→Keeps s.h s'.h
 | [],i,s,s',hw=>by
  simp only[cY,Option.some.injEq] at hw
  subst hw
  exact Keeps.refl _
 | o::l,i,s,s',hw=>by
  simp only[cY] at hw
  split at hw
  ·rename_i h1
   exact (Fp hC h1).trans (xW hC l hw)
  ·cases hw
theorem Gs(hC:CKeeps C){ops:Array Oper}{tm tm':List Value}{h h':List Blk}{w:Option Nat}(hw:iW C P ops tm h=some (tm',h',w)):Keeps h h':=by
 unfold iW at hw
 split at hw
 ·unfold oD at hw
  split at hw
  ·rw[d9] at hw;obtain⟨a,ha,e⟩:=hw;simp only[Prod.mk.injEq] at e;obtain⟨-,rfl,-⟩:=e
   exact xW hC _ ha
  ·cases hw
 ·unfold lQ at hw
  split at hw
  ·rw[d9] at hw;obtain⟨a,ha,e⟩:=hw;simp only[Prod.mk.injEq] at e;obtain⟨-,rfl,-⟩:=e
   exact xZ hC _ ha
  ·cases hw
theorem Gj(hC:CKeeps C){ro:Option Nat}{g:Operand}{ps:Array Tmp}{as body:Code}{a a':AS}{h h':List Blk}{e:Exit}{w:Option Nat}(hw:oJ C P ro g ps as body a h=some (e,a',h',w)) :
 Keeps h h'∧∀ d,d∈a'.df→d∈a.df∨h.length≤d:=by
 unfold oJ at hw
 repeat' split at hw
 all_goals first
  | cases hw;done
  | skip
 rename_i h1 d mark hs _ v h2 w2 hc
 have hk:Keeps h h2∧∀ d,d∈mark→h.length≤d:=by
  have k2:=(Keeps.app h1 _).trans (hC.call hc)
  unfold tY at hs
  split at hs
  ·simp only[Option.some.injEq,Prod.mk.injEq] at hs
   obtain⟨rfl,-,rfl⟩:=hs
   exact⟨(Keeps.app h _).trans k2,fun d hd=>by simp at hd;omega⟩
  ·split at hs
   ·simp only[Option.some.injEq,Prod.mk.injEq] at hs
    obtain⟨rfl,-,rfl⟩:=hs
    exact⟨k2,fun d hd=>by simp at hd⟩
   ·cases hs
 unfold rV at hw
 split at hw
 ·rename_i hl
  have k3:=hk.1.trans (Keeps.set (b:=.dead) (by rw[hl];simp))
  have hd:∀ d,d∈mark++a.df→d∈a.df∨h.length≤d:=fun d hd=>by
   rcases List.mem_append.1 hd with x|x
   ·exact .inr (hk.2 d x)
   ·exact .inl x
  repeat' split at hw
  all_goals first
   | cases hw;done
   | (simp only[Option.some.injEq,Prod.mk.injEq] at hw;obtain⟨-,rfl,rfl,-⟩:=hw;exact⟨k3,hd⟩)
 ·cases hw
theorem gG(hC:CKeeps C){ro:Option Nat}:∀(k:Nat) (c:Code) {a a':AS} {h h':List Blk} {e:Exit} {w:Option Nat},exec C P ro k c a h=some (e,a',h',w)→Keeps h h'∧∀ d,d∈a'.df→d∈a.df∨h.length≤d
 | 0,_,_,_,_,_,_,_,hw=>by simp[exec] at hw
 | k+1,c,a,a',h,h',e,w,hw=>by
  have two:∀ {a1:AS} {h1:List Blk},(Keeps h h1∧∀ d,d∈a1.df→d∈a.df∨h.length≤d)→(Keeps h1 h'∧∀ d,d∈a'.df→d∈a1.df∨h1.length≤d)→Keeps h h'∧∀ d,d∈a'.df→d∈a.df∨h.length≤d:=by
   intro a1 h1 x y
   refine⟨x.1.trans y.1,fun d hd=>?_⟩
   rcases y.2 d hd with z|z
   ·exact x.2 d z
   ·exact .inr (e7 x.1.1 z)
  have stay:∀ {a1:AS} {h1:List Blk},a1=a'→h1=h'→a=a1→h=h1→Keeps h h'∧∀ d,d∈a'.df→d∈a.df∨h.length≤d:=by
   rintro a1 h1 rfl rfl rfl rfl
   exact⟨Keeps.refl _,fun d hd=>.inl hd⟩
  cases c with
  | skip=>simp only[exec,Option.some.injEq,Prod.mk.injEq] at hw;exact stay hw.2.1 hw.2.2.1 rfl rfl
  | label _=>simp only[exec,Option.some.injEq,Prod.mk.injEq] at hw;exact stay hw.2.1 hw.2.2.1 rfl rfl
  | exit _=>simp only[exec,Option.some.injEq,Prod.mk.injEq] at hw;exact stay hw.2.1 hw.2.2.1 rfl rfl
  | ret=>simp only[exec,Option.some.injEq,Prod.mk.injEq] at hw;exact stay hw.2.1 hw.2.2.1 rfl rfl
  | seq x y =>
   simp only[exec] at hw
   split at hw
   ·cases hw
   ·rename_i e1 a1 h1 w1 hx
    have i1:=gG hC k x hx
    split at hw
    ·rw[d9] at hw;obtain⟨⟨e2,a2,h2,w2⟩,ha,ee⟩:=hw;simp only[Prod.mk.injEq] at ee;obtain⟨-,rfl,rfl,-⟩:=ee
     exact two i1 (gG hC k y ha)
    ·simp only[Option.some.injEq,Prod.mk.injEq] at hw;obtain⟨-,rfl,rfl,-⟩:=hw;exact i1
  | cond g x y =>
   simp only[exec] at hw
   repeat' split at hw
   all_goals first
    | cases hw;done
    | exact gG hC k _ hw
  | block id b =>
   simp only[exec] at hw
   split at hw
   ·cases hw
   ·rename_i e1 a1 h1 w1 hx
    have i1:=gG hC k b hx
    repeat' split at hw
    all_goals (simp only[Option.some.injEq,Prod.mk.injEq] at hw;obtain⟨-,rfl,rfl,-⟩:=hw;exact i1)
  | loop b =>
   simp only[exec] at hw
   split at hw
   ·cases hw
   ·rename_i e1 a1 h1 w1 hx
    have i1:=gG hC k b hx
    split at hw
    ·rw[d9] at hw;obtain⟨⟨e2,a2,h2,w2⟩,ha,ee⟩:=hw;simp only[Prod.mk.injEq] at ee;obtain⟨-,rfl,rfl,-⟩:=ee
     exact two i1 (gG hC k (.loop b) ha)
    ·simp only[Option.some.injEq,Prod.mk.injEq] at hw;obtain⟨-,rfl,rfl,-⟩:=hw;exact i1
  | region id ops d =>
   simp only[exec,vZ] at hw
   repeat' split at hw
   all_goals first
    | cases hw;done
    | skip
   all_goals (rw[d9] at hw;obtain⟨⟨t2,h2,w2⟩,ha,ee⟩:=hw;simp only[Prod.mk.injEq] at ee;obtain⟨-,rfl,rfl,-⟩:=ee;refine⟨?_,fun d hd=>.inl hd⟩;first|exact Gs hC ha|exact qV hC _ ha)
  | rangeFunc g ps as b=>simp only[exec] at hw;exact Gj hC hw
  | _=>simp[exec] at hw
theorem oX{lo:Nat}:∀(ds:List Nat) {h h':List Blk} {w:Option Nat},bH ds h=some (h',w)→(∀ d,d∈ds→lo≤d)→h'.length=h.length∧∀ m,m<lo→h'[m]?=h[m]?
 | [],h,h',w,hw,_=>by
  simp only[bH,Option.some.injEq,Prod.mk.injEq] at hw
  obtain⟨rfl,-⟩:=hw
  exact⟨rfl,fun _ _=>rfl⟩
 | n::ds,h,h',w,hw,hd=>by
  simp only[bH] at hw
  split at hw
  ·rw[d9] at hw;obtain⟨⟨h2,w2⟩,ha,ee⟩:=hw;simp only[Prod.mk.injEq] at ee;obtain⟨rfl,-⟩:=ee
   obtain⟨i1,i2⟩:=oX ds ha (fun d h=>hd d (j1 _ h))
   refine⟨by rw[i1];simp,fun m hm=>?_⟩
   rw[i2 m hm,d8]
   have:=hd n List.mem_cons_self
   omega
  ·cases hw
theorem He(hC:CKeeps C){k:Nat}{f:FuncId}{args:List Value}{h h':List Blk}{v:Value}{w:Option Nat}(hw:iT C P k f args h=some (v,h',w)):Keeps h h':=by
 unfold iT at hw
 have key:∀ {fd:Func} {a1:AS} {h1:List Blk} {w1:Option Nat},(Keeps h h1∧∀ d,d∈a1.df→d∈([]:List Nat)∨h.length≤d)→jR P fd h.length h a1 h1 w1=some (v,h',w)→Keeps h h':=by
  intro fd a1 h1 w1 x hr
  unfold jR at hr
  split at hr
  ·rename_i h2 w2 ht
   obtain⟨t1,t2⟩:=oX (lo:=h.length) _ ht (fun d hd=>by rcases x.2 d hd with z|z;cases z;exact z)
   have k2:Keeps h h2:=⟨by rw[t1];exact x.1.1,fun m hm=>by rw[t2 m (a8.1 hm).1];exact x.1.2 m hm⟩
   repeat' split at hr
   all_goals first
    | cases hr;done
    | (simp only[Option.some.injEq,Prod.mk.injEq] at hr;obtain⟨-,rfl,-⟩:=hr;first|exact Keeps.refl _|exact k2)
  ·cases hr
 split at hw
 ·cases hw
 ·split at hw
  ·cases hw
  ·split at hw
   ·rename_i hx
    have i1:=gG hC k _ hx
    split at hw
    ·exact key i1 hw
    ·exact key i1 hw
    ·cases hw
   ·cases hw
theorem Eo(hC:CKeeps C){k l:Nat}{args:List Value}{h h':List Blk}{v:Value}{w:Option Nat}(hw:lV C P k l args h=some (v,h',w)):Keeps h h':=by
 unfold lV at hw
 have key:∀ {j:Option Code} {h1:List Blk} {w1:Option Nat},Keeps h h1→kR l j h1 w1=some (v,h',w)→Keeps h h':=by
  intro j h1 w1 x hr
  unfold kR at hr
  split at hr
  ·rename_i hl
   simp only[Option.some.injEq,Prod.mk.injEq] at hr
   obtain⟨-,rfl,-⟩:=hr
   exact x.trans (Keeps.set (by rw[hl];simp))
  ·cases hr
 split at hw
 ·split at hw
  ·split at hw
   ·rename_i hx
    have i1:=(gG hC k _ hx).1
    split at hw
    ·split at hw
     ·rename_i hl
      have i2:∀ b,Keeps h (_:List Blk):=fun b=>i1.trans (Keeps.set (n:=l) (b:=b) (by rw[hl];simp))
      split at hw
      ·split at hw
       ·rename_i hy
        have i3:=(i2 _).trans (gG hC k _ hy).1
        split at hw
        ·exact key i3 hw
        ·exact key i3 hw
        ·exact key i3 hw
        ·cases hw
       ·cases hw
      ·cases hw
     ·cases hw
    ·cases hw
   ·cases hw
  ·cases hw
 ·cases hw
theorem xM(k:Nat):∀ d,CKeeps (ctx P k d)
 | 0=>by
  refine⟨fun h=>?_,fun h=>?_⟩
  ·exact (nomatch (show none=some _ from h))
  ·exact (nomatch (show none=some _ from h))
 | d+1=>⟨fun h=>He (xM k d) h,fun h=>Eo (xM k d) h⟩
theorem rC:CKeeps (lim P):=by
 refine⟨fun h=>?_,fun h=>?_⟩
 ·rw[lim_call] at h
  obtain⟨N,hk⟩:=h
  exact (xM N N).call (hk N N (b7 _) (b7 _))
 ·rw[lim_round] at h
  obtain⟨N,hk⟩:=h
  exact (xM N N).round (hk N N (b7 _) (b7 _))
end
end Go.Rex
