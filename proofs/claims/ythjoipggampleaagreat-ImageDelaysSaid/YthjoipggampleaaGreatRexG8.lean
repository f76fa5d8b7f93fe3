/- An executor of the program's functions on trees of values, proved sound. -/
import Derived.Test.YthjoipggampleaaGreatRexG7
set_option linter.unusedSimpArgs false
set_option linter.unusedVariables false
set_option linter.defProp false
namespace Go.Rex
open Go.RowKit
section
variable {C : Ctx} {P : Program} {ops : Array Oper} {rest : List Oper} {tm tm2 : List TV} {hp hp2 : List TB} {Q : TS → Prop} {o : Oper}
variable {dst : Option Tmp} {ty : TypeId} {pos : String} {aft : Array Edge} {gd : Option (Nat × Bool)} {p q : TV} {ms : List Nat} {i : Nat} {np : List Nat} {c : Nat}

theorem TO.mv {x : Operand} (hw : twant ops tm { dst:=dst,op:=.move x,type:=ty,pos:=pos,after:=aft,guard:=gd } = some true) (hv : tev tm x = p) (ht : tput tm dst p = tm2) (hq : TO C P ops rest ⟨tm2,hp⟩ Q) : TO C P ops ({ dst:=dst,op:=.move x,type:=ty,pos:=pos,after:=aft,guard:=gd } :: rest) ⟨tm,hp⟩ Q :=
  TO.pop1 hw (by subst hv;rfl) ht hq
theorem TD.mv {x : Operand} (hw : twant ops tm { dst:=dst,op:=.move x,type:=ty,pos:=pos,after:=aft,guard:=gd } = some true) (hv : tev tm x = p) (ht : tput tm dst p = tm2) (hq : TD C P ops ms rest (i + 1) np c ⟨tm2,hp⟩ Q) : TD C P ops ms ({ dst:=dst,op:=.move x,type:=ty,pos:=pos,after:=aft,guard:=gd } :: rest) i np c ⟨tm,hp⟩ Q :=
  TD.pop1 hw (by subst hv;rfl) ht hq
theorem TO.asg {x : Operand} (hw : twant ops tm { dst:=dst,op:=.assign x,type:=ty,pos:=pos,after:=aft,guard:=gd } = some true) (hv : tev tm x = p) (ht : tput tm dst p = tm2) (hq : TO C P ops rest ⟨tm2,hp⟩ Q) : TO C P ops ({ dst:=dst,op:=.assign x,type:=ty,pos:=pos,after:=aft,guard:=gd } :: rest) ⟨tm,hp⟩ Q :=
  TO.pop1 hw (by subst hv;rfl) ht hq
theorem TD.asg {x : Operand} (hw : twant ops tm { dst:=dst,op:=.assign x,type:=ty,pos:=pos,after:=aft,guard:=gd } = some true) (hv : tev tm x = p) (ht : tput tm dst p = tm2) (hq : TD C P ops ms rest (i + 1) np c ⟨tm2,hp⟩ Q) : TD C P ops ms ({ dst:=dst,op:=.assign x,type:=ty,pos:=pos,after:=aft,guard:=gd } :: rest) i np c ⟨tm,hp⟩ Q :=
  TD.pop1 hw (by subst hv;rfl) ht hq
theorem TO.bin {b : BinOp} {t u : TypeId} {x y : Operand} {a d r : Value} (hw : twant ops tm { dst:=dst,op:=.binOp b t x y u,type:=ty,pos:=pos,after:=aft,guard:=gd } = some true) (hx : tev tm x = .v a) (hy : tev tm y = .v d) (hv : fastBin b a d = some r) (ht : tput tm dst (.v r) = tm2) (hq : TO C P ops rest ⟨tm2,hp⟩ Q) : TO C P ops ({ dst:=dst,op:=.binOp b t x y u,type:=ty,pos:=pos,after:=aft,guard:=gd } :: rest) ⟨tm,hp⟩ Q :=
  TO.pop1 hw (by simp only [tpop,hx,hy,tbin,hv,Option.map_some,orT]) ht hq
theorem TD.bin {b : BinOp} {t u : TypeId} {x y : Operand} {a d r : Value} (hw : twant ops tm { dst:=dst,op:=.binOp b t x y u,type:=ty,pos:=pos,after:=aft,guard:=gd } = some true) (hx : tev tm x = .v a) (hy : tev tm y = .v d) (hv : fastBin b a d = some r) (ht : tput tm dst (.v r) = tm2) (hq : TD C P ops ms rest (i + 1) np c ⟨tm2,hp⟩ Q) : TD C P ops ms ({ dst:=dst,op:=.binOp b t x y u,type:=ty,pos:=pos,after:=aft,guard:=gd } :: rest) i np c ⟨tm,hp⟩ Q :=
  TD.pop1 hw (by simp only [tpop,hx,hy,tbin,hv,Option.map_some,orT]) ht hq
theorem TO.ext {x : Operand} {n : Nat} {l : List TV} (hw : twant ops tm { dst:=dst,op:=.extract x n,type:=ty,pos:=pos,after:=aft,guard:=gd } = some true) (hx : tev tm x = .tuple l) (hv : l[n]? = some p) (ht : tput tm dst p = tm2) (hq : TO C P ops rest ⟨tm2,hp⟩ Q) : TO C P ops ({ dst:=dst,op:=.extract x n,type:=ty,pos:=pos,after:=aft,guard:=gd } :: rest) ⟨tm,hp⟩ Q :=
  TO.pop1 hw (by simp only [tpop,hx,hv]) ht hq
theorem TD.ext {x : Operand} {n : Nat} {l : List TV} (hw : twant ops tm { dst:=dst,op:=.extract x n,type:=ty,pos:=pos,after:=aft,guard:=gd } = some true) (hx : tev tm x = .tuple l) (hv : l[n]? = some p) (ht : tput tm dst p = tm2) (hq : TD C P ops ms rest (i + 1) np c ⟨tm2,hp⟩ Q) : TD C P ops ms ({ dst:=dst,op:=.extract x n,type:=ty,pos:=pos,after:=aft,guard:=gd } :: rest) i np c ⟨tm,hp⟩ Q :=
  TD.pop1 hw (by simp only [tpop,hx,hv]) ht hq
theorem TO.fa {t : TypeId} {x : Operand} {f : Nat} (hw : twant ops tm { dst:=dst,op:=.fieldAddr t x f,type:=ty,pos:=pos,after:=aft,guard:=gd } = some true) (hx : tev tm x = q) (hv : tfieldAddr P t q f = some p) (ht : tput tm dst p = tm2) (hq : TO C P ops rest ⟨tm2,hp⟩ Q) : TO C P ops ({ dst:=dst,op:=.fieldAddr t x f,type:=ty,pos:=pos,after:=aft,guard:=gd } :: rest) ⟨tm,hp⟩ Q :=
  TO.pop1 hw (by simp only [tpop,hx,hv]) ht hq
theorem TD.fa {t : TypeId} {x : Operand} {f : Nat} (hw : twant ops tm { dst:=dst,op:=.fieldAddr t x f,type:=ty,pos:=pos,after:=aft,guard:=gd } = some true) (hx : tev tm x = q) (hv : tfieldAddr P t q f = some p) (ht : tput tm dst p = tm2) (hq : TD C P ops ms rest (i + 1) np c ⟨tm2,hp⟩ Q) : TD C P ops ms ({ dst:=dst,op:=.fieldAddr t x f,type:=ty,pos:=pos,after:=aft,guard:=gd } :: rest) i np c ⟨tm,hp⟩ Q :=
  TD.pop1 hw (by simp only [tpop,hx,hv]) ht hq
theorem TO.ia {t : TypeId} {x y : Operand} {q2 : TV} (hw : twant ops tm { dst:=dst,op:=.indexAddr t x y,type:=ty,pos:=pos,after:=aft,guard:=gd } = some true) (hx : tev tm x = q) (hy : tev tm y = q2) (hv : tindexAddr P hp t q q2 = some p) (ht : tput tm dst p = tm2) (hq : TO C P ops rest ⟨tm2,hp⟩ Q) : TO C P ops ({ dst:=dst,op:=.indexAddr t x y,type:=ty,pos:=pos,after:=aft,guard:=gd } :: rest) ⟨tm,hp⟩ Q :=
  TO.pop1 hw (by simp only [tpop,hx,hy,hv]) ht hq
theorem TD.ia {t : TypeId} {x y : Operand} {q2 : TV} (hw : twant ops tm { dst:=dst,op:=.indexAddr t x y,type:=ty,pos:=pos,after:=aft,guard:=gd } = some true) (hx : tev tm x = q) (hy : tev tm y = q2) (hv : tindexAddr P hp t q q2 = some p) (ht : tput tm dst p = tm2) (hq : TD C P ops ms rest (i + 1) np c ⟨tm2,hp⟩ Q) : TD C P ops ms ({ dst:=dst,op:=.indexAddr t x y,type:=ty,pos:=pos,after:=aft,guard:=gd } :: rest) i np c ⟨tm,hp⟩ Q :=
  TD.pop1 hw (by simp only [tpop,hx,hy,hv]) ht hq
theorem TO.fld {t : TypeId} {x : Operand} {f : Nat} (hw : twant ops tm { dst:=dst,op:=.field t x f,type:=ty,pos:=pos,after:=aft,guard:=gd } = some true) (hx : tev tm x = q) (hv : tfield P t q f = some p) (ht : tput tm dst p = tm2) (hq : TO C P ops rest ⟨tm2,hp⟩ Q) : TO C P ops ({ dst:=dst,op:=.field t x f,type:=ty,pos:=pos,after:=aft,guard:=gd } :: rest) ⟨tm,hp⟩ Q :=
  TO.pop1 hw (by simp only [tpop,hx,hv]) ht hq
theorem TD.fld {t : TypeId} {x : Operand} {f : Nat} (hw : twant ops tm { dst:=dst,op:=.field t x f,type:=ty,pos:=pos,after:=aft,guard:=gd } = some true) (hx : tev tm x = q) (hv : tfield P t q f = some p) (ht : tput tm dst p = tm2) (hq : TD C P ops ms rest (i + 1) np c ⟨tm2,hp⟩ Q) : TD C P ops ms ({ dst:=dst,op:=.field t x f,type:=ty,pos:=pos,after:=aft,guard:=gd } :: rest) i np c ⟨tm,hp⟩ Q :=
  TD.pop1 hw (by simp only [tpop,hx,hv]) ht hq
theorem TO.pk {x y z : Operand} (hw : twant ops tm { dst:=dst,op:=.pick x y z,type:=ty,pos:=pos,after:=aft,guard:=gd } = some true) (hv : tpick (tev tm x) (tev tm y) (tev tm z) = some p) (ht : tput tm dst p = tm2) (hq : TO C P ops rest ⟨tm2,hp⟩ Q) : TO C P ops ({ dst:=dst,op:=.pick x y z,type:=ty,pos:=pos,after:=aft,guard:=gd } :: rest) ⟨tm,hp⟩ Q :=
  TO.pop1 hw (by simp only [tpop,hv]) ht hq
theorem TD.pk {x y z : Operand} (hw : twant ops tm { dst:=dst,op:=.pick x y z,type:=ty,pos:=pos,after:=aft,guard:=gd } = some true) (hv : tpick (tev tm x) (tev tm y) (tev tm z) = some p) (ht : tput tm dst p = tm2) (hq : TD C P ops ms rest (i + 1) np c ⟨tm2,hp⟩ Q) : TD C P ops ms ({ dst:=dst,op:=.pick x y z,type:=ty,pos:=pos,after:=aft,guard:=gd } :: rest) i np c ⟨tm,hp⟩ Q :=
  TD.pop1 hw (by simp only [tpop,hv]) ht hq
theorem TO.len {x : Operand} {t : TypeId} {ts : List TypeId} (hw : twant ops tm { dst:=dst,op:=.call { callee:=.builtin .len,args:=#[x],argTypes:=⟨t :: ts⟩ },type:=ty,pos:=pos,after:=aft,guard:=gd } = some true) (hx : tev tm x = q) (hv : tlen P (some t) q = some p) (ht : tput tm dst p = tm2) (hq : TO C P ops rest ⟨tm2,hp⟩ Q) : TO C P ops ({ dst:=dst,op:=.call { callee:=.builtin .len,args:=#[x],argTypes:=⟨t :: ts⟩ },type:=ty,pos:=pos,after:=aft,guard:=gd } :: rest) ⟨tm,hp⟩ Q :=
  TO.pop1 hw (by simp only [tpop,if_true,hx,List.getElem?_toArray,List.getElem?_cons_zero,hv,orT]) ht hq
theorem TD.len {x : Operand} {t : TypeId} {ts : List TypeId} (hw : twant ops tm { dst:=dst,op:=.call { callee:=.builtin .len,args:=#[x],argTypes:=⟨t :: ts⟩ },type:=ty,pos:=pos,after:=aft,guard:=gd } = some true) (hx : tev tm x = q) (hv : tlen P (some t) q = some p) (ht : tput tm dst p = tm2) (hq : TD C P ops ms rest (i + 1) np c ⟨tm2,hp⟩ Q) : TD C P ops ms ({ dst:=dst,op:=.call { callee:=.builtin .len,args:=#[x],argTypes:=⟨t :: ts⟩ },type:=ty,pos:=pos,after:=aft,guard:=gd } :: rest) i np c ⟨tm,hp⟩ Q :=
  TD.pop1 hw (by simp only [tpop,if_true,hx,List.getElem?_toArray,List.getElem?_cons_zero,hv,orT]) ht hq
theorem TO.bld {t : TypeId} {ps : Array (Nat × Operand)} {l : List (Nat × TV)} (hw : twant ops tm { dst:=dst,op:=.build t ps,type:=ty,pos:=pos,after:=aft,guard:=gd } = some true) (hx : ps.toList.map (fun q=>(q.1,tev tm q.2)) = l) (hv : tbuild P t l = some p) (ht : tput tm dst p = tm2) (hq : TO C P ops rest ⟨tm2,hp⟩ Q) : TO C P ops ({ dst:=dst,op:=.build t ps,type:=ty,pos:=pos,after:=aft,guard:=gd } :: rest) ⟨tm,hp⟩ Q :=
  TO.pop1 hw (by simp only [tpop,hx,hv]) ht hq
theorem TD.bld {t : TypeId} {ps : Array (Nat × Operand)} {l : List (Nat × TV)} (hw : twant ops tm { dst:=dst,op:=.build t ps,type:=ty,pos:=pos,after:=aft,guard:=gd } = some true) (hx : ps.toList.map (fun q=>(q.1,tev tm q.2)) = l) (hv : tbuild P t l = some p) (ht : tput tm dst p = tm2) (hq : TD C P ops ms rest (i + 1) np c ⟨tm2,hp⟩ Q) : TD C P ops ms ({ dst:=dst,op:=.build t ps,type:=ty,pos:=pos,after:=aft,guard:=gd } :: rest) i np c ⟨tm,hp⟩ Q :=
  TD.pop1 hw (by simp only [tpop,hx,hv]) ht hq
theorem TO.mf {f : FuncId} {a b : Array Operand} {l1 l2 : List TV} (hw : twant ops tm { dst:=dst,op:=.makeFunc (.func f) a b,type:=ty,pos:=pos,after:=aft,guard:=gd } = some true) (hx : a.toList.map (tev tm) = l1) (hy : b.toList.map (tev tm) = l2) (hv : (l1.all (lf 4) && l2.all (lf 4)) = true) (ht : tput tm dst (.func f l1 l2) = tm2) (hq : TO C P ops rest ⟨tm2,hp⟩ Q) : TO C P ops ({ dst:=dst,op:=.makeFunc (.func f) a b,type:=ty,pos:=pos,after:=aft,guard:=gd } :: rest) ⟨tm,hp⟩ Q :=
  TO.pop1 hw (by subst hx hy;simp only [tpop];rw [if_pos];simpa only [List.all_map,Function.comp_def] using hv) ht hq
theorem TD.mf {f : FuncId} {a b : Array Operand} {l1 l2 : List TV} (hw : twant ops tm { dst:=dst,op:=.makeFunc (.func f) a b,type:=ty,pos:=pos,after:=aft,guard:=gd } = some true) (hx : a.toList.map (tev tm) = l1) (hy : b.toList.map (tev tm) = l2) (hv : (l1.all (lf 4) && l2.all (lf 4)) = true) (ht : tput tm dst (.func f l1 l2) = tm2) (hq : TD C P ops ms rest (i + 1) np c ⟨tm2,hp⟩ Q) : TD C P ops ms ({ dst:=dst,op:=.makeFunc (.func f) a b,type:=ty,pos:=pos,after:=aft,guard:=gd } :: rest) i np c ⟨tm,hp⟩ Q :=
  TD.pop1 hw (by subst hx hy;simp only [tpop];rw [if_pos];simpa only [List.all_map,Function.comp_def] using hv) ht hq
theorem TO.ld {t : TypeId} {a : Operand} (hw : twant ops tm { dst:=dst,op:=.load t a,type:=ty,pos:=pos,after:=aft,guard:=gd } = some true) (hx : tev tm a = p) (hv : tload P hp t p = some q) (ht : tput tm dst q = tm2) (hh2 : hp = hp2) (hq : TO C P ops rest ⟨tm2,hp2⟩ Q) : TO C P ops ({ dst:=dst,op:=.load t a,type:=ty,pos:=pos,after:=aft,guard:=gd } :: rest) ⟨tm,hp⟩ Q:=by
  subst ht hh2
  exact TO.g hw (OpG.load (by rw [show tev (TS.mk tm hp).tm a = p from hx];exact hv)) hq
theorem TD.ld {t : TypeId} {a : Operand} (hw : twant ops tm { dst:=dst,op:=.load t a,type:=ty,pos:=pos,after:=aft,guard:=gd } = some true) (hx : tev tm a = p) (hv : tload P hp t p = some q) (ht : tput tm dst q = tm2) (hh2 : hp = hp2) (hq : TD C P ops ms rest (i + 1) (i :: np) 0 ⟨tm2,hp2⟩ Q) : TD C P ops ms ({ dst:=dst,op:=.load t a,type:=ty,pos:=pos,after:=aft,guard:=gd } :: rest) i np 0 ⟨tm,hp⟩ Q:=by
  subst ht hh2
  exact TD.g hw (OpG.load (by rw [show tev (TS.mk tm hp).tm a = p from hx];exact hv)) hq
theorem TD.ldw {t : TypeId} {a : Operand} (hw : twant ops tm { dst:=dst,op:=.load t a,type:=ty,pos:=pos,after:=aft,guard:=gd } = some true) (hx : tev tm a = p) (hv : tload P hp t p = some q) (hnp : np.all (fun j=>(nthN ms i).testBit j) = true) (ht : tput tm dst q = tm2) (hh2 : hp = hp2) (hq : TD C P ops ms rest (i + 1) (i :: np) 1 ⟨tm2,hp2⟩ Q) : TD C P ops ms ({ dst:=dst,op:=.load t a,type:=ty,pos:=pos,after:=aft,guard:=gd } :: rest) i np c ⟨tm,hp⟩ Q:=by
  subst ht hh2
  exact TD.w hw (OpG.toW (OpG.load (by rw [show tev (TS.mk tm hp).tm a = p from hx];exact hv))) hnp hq
theorem TD.ldF {t : TypeId} {a : Operand} {idx : Nat} (hnf : needFree ops = true) (hw : twant ops tm { dst:=dst,op:=.load t a,type:=ty,pos:=pos,after:=aft,guard:=gd } = some true) (hx : tev tm a = p) (hv : tload P hp t p = some q) (hap : apart hp idx p = true) (ht : tput tm dst q = tm2) (hh2 : hp = hp2) (hq : TD C P ops ms rest (i + 1) (i :: np) (idx + 2) ⟨tm2,hp2⟩ Q) : TD C P ops ms ({ dst:=dst,op:=.load t a,type:=ty,pos:=pos,after:=aft,guard:=gd } :: rest) i np (idx + 2) ⟨tm,hp⟩ Q:=by
  subst ht hh2
  exact TD.ldF0 (s:=⟨tm,hp⟩) hnf hw (by rw [show tev (TS.mk tm hp).tm a = p from hx];exact hap) (OpL.load (s:=⟨tm,hp⟩) (by rw [show tev (TS.mk tm hp).tm a = p from hx];exact hv)) hq
theorem TO.al {e : TypeId} {z : List Value} {zt : List TV} (hw : twant ops tm { dst:=dst,op:=.alloc e,type:=ty,pos:=pos,after:=aft,guard:=gd } = some true) (hv : zeroC P e = some z) (hz : z.map TV.v = zt) (ht : tput tm dst (.lptr hp.length 0 0) = tm2) (hh2 : (hp ++ [.var zt]) = hp2) (hq : TO C P ops rest ⟨tm2,hp2⟩ Q) : TO C P ops ({ dst:=dst,op:=.alloc e,type:=ty,pos:=pos,after:=aft,guard:=gd } :: rest) ⟨tm,hp⟩ Q:=by
  subst ht hh2
  exact TO.g hw (by subst hz;exact OpG.alloc hv) hq
theorem TD.al {e : TypeId} {z : List Value} {zt : List TV} (hw : twant ops tm { dst:=dst,op:=.alloc e,type:=ty,pos:=pos,after:=aft,guard:=gd } = some true) (hv : zeroC P e = some z) (hz : z.map TV.v = zt) (ht : tput tm dst (.lptr hp.length 0 0) = tm2) (hh2 : (hp ++ [.var zt]) = hp2) (hq : TD C P ops ms rest (i + 1) (i :: np) 0 ⟨tm2,hp2⟩ Q) : TD C P ops ms ({ dst:=dst,op:=.alloc e,type:=ty,pos:=pos,after:=aft,guard:=gd } :: rest) i np 0 ⟨tm,hp⟩ Q:=by
  subst ht hh2
  exact TD.g hw (by subst hz;exact OpG.alloc hv) hq
theorem TO.bx {e : TypeId} {x : Operand} {l : List TV} (hw : twant ops tm { dst:=dst,op:=.box e x,type:=ty,pos:=pos,after:=aft,guard:=gd } = some true) (hx : tev tm x = p) (hj : isJunk p = false) (hl : tcells p = l) (ht : tput tm dst (.lptr hp.length 0 0) = tm2) (hh2 : (hp ++ [.var l]) = hp2) (hq : TO C P ops rest ⟨tm2,hp2⟩ Q) : TO C P ops ({ dst:=dst,op:=.box e x,type:=ty,pos:=pos,after:=aft,guard:=gd } :: rest) ⟨tm,hp⟩ Q:=by
  subst ht hh2
  exact TO.g hw (by subst hl;exact OpG.box hx hj) hq
theorem TD.bx {e : TypeId} {x : Operand} {l : List TV} (hw : twant ops tm { dst:=dst,op:=.box e x,type:=ty,pos:=pos,after:=aft,guard:=gd } = some true) (hx : tev tm x = p) (hj : isJunk p = false) (hl : tcells p = l) (ht : tput tm dst (.lptr hp.length 0 0) = tm2) (hh2 : (hp ++ [.var l]) = hp2) (hq : TD C P ops ms rest (i + 1) (i :: np) 0 ⟨tm2,hp2⟩ Q) : TD C P ops ms ({ dst:=dst,op:=.box e x,type:=ty,pos:=pos,after:=aft,guard:=gd } :: rest) i np 0 ⟨tm,hp⟩ Q:=by
  subst ht hh2
  exact TD.g hw (by subst hl;exact OpG.box hx hj) hq
theorem TO.bf {e : TypeId} {x : Operand} {l : List TV} (hw : twant ops tm { dst:=dst,op:=.box e x,type:=ty,pos:=pos,after:=aft,guard:=gd } = some true) (hx : tev tm x = p) (hj : isJunk p = false) (hl : tcells p = l) (hlf : l.all (lf 4) = true) (ht : tput tm dst (.fptr true l 0) = tm2) (hh2 : hp = hp2) (hq : TO C P ops rest ⟨tm2,hp2⟩ Q) : TO C P ops ({ dst:=dst,op:=.box e x,type:=ty,pos:=pos,after:=aft,guard:=gd } :: rest) ⟨tm,hp⟩ Q:=by
  subst ht hh2
  exact TO.g hw (by subst hl;exact OpG.boxF hx hj hlf) hq
theorem TD.bf {e : TypeId} {x : Operand} {l : List TV} (hw : twant ops tm { dst:=dst,op:=.box e x,type:=ty,pos:=pos,after:=aft,guard:=gd } = some true) (hx : tev tm x = p) (hj : isJunk p = false) (hl : tcells p = l) (hlf : l.all (lf 4) = true) (ht : tput tm dst (.fptr true l 0) = tm2) (hh2 : hp = hp2) (hq : TD C P ops ms rest (i + 1) (i :: np) 0 ⟨tm2,hp2⟩ Q) : TD C P ops ms ({ dst:=dst,op:=.box e x,type:=ty,pos:=pos,after:=aft,guard:=gd } :: rest) i np 0 ⟨tm,hp⟩ Q:=by
  subst ht hh2
  exact TD.g hw (by subst hl;exact OpG.boxF hx hj hlf) hq
theorem TO.mks {t : TypeId} {x y : Operand} {n : Nat} {z : List Value} {q2 : TV} {zt : List TV} (hw : twant ops tm { dst:=dst,op:=.makeSlice t x y,type:=ty,pos:=pos,after:=aft,guard:=gd } = some true) (hx : tev tm x = q) (hy : tev tm y = q2) (hv : tmake P t q q2 = some (n,z)) (hz : z.map TV.v = zt) (ht : tput tm dst (.lsl hp.length 0 n) = tm2) (hh2 : (hp ++ [.rows z.length (List.replicate n zt)]) = hp2) (hq : TO C P ops rest ⟨tm2,hp2⟩ Q) : TO C P ops ({ dst:=dst,op:=.makeSlice t x y,type:=ty,pos:=pos,after:=aft,guard:=gd } :: rest) ⟨tm,hp⟩ Q:=by
  subst ht hh2
  exact TO.g hw (by subst hz;exact OpG.makeSlice (s:=⟨tm,hp⟩) (by rw [show tev (TS.mk tm hp).tm x = q from hx,show tev (TS.mk tm hp).tm y = q2 from hy];exact hv)) hq
theorem TD.mks {t : TypeId} {x y : Operand} {n : Nat} {z : List Value} {q2 : TV} {zt : List TV} (hw : twant ops tm { dst:=dst,op:=.makeSlice t x y,type:=ty,pos:=pos,after:=aft,guard:=gd } = some true) (hx : tev tm x = q) (hy : tev tm y = q2) (hv : tmake P t q q2 = some (n,z)) (hz : z.map TV.v = zt) (ht : tput tm dst (.lsl hp.length 0 n) = tm2) (hh2 : (hp ++ [.rows z.length (List.replicate n zt)]) = hp2) (hq : TD C P ops ms rest (i + 1) (i :: np) 0 ⟨tm2,hp2⟩ Q) : TD C P ops ms ({ dst:=dst,op:=.makeSlice t x y,type:=ty,pos:=pos,after:=aft,guard:=gd } :: rest) i np 0 ⟨tm,hp⟩ Q:=by
  subst ht hh2
  exact TD.g hw (by subst hz;exact OpG.makeSlice (s:=⟨tm,hp⟩) (by rw [show tev (TS.mk tm hp).tm x = q from hx,show tev (TS.mk tm hp).tm y = q2 from hy];exact hv)) hq
theorem TO.bs {t : TypeId} {n : Nat} {ps : Array (Nat × Operand)} {l : List (Nat × TV)} {es : Nat} {rows : List (List TV)} (hw : twant ops tm { dst:=dst,op:=.buildSlice t n ps,type:=ty,pos:=pos,after:=aft,guard:=gd } = some true) (hx : ps.toList.map (fun q=>(q.1,tev tm q.2)) = l) (hv : tslice P t n l = some (es,rows)) (ht : tput tm dst (.list es rows) = tm2) (hh2 : hp = hp2) (hq : TO C P ops rest ⟨tm2,hp2⟩ Q) : TO C P ops ({ dst:=dst,op:=.buildSlice t n ps,type:=ty,pos:=pos,after:=aft,guard:=gd } :: rest) ⟨tm,hp⟩ Q:=by
  subst ht hh2
  exact TO.g hw (OpG.buildSlice (s:=⟨tm,hp⟩) (by simp only [hx];exact hv)) hq
theorem TD.bs {t : TypeId} {n : Nat} {ps : Array (Nat × Operand)} {l : List (Nat × TV)} {es : Nat} {rows : List (List TV)} (hw : twant ops tm { dst:=dst,op:=.buildSlice t n ps,type:=ty,pos:=pos,after:=aft,guard:=gd } = some true) (hx : ps.toList.map (fun q=>(q.1,tev tm q.2)) = l) (hv : tslice P t n l = some (es,rows)) (ht : tput tm dst (.list es rows) = tm2) (hh2 : hp = hp2) (hq : TD C P ops ms rest (i + 1) (i :: np) 0 ⟨tm2,hp2⟩ Q) : TD C P ops ms ({ dst:=dst,op:=.buildSlice t n ps,type:=ty,pos:=pos,after:=aft,guard:=gd } :: rest) i np 0 ⟨tm,hp⟩ Q:=by
  subst ht hh2
  exact TD.g hw (OpG.buildSlice (s:=⟨tm,hp⟩) (by simp only [hx];exact hv)) hq
theorem TO.bo {t : TypeId} {n : Nat} {ps : Array (Nat × Operand)} {l : List (Nat × TV)} {es : Nat} {rows : List (List TV)} (hw : twant ops tm { dst:=dst,op:=.buildSlice t n ps,type:=ty,pos:=pos,after:=aft,guard:=gd } = some true) (hx : ps.toList.map (fun q=>(q.1,tev tm q.2)) = l) (hv : tslice P t n l = some (es,rows)) (ht : tput tm dst (.lsl hp.length 0 n) = tm2) (hh2 : (hp ++ [.rows es rows]) = hp2) (hq : TO C P ops rest ⟨tm2,hp2⟩ Q) : TO C P ops ({ dst:=dst,op:=.buildSlice t n ps,type:=ty,pos:=pos,after:=aft,guard:=gd } :: rest) ⟨tm,hp⟩ Q:=by
  subst ht hh2
  exact TO.g hw (OpG.buildOwn (s:=⟨tm,hp⟩) (by simp only [hx];exact hv)) hq
theorem TD.bo {t : TypeId} {n : Nat} {ps : Array (Nat × Operand)} {l : List (Nat × TV)} {es : Nat} {rows : List (List TV)} (hw : twant ops tm { dst:=dst,op:=.buildSlice t n ps,type:=ty,pos:=pos,after:=aft,guard:=gd } = some true) (hx : ps.toList.map (fun q=>(q.1,tev tm q.2)) = l) (hv : tslice P t n l = some (es,rows)) (ht : tput tm dst (.lsl hp.length 0 n) = tm2) (hh2 : (hp ++ [.rows es rows]) = hp2) (hq : TD C P ops ms rest (i + 1) (i :: np) 0 ⟨tm2,hp2⟩ Q) : TD C P ops ms ({ dst:=dst,op:=.buildSlice t n ps,type:=ty,pos:=pos,after:=aft,guard:=gd } :: rest) i np 0 ⟨tm,hp⟩ Q:=by
  subst ht hh2
  exact TD.g hw (OpG.buildOwn (s:=⟨tm,hp⟩) (by simp only [hx];exact hv)) hq
theorem TO.sl {t : TypeId} {x : Operand} {lo hi : Option Operand} {ql qh : Option TV} (hw : twant ops tm { dst:=dst,op:=.slice t x lo hi none,type:=ty,pos:=pos,after:=aft,guard:=gd } = some true) (hx : tev tm x = q) (hl : lo.map (tev tm) = ql) (hh : hi.map (tev tm) = qh) (hv : tsub P hp t q ql qh = some p) (ht : tput tm dst p = tm2) (hh2 : hp = hp2) (hq : TO C P ops rest ⟨tm2,hp2⟩ Q) : TO C P ops ({ dst:=dst,op:=.slice t x lo hi none,type:=ty,pos:=pos,after:=aft,guard:=gd } :: rest) ⟨tm,hp⟩ Q:=by
  subst ht hh2
  exact TO.g hw (OpG.slice (s:=⟨tm,hp⟩) (by rw [show tev (TS.mk tm hp).tm x = q from hx,show lo.map (tev (TS.mk tm hp).tm) = ql from hl,show hi.map (tev (TS.mk tm hp).tm) = qh from hh];exact hv)) hq
theorem TD.sl {t : TypeId} {x : Operand} {lo hi : Option Operand} {ql qh : Option TV} (hw : twant ops tm { dst:=dst,op:=.slice t x lo hi none,type:=ty,pos:=pos,after:=aft,guard:=gd } = some true) (hx : tev tm x = q) (hl : lo.map (tev tm) = ql) (hh : hi.map (tev tm) = qh) (hv : tsub P hp t q ql qh = some p) (ht : tput tm dst p = tm2) (hh2 : hp = hp2) (hq : TD C P ops ms rest (i + 1) (i :: np) 0 ⟨tm2,hp2⟩ Q) : TD C P ops ms ({ dst:=dst,op:=.slice t x lo hi none,type:=ty,pos:=pos,after:=aft,guard:=gd } :: rest) i np 0 ⟨tm,hp⟩ Q:=by
  subst ht hh2
  exact TD.g hw (OpG.slice (s:=⟨tm,hp⟩) (by rw [show tev (TS.mk tm hp).tm x = q from hx,show lo.map (tev (TS.mk tm hp).tm) = ql from hl,show hi.map (tev (TS.mk tm hp).tm) = qh from hh];exact hv)) hq
theorem TO.st {t : TypeId} {a x : Operand} (hw : twant ops tm { dst:=none,op:=.store t a x,type:=ty,pos:=pos,after:=aft,guard:=gd } = some true) (ha : tev tm a = q) (hx : tev tm x = p) (hv : tstore P hp t q p = some hp2) (hq : TO C P ops rest ⟨tm,hp2⟩ Q) : TO C P ops ({ dst:=none,op:=.store t a x,type:=ty,pos:=pos,after:=aft,guard:=gd } :: rest) ⟨tm,hp⟩ Q :=
  TO.w hw (OpW.store (s:=⟨tm,hp⟩) (by rw [show tev (TS.mk tm hp).tm a = q from ha,show tev (TS.mk tm hp).tm x = p from hx];exact hv)) hq
theorem TD.st {t : TypeId} {a x : Operand} (hw : twant ops tm { dst:=none,op:=.store t a x,type:=ty,pos:=pos,after:=aft,guard:=gd } = some true) (ha : tev tm a = q) (hx : tev tm x = p) (hv : tstore P hp t q p = some hp2) (hnp : np.all (fun j=>(nthN ms i).testBit j) = true) (hq : TD C P ops ms rest (i + 1) (i :: np) 1 ⟨tm,hp2⟩ Q) : TD C P ops ms ({ dst:=none,op:=.store t a x,type:=ty,pos:=pos,after:=aft,guard:=gd } :: rest) i np c ⟨tm,hp⟩ Q :=
  TD.w hw (OpW.store (s:=⟨tm,hp⟩) (by rw [show tev (TS.mk tm hp).tm a = q from ha,show tev (TS.mk tm hp).tm x = p from hx];exact hv)) hnp hq
theorem appW (hsl0 : True) {α : Type} {x y : Operand} {t0 t1 e : TypeId} {tys : List TypeId} {n len es : Nat} {xs ys : List α} {f : α → List TV} {z : List Value} {new : List (List TV)} {xy : List α} (hx : tev tm x = .lsl n 0 len) (hb : hp[n]? = some (.rows es (xs.map f))) (hlen : len = xs.length) (hy : tev tm y = .list es new) (hnew : new = ys.map f) (hsl : sliceOf P t0 = some e) (hni : notInt P (some t1) = true) (hz : zeroC P e = some z) (hes : z.length = es) (hap : appI (bytesT P e) xs ys = some xy) (hff : ∀ a,(f a).length = es ∧ (f a).all tone = true ∧ (f a).all (lf 4) = true) : OpW C P { dst:=dst,op:=.call { callee:=.builtin .append,args:=#[x,y],argTypes:=⟨t0 :: t1 :: tys⟩ },type:=ty,pos:=pos,after:=aft,guard:=gd } ⟨tm,hp⟩ ⟨tput (tm.map (kill n 4)) dst (.lsl n 0 xy.length),(hp.map (killB n)).set n (.rows es (xy.map f))⟩:=by
  unfold appI at hap
  split at hap
  · rename_i hl
    obtain rfl:=Option.some.inj hap
    subst hnew
    have:=OpW.append (C:=C) (P:=P) (s:=⟨tm,hp⟩) (dst:=dst) (ty:=ty) (pos:=pos) (aft:=aft) (gd:=gd) (x:=x) (y:=y) (t0:=t0) (t1:=t1) (e:=e) (tys:=tys) (n:=n) (len:=len) (es:=es) (rows:=xs.map f) (new:=ys.map f) (z:=z) hx hb (by simp [hlen]) hy hsl hni hz hes (by simpa [limT] using hl)
      (fun r hr=>by obtain ⟨a,_,rfl⟩:=List.mem_map.1 hr;exact (hff a).1) (fun r hr=>by obtain ⟨a,_,rfl⟩:=List.mem_map.1 hr;exact (hff a).2.1) (fun r hr=>by obtain ⟨a,_,rfl⟩:=List.mem_map.1 hr;exact (hff a).2.2)
    simpa using this
  · cases hap
theorem TO.ap {α : Type} {x y : Operand} {t0 t1 e : TypeId} {tys : List TypeId} {n len es : Nat} {xs ys : List α} {f : α → List TV} {z : List Value} {new : List (List TV)} {xy : List α} (hw : twant ops tm { dst:=dst,op:=.call { callee:=.builtin .append,args:=#[x,y],argTypes:=⟨t0 :: t1 :: tys⟩ },type:=ty,pos:=pos,after:=aft,guard:=gd } = some true) (hx : tev tm x = .lsl n 0 len) (hb : hp[n]? = some (.rows es (xs.map f))) (hlen : len = xs.length) (hy : tev tm y = .list es new) (hnew : new = ys.map f) (hsl : sliceOf P t0 = some e) (hni : notInt P (some t1) = true) (hz : zeroC P e = some z) (hes : z.length = es) (hap : appI (bytesT P e) xs ys = some xy) (hff : ∀ a,(f a).length = es ∧ (f a).all tone = true ∧ (f a).all (lf 4) = true) (ht : tput (tm.map (kill n 4)) dst (.lsl n 0 xy.length) = tm2) (hh2 : (hp.map (killB n)).set n (.rows es (xy.map f)) = hp2) (hq : TO C P ops rest ⟨tm2,hp2⟩ Q) : TO C P ops ({ dst:=dst,op:=.call { callee:=.builtin .append,args:=#[x,y],argTypes:=⟨t0 :: t1 :: tys⟩ },type:=ty,pos:=pos,after:=aft,guard:=gd } :: rest) ⟨tm,hp⟩ Q:=by
  subst ht hh2
  exact TO.w hw (appW trivial hx hb hlen hy hnew hsl hni hz hes hap hff) hq
theorem TD.ap {α : Type} {x y : Operand} {t0 t1 e : TypeId} {tys : List TypeId} {n len es : Nat} {xs ys : List α} {f : α → List TV} {z : List Value} {new : List (List TV)} {xy : List α} (hw : twant ops tm { dst:=dst,op:=.call { callee:=.builtin .append,args:=#[x,y],argTypes:=⟨t0 :: t1 :: tys⟩ },type:=ty,pos:=pos,after:=aft,guard:=gd } = some true) (hx : tev tm x = .lsl n 0 len) (hb : hp[n]? = some (.rows es (xs.map f))) (hlen : len = xs.length) (hy : tev tm y = .list es new) (hnew : new = ys.map f) (hsl : sliceOf P t0 = some e) (hni : notInt P (some t1) = true) (hz : zeroC P e = some z) (hes : z.length = es) (hap : appI (bytesT P e) xs ys = some xy) (hff : ∀ a,(f a).length = es ∧ (f a).all tone = true ∧ (f a).all (lf 4) = true) (hnp : np.all (fun j=>(nthN ms i).testBit j) = true) (ht : tput (tm.map (kill n 4)) dst (.lsl n 0 xy.length) = tm2) (hh2 : (hp.map (killB n)).set n (.rows es (xy.map f)) = hp2) (hq : TD C P ops ms rest (i + 1) (i :: np) 1 ⟨tm2,hp2⟩ Q) : TD C P ops ms ({ dst:=dst,op:=.call { callee:=.builtin .append,args:=#[x,y],argTypes:=⟨t0 :: t1 :: tys⟩ },type:=ty,pos:=pos,after:=aft,guard:=gd } :: rest) i np c ⟨tm,hp⟩ Q:=by
  subst ht hh2
  exact TD.w hw (appW trivial hx hb hlen hy hnew hsl hni hz hes hap hff) hnp hq
theorem kill_live {n j : Nat} {b b' : TB} (hj : ((hp.map (killB n)).set n b)[j]? = some b') (hl : b'.live = true) (hne : j ≠ n) : ∃ b,hp[j]? = some b ∧ b.live = true:=by
  rw [List.getElem?_set_ne (Ne.symm hne),List.getElem?_map] at hj
  cases hq : hp[j]? with
  | none=>rw [hq] at hj;cases hj
  | some b0 =>
    rw [hq] at hj
    obtain rfl:=Option.some.inj hj
    refine ⟨b0,rfl,?_⟩
    cases b0<;>first|rfl|exact hl
theorem appA (hsl0 : True) {α : Type} {x y : Operand} {t0 t1 e : TypeId} {tys : List TypeId} {n len es : Nat} {xs ys : List α} {f : α → List TV} {z : List Value} {new : List (List TV)} {xy : List α} (hx : tev tm x = .lsl n 0 len) (hb : hp[n]? = some (.rows es (xs.map f))) (hlen : len = xs.length) (hy : tev tm y = .list es new) (hnew : new = ys.map f) (hsl : sliceOf P t0 = some e) (hni : notInt P (some t1) = true) (hz : zeroC P e = some z) (hes : z.length = es) (hap : appI (bytesT P e) xs ys = some xy) (hff : ∀ a,(f a).length = es ∧ (f a).all tone = true ∧ (f a).all (lf 4) = true) : OpA C P { dst:=dst,op:=.call { callee:=.builtin .append,args:=#[x,y],argTypes:=⟨t0 :: t1 :: tys⟩ },type:=ty,pos:=pos,after:=aft,guard:=gd } ⟨tm,hp⟩ ⟨tput (tm.map (kill n 4)) dst (.lsl n 0 xy.length),(hp.map (killB n)).set n (.rows es (xy.map f))⟩ n:=by
  unfold appI at hap
  split at hap
  · rename_i hl
    obtain rfl:=Option.some.inj hap
    subst hnew
    have:=OpA.append (C:=C) (P:=P) (s:=⟨tm,hp⟩) (dst:=dst) (ty:=ty) (pos:=pos) (aft:=aft) (gd:=gd) (x:=x) (y:=y) (t0:=t0) (t1:=t1) (e:=e) (tys:=tys) (n:=n) (len:=len) (es:=es) (rows:=xs.map f) (new:=ys.map f) (z:=z) hx hb (by simp [hlen]) hy hsl hni hz hes (by simpa [limT] using hl)
      (fun r hr=>by obtain ⟨a,_,rfl⟩:=List.mem_map.1 hr;exact (hff a).1) (fun r hr=>by obtain ⟨a,_,rfl⟩:=List.mem_map.1 hr;exact (hff a).2.1) (fun r hr=>by obtain ⟨a,_,rfl⟩:=List.mem_map.1 hr;exact (hff a).2.2)
    simpa using this
  · cases hap
theorem TD.apf {α : Type} {x y : Operand} {t0 t1 e : TypeId} {tys : List TypeId} {n len es : Nat} {xs ys : List α} {f : α → List TV} {z : List Value} {new : List (List TV)} {xy : List α} (hw : twant ops tm { dst:=dst,op:=.call { callee:=.builtin .append,args:=#[x,y],argTypes:=⟨t0 :: t1 :: tys⟩ },type:=ty,pos:=pos,after:=aft,guard:=gd } = some true) (hx : tev tm x = .lsl n 0 len) (hb : hp[n]? = some (.rows es (xs.map f))) (hlen : len = xs.length) (hy : tev tm y = .list es new) (hnew : new = ys.map f) (hsl : sliceOf P t0 = some e) (hni : notInt P (some t1) = true) (hz : zeroC P e = some z) (hes : z.length = es) (hap : appI (bytesT P e) xs ys = some xy) (hff : ∀ a,(f a).length = es ∧ (f a).all tone = true ∧ (f a).all (lf 4) = true) (hnp : np.all (fun j=>(nthN ms i).testBit j) = true) (ht : tput (tm.map (kill n 4)) dst (.lsl n 0 xy.length) = tm2) (hh2 : (hp.map (killB n)).set n (.rows es (xy.map f)) = hp2) (hq : TD C P ops ms rest (i + 1) (i :: np) (n + 2) ⟨tm2,hp2⟩ Q) : TD C P ops ms ({ dst:=dst,op:=.call { callee:=.builtin .append,args:=#[x,y],argTypes:=⟨t0 :: t1 :: tys⟩ },type:=ty,pos:=pos,after:=aft,guard:=gd } :: rest) i np 0 ⟨tm,hp⟩ Q:=by
  subst ht hh2
  exact TD.apF hw (appA trivial hx hb hlen hy hnew hsl hni hz hes hap hff) (fun j b' hj hl hne=>kill_live hj hl hne) ⟨_,hb,rfl⟩ hnp hq
theorem TO.cal {fo : Operand} {g : FuncId} {args : Array Operand} {tys : Array TypeId} {first caps as : List TV} {th : List TB} (hw : twant ops tm { dst:=dst,op:=.call { callee:=.value fo,args:=args,argTypes:=tys },type:=ty,pos:=pos,after:=aft,guard:=gd } = some true) (hf : tev tm fo = .func g first caps) (hg : goFn P g = true) (hsp : Spec C g as ⟨[p],th⟩) (has : first ++ (args.toList.map (tev tm) ++ caps) = as) (hl : as.all (lf 4) = true) (hth : th.all resTB = true) (ht : tput tm dst (shift hp.length 4 p) = tm2) (hh2 : hp ++ th = hp2) (hq : TO C P ops rest ⟨tm2,hp2⟩ Q) : TO C P ops ({ dst:=dst,op:=.call { callee:=.value fo,args:=args,argTypes:=tys },type:=ty,pos:=pos,after:=aft,guard:=gd } :: rest) ⟨tm,hp⟩ Q:=by
  subst ht hh2
  exact TO.g hw (OpG.call (s:=⟨tm,hp⟩) hf hg has hl hsp hth) hq
theorem TD.cal {fo : Operand} {g : FuncId} {args : Array Operand} {tys : Array TypeId} {first caps as : List TV} {th : List TB} (hw : twant ops tm { dst:=dst,op:=.call { callee:=.value fo,args:=args,argTypes:=tys },type:=ty,pos:=pos,after:=aft,guard:=gd } = some true) (hf : tev tm fo = .func g first caps) (hg : goFn P g = true) (hsp : Spec C g as ⟨[p],th⟩) (has : first ++ (args.toList.map (tev tm) ++ caps) = as) (hl : as.all (lf 4) = true) (hth : th.all resTB = true) (ht : tput tm dst (shift hp.length 4 p) = tm2) (hh2 : hp ++ th = hp2) (hq : TD C P ops ms rest (i + 1) (i :: np) 0 ⟨tm2,hp2⟩ Q) : TD C P ops ms ({ dst:=dst,op:=.call { callee:=.value fo,args:=args,argTypes:=tys },type:=ty,pos:=pos,after:=aft,guard:=gd } :: rest) i np 0 ⟨tm,hp⟩ Q:=by
  subst ht hh2
  exact TD.g hw (OpG.call (s:=⟨tm,hp⟩) hf hg has hl hsp hth) hq
theorem TD.calw {fo : Operand} {g : FuncId} {args : Array Operand} {tys : Array TypeId} {first caps as : List TV} {th : List TB} (hw : twant ops tm { dst:=dst,op:=.call { callee:=.value fo,args:=args,argTypes:=tys },type:=ty,pos:=pos,after:=aft,guard:=gd } = some true) (hf : tev tm fo = .func g first caps) (hg : goFn P g = true) (hsp : Spec C g as ⟨[p],th⟩) (has : first ++ (args.toList.map (tev tm) ++ caps) = as) (hl : as.all (lf 4) = true) (hth : th.all resTB = true) (hnp : np.all (fun j=>(nthN ms i).testBit j) = true) (ht : tput tm dst (shift hp.length 4 p) = tm2) (hh2 : hp ++ th = hp2) (hq : TD C P ops ms rest (i + 1) (i :: np) 1 ⟨tm2,hp2⟩ Q) : TD C P ops ms ({ dst:=dst,op:=.call { callee:=.value fo,args:=args,argTypes:=tys },type:=ty,pos:=pos,after:=aft,guard:=gd } :: rest) i np c ⟨tm,hp⟩ Q:=by
  subst ht hh2
  exact TD.w hw (OpG.toW (OpG.call (s:=⟨tm,hp⟩) hf hg has hl hsp hth)) hnp hq
theorem TO.lok {fo : Operand} {g : FuncId} {args : Array Operand} {tys : Array TypeId} {first caps as : List TV} {th : List TB} (hw : twant ops tm { dst:=dst,op:=.call { callee:=.value fo,args:=args,argTypes:=tys },type:=ty,pos:=pos,after:=aft,guard:=gd } = some true) (hf : tev tm fo = .func g first caps) (hg : goFn P g = true) (hsp : Spec C g as ⟨[p],th⟩) (has : first ++ ((args.toList.map (tev tm)).map (view hp 4) ++ caps) = as) (hth : th.all resTB = true) (hcp : cl 4 p = true) (hcl : th.all clTB = true) (ht : tput tm dst (shift hp.length 4 p) = tm2) (hh2 : hp ++ th = hp2) (hq : TO C P ops rest ⟨tm2,hp2⟩ Q) : TO C P ops ({ dst:=dst,op:=.call { callee:=.value fo,args:=args,argTypes:=tys },type:=ty,pos:=pos,after:=aft,guard:=gd } :: rest) ⟨tm,hp⟩ Q:=by
  subst ht hh2
  exact TO.g hw (OpG.look (s:=⟨tm,hp⟩) hf hg has hsp hth hcp hcl) hq
theorem TD.lok {fo : Operand} {g : FuncId} {args : Array Operand} {tys : Array TypeId} {first caps as : List TV} {th : List TB} (hw : twant ops tm { dst:=dst,op:=.call { callee:=.value fo,args:=args,argTypes:=tys },type:=ty,pos:=pos,after:=aft,guard:=gd } = some true) (hf : tev tm fo = .func g first caps) (hg : goFn P g = true) (hsp : Spec C g as ⟨[p],th⟩) (has : first ++ ((args.toList.map (tev tm)).map (view hp 4) ++ caps) = as) (hth : th.all resTB = true) (hcp : cl 4 p = true) (hcl : th.all clTB = true) (ht : tput tm dst (shift hp.length 4 p) = tm2) (hh2 : hp ++ th = hp2) (hq : TD C P ops ms rest (i + 1) (i :: np) 0 ⟨tm2,hp2⟩ Q) : TD C P ops ms ({ dst:=dst,op:=.call { callee:=.value fo,args:=args,argTypes:=tys },type:=ty,pos:=pos,after:=aft,guard:=gd } :: rest) i np 0 ⟨tm,hp⟩ Q:=by
  subst ht hh2
  exact TD.g hw (OpG.look (s:=⟨tm,hp⟩) hf hg has hsp hth hcp hcl) hq
theorem TD.lokw {fo : Operand} {g : FuncId} {args : Array Operand} {tys : Array TypeId} {first caps as : List TV} {th : List TB} (hw : twant ops tm { dst:=dst,op:=.call { callee:=.value fo,args:=args,argTypes:=tys },type:=ty,pos:=pos,after:=aft,guard:=gd } = some true) (hf : tev tm fo = .func g first caps) (hg : goFn P g = true) (hsp : Spec C g as ⟨[p],th⟩) (has : first ++ ((args.toList.map (tev tm)).map (view hp 4) ++ caps) = as) (hth : th.all resTB = true) (hcp : cl 4 p = true) (hcl : th.all clTB = true) (hnp : np.all (fun j=>(nthN ms i).testBit j) = true) (ht : tput tm dst (shift hp.length 4 p) = tm2) (hh2 : hp ++ th = hp2) (hq : TD C P ops ms rest (i + 1) (i :: np) 1 ⟨tm2,hp2⟩ Q) : TD C P ops ms ({ dst:=dst,op:=.call { callee:=.value fo,args:=args,argTypes:=tys },type:=ty,pos:=pos,after:=aft,guard:=gd } :: rest) i np c ⟨tm,hp⟩ Q:=by
  subst ht hh2
  exact TD.w hw (OpG.toW (OpG.look (s:=⟨tm,hp⟩) hf hg has hsp hth hcp hcl)) hnp hq
theorem TO.frz (n : Nat) {l : List Oper} {b : TB} (hb : hp[n]? = some b) (hl : lfB b = true) (ht : tm.map (frz n b 4) = tm2) (hh2 : (hp.map (frzB n b)).set n .dead = hp2) (hq : TO C P ops l ⟨tm2,hp2⟩ Q) : TO C P ops l ⟨tm,hp⟩ Q:=by
  subst ht hh2
  exact TO.weak (Wk.freeze n hb hl) hq
theorem TD.frz (n : Nat) {l : List Oper} {b : TB} (hb : hp[n]? = some b) (hl : lfB b = true) (ht : tm.map (frz n b 4) = tm2) (hh2 : (hp.map (frzB n b)).set n .dead = hp2) (hcb : Nat.ble c 1 = true) (hq : TD C P ops ms l i np c ⟨tm2,hp2⟩ Q) : TD C P ops ms l i np c ⟨tm,hp⟩ Q:=by
  subst ht hh2
  exact TD.weak hcb (Wk.freeze n hb hl) hq
end
end Go.Rex

namespace Go.Rex
open Go.RowKit
section
variable {P : Program} {tm : List TV} {hp : List TB}
variable {dst : Option Tmp} {ty : TypeId} {pos : String} {aft : Array Edge} {gd : Option (Nat × Bool)} {x y : Operand} {t u : TypeId} {tys : List TypeId}
/-! ### operations on values without names -/
theorem tgen_of {o : Oper} {v : Value} (ha : o.op.operands.toList.all (fun x=>(er 3 (tev tm x)).isSome) = true) (hv : Rex.pop P (erased tm) o = some v) (hi : injOk 3 v = true) : tgen P tm o = some (inj 3 v):=by
  unfold tgen
  rw [if_pos ha,hv]
  simp only
  rw [if_pos hi]
theorem erased_v {a : Value} (h : tev tm x = .v a) : erased tm x = a:=by unfold erased;rw [h];rfl
theorem some_v {a : Value} (h : tev tm x = .v a) : (er 3 (tev tm x)).isSome = true:=by rw [h];rfl
theorem pop_not {b : Bool} (h : tev tm x = .v (.bool b)) : tpop P hp tm { dst:=dst,op:=.unOp .not t x,type:=ty,pos:=pos,after:=aft,guard:=gd } = some (.v (.bool (!b))):=by
  have : tgen P tm { dst:=dst,op:=.unOp .not t x,type:=ty,pos:=pos,after:=aft,guard:=gd } = some (inj 3 (.bool (!b))) :=
    tgen_of (by simp [Op.operands,some_v h]) (by simp only [Rex.pop,genP_not,erased_v h]) rfl
  exact this
theorem pop_neg {k : IntKind} {n : Int} (h : tev tm x = .v (.int k n)) : tpop P hp tm { dst:=dst,op:=.unOp .neg t x,type:=ty,pos:=pos,after:=aft,guard:=gd } = some (.v (.int k (k.wrap (0 - n)))):=by
  have : tgen P tm { dst:=dst,op:=.unOp .neg t x,type:=ty,pos:=pos,after:=aft,guard:=gd } = some (inj 3 (.int k (k.wrap (0 - n)))) :=
    tgen_of (by simp [Op.operands,some_v h]) (by simp only [Rex.pop,genP_neg,erased_v h]) rfl
  exact this
theorem all2 {v w : Value} (h : tev tm x = .v v) (g : tev tm y = .v w) : ([x,y].all fun x=>(er 3 (tev tm x)).isSome) = true:=by simp [some_v h,some_v g]
/-- from the model itself -/
theorem tgen_run {o : Oper} {v : Value} (hp0 : Rex.pop P (erased tm) o = genP P (erased tm) o) (hsel : ∀ cs b, o.op ≠ .select cs b) (ha : o.op.operands.toList.all (fun x => (er 3 (tev tm x)).isSome) = true) (hc : o.op.operands.toList.all (fun x => isClean (erased tm x)) = true)
    (hv : prun P (execOp (erased tm) o) = some (.value v)) (hi : injOk 3 v = true) (hcv : isClean v = true) : tgen P tm o = some (inj 3 v):=by
  refine tgen_of ha ?_ hi
  rw [hp0]
  unfold genP
  split
  · rename_i cs b e;exact absurd e (hsel _ _)
  · rw [if_pos hc,hv]
    simp only
    rw [if_pos hcv]
theorem prun_bind {α β : Type} {s : Sem α} {f : α → Sem β} : prun P (s >>= f) = (prun P s).bind fun a=>prun P (f a):=by
  induction s with
  | pure a=>rfl
  | program k ih=>exact ih _
  | mark m k ih=>exact ih
  | _=>rfl
theorem prun_pure {α : Type} {a : α} : prun P (pure a : Sem α) = some a:=rfl
theorem prun_under {t : TypeId} {d : TypeDesc} (h : P.underlying t = some d) : prun P (underlying t) = some d:=by
  unfold underlying
  rw [prun_bind]
  show prun P (match P.underlying t with | some d => pure d | none => stuck "no such type") = some d
  rw [h]
  rfl
theorem cvt_ok {v w : Value} (h : tev tm x = .v v) (hc : isClean v = true) (hw : prun P (convert t u v) = some w) (hi : injOk 3 w = true) (hcw : isClean w = true) : tpop P hp tm { dst:=dst,op:=.convert t u x,type:=ty,pos:=pos,after:=aft,guard:=gd } = some (inj 3 w):=by
  have : tgen P tm { dst:=dst,op:=.convert t u x,type:=ty,pos:=pos,after:=aft,guard:=gd } = some (inj 3 w):=by
    refine tgen_run rfl (fun cs b e=>by cases e) (by simpa [Op.operands] using some_v h) (by simpa [Op.operands,erased_v h] using hc) ?_ hi hcw
    show prun P (convert t u (erased tm x) >>= fun r=>(pure (Next.value r) : Sem Next)) = _
    rw [prun_bind,erased_v h,hw]
    rfl
  exact this
theorem cvt_int_int {k ks kd : IntKind} {n : Int} (hs : P.underlying t = some (.int ks)) (hd : P.underlying u = some (.int kd)) (h : tev tm x = .v (.int k n)) : tpop P hp tm { dst:=dst,op:=.convert t u x,type:=ty,pos:=pos,after:=aft,guard:=gd } = some (.v (.int kd (kd.wrap n))):=by
  refine cvt_ok (w:=.int kd (kd.wrap n)) h rfl ?_ rfl rfl
  unfold convert
  rw [prun_bind,prun_under hs,Option.bind_some,prun_bind,prun_under hd,Option.bind_some]
  rfl
def shI (op : BinOp) (k : IntKind) (a b : Int) : Option Int :=
  if b < 0 then none else match op with
  | .shl=>some (k.wrap (a * 2 ^ (min b.toNat k.bits)))
  | _=>some (a.fdiv (2 ^ (min b.toNat k.bits)))
theorem bin_ok {b : BinOp} {v w r : Value} (h : tev tm x = .v v) (g : tev tm y = .v w) (hf : fastBin b v w = none) (hc : isClean v = true) (hd : isClean w = true) (he : prun P (eqGuard b t x y v w) = some ()) (hw : prun P (binOp b t v w) = some r) (hi : injOk 3 r = true) (hcr : isClean r = true) :
    tpop P hp tm { dst:=dst,op:=.binOp b t x y u,type:=ty,pos:=pos,after:=aft,guard:=gd } = some (inj 3 r):=by
  have h1 : tgen P tm { dst:=dst,op:=.binOp b t x y u,type:=ty,pos:=pos,after:=aft,guard:=gd } = some (inj 3 r):=by
    refine tgen_run ?_ (fun cs b e=>by cases e) (by simpa [Op.operands] using ⟨some_v h,some_v g⟩) (by simpa [Op.operands,erased_v h,erased_v g] using ⟨hc,hd⟩) ?_ hi hcr
    · simp only [Rex.pop,erased_v h,erased_v g,hf,orGen]
    · show prun P ((eqGuard b t x y (erased tm x) (erased tm y) >>= fun _=>binOp b t (erased tm x) (erased tm y)) >>= fun r=>(pure (Next.value r) : Sem Next)) = _
      rw [prun_bind,erased_v h,erased_v g,prun_bind,he,Option.bind_some,hw]
      rfl
  simp only [tpop,h,g,tbin,hf,Option.map_none,orT]
  exact h1
theorem eqG_other {b : BinOp} {v w : Value} (hb : b ≠ .eql ∧ b ≠ .neq) : prun P (eqGuard b t x y v w) = some ():=by
  cases b<;>first|rfl|exact absurd rfl hb.1|exact absurd rfl hb.2
theorem pop_shift {b : BinOp} {k k' : IntKind} {a d r : Int} (h : tev tm x = .v (.int k a)) (g : tev tm y = .v (.int k' d)) (hb : b = .shl ∨ b = .shr) (hr : shI b k a d = some r) : tpop P hp tm { dst:=dst,op:=.binOp b t x y u,type:=ty,pos:=pos,after:=aft,guard:=gd } = some (.v (.int k r)):=by
  unfold shI at hr
  split at hr
  · cases hr
  · rename_i hd
    refine bin_ok (r:=.int k r) h g ?_ rfl rfl (eqG_other ?_) ?_ rfl rfl
    · rcases hb with rfl|rfl<;>simp [fastBin]
    · rcases hb with rfl|rfl<;>exact ⟨by decide,by decide⟩
    · rcases hb with rfl|rfl<;>(obtain rfl:=Option.some.inj hr;simp only [binOp,Op.shift,if_neg hd];rfl)
end
end Go.Rex

namespace Go.Rex
open Go.RowKit
section
variable {C : Ctx} {P : Program} {Fz : Nat → Prop} {h h0 : List Blk} {L : Nat → LI} {s : TS} {tm : List Value}
variable {dst : Option Tmp} {ty : TypeId} {pos : String} {aft : Array Edge} {gd : Option (Nat × Bool)}
/-- parts of a list that may be nil, or end where it ends -/
theorem OpM.slice {t : TypeId} {e : TypeId} {x : Operand} {lo hi : Option Operand} {es l k : Nat} {rows : List (List TV)} (hso : sliceOf P t = some e) (hok : okT P e = true) (hes : P.cellsOf e = es) (hx : tev s.tm x = .list es rows)
    (hl : tbnd (lo.map (tev s.tm)) 0 = some l) (hk : tbnd (hi.map (tev s.tm)) rows.length = some k) (hlk : l ≤ k) (hkr : k ≤ rows.length) :
    OpM C P { dst:=dst,op:=.slice t x lo hi none,type:=ty,pos:=pos,after:=aft,guard:=gd } s ⟨tput s.tm dst (.list es ((rows.drop l).take (k - l))),s.hp⟩:=by
  intro h0 Fz L tm h hs
  have hvx:=tev_vl hs.tmr x
  rw [hx] at hvx
  have hu : P.underlying t = some (.slice e):=by
    unfold sliceOf at hso
    split at hso
    · rename_i e' hu;rw [hu];exact congrArg some (congrArg TypeDesc.slice (Option.some.inj hso))
    · cases hso
  have hb : ∀ (o : Option Operand) d k,tbnd (o.map (tev s.tm)) d = some k → bnd (o.map (ev tm)) d = some k ∧ (∀ y ∈ o,isClean (ev tm y) = true):=by
    intro o d k hk
    refine ⟨tbnd_sound (Fz:=Fz) (h:=h) (L:=L) (fun p hp=>?_) (fun hn=>?_) hk,fun y hy=>?_⟩
    · cases o with
      | none=>cases hp
      | some y=>obtain rfl:=Option.some.inj hp;exact ⟨_,rfl,tev_vl hs.tmr y⟩
    · cases o with
      | none=>rfl
      | some y=>cases hn
    · obtain rfl:=hy
      simp only [Option.map_some] at hk
      have hv:=tev_vl hs.tmr y
      unfold tbnd at hk
      split at hk
      · rename_i e;cases e
      · rename_i _ kk i e
        obtain e:=Option.some.inj e
        rw [e] at hv
        rw [hv.bool_inv]
        rfl
      · cases hk
  obtain ⟨hl',cl1⟩:=hb lo _ _ hl
  obtain ⟨hk',cl2⟩:=hb hi _ _ hk
  have nopop : isClean (ev tm x) = false → Rex.pop P (ev tm) { dst:=dst,op:=.slice t x lo hi none,type:=ty,pos:=pos,after:=aft,guard:=gd } = none:=by
    intro hcl
    have e0 : Rex.pop P (ev tm) { dst:=dst,op:=.slice t x lo hi none,type:=ty,pos:=pos,after:=aft,guard:=gd } = genP P (ev tm) { dst:=dst,op:=.slice t x lo hi none,type:=ty,pos:=pos,after:=aft,guard:=gd }:=rfl
    rw [e0]
    unfold genP
    simp only
    rw [if_neg]
    simp [Op.operands,hcl]
  have act : ∀ v, isClean (ev tm x) = false → sliceV P t (ev tm x) (lo.map (ev tm)) (hi.map (ev tm)) h = some v → VL Fz h L (.list es ((rows.drop l).take (k - l))) v → (∃ v, Rex.pop P (ev tm) { dst := dst, op := .slice t x lo hi none, type := ty, pos := pos, after := aft, guard := gd } = some v ∧ ∃ Fz' L', Grow h0 Fz Fz' h h ∧ St h0 Fz' L' ⟨tput s.tm dst (.list es ((rows.drop l).take (k - l))), s.hp⟩ (putL tm dst v) h) ∨
      Rex.pop P (ev tm) { dst:=dst,op:=.slice t x lo hi none,type:=ty,pos:=pos,after:=aft,guard:=gd } = none ∧ ∃ v h1,xop C P (ev tm) { dst:=dst,op:=.slice t x lo hi none,type:=ty,pos:=pos,after:=aft,guard:=gd } h = some (v,h1,none) ∧ Ext h h1 ∧ ∃ Fz' L',Grow h0 Fz Fz' h h1 ∧ St h0 Fz' L' ⟨tput s.tm dst (.list es ((rows.drop l).take (k - l))),s.hp⟩ (putL tm dst v) h1:=by
    intro v hcl hv hvl
    exact .inr ⟨nopop hcl,v,h,by simp only [xop,hop,hv,Option.map_some],Ext.refl h,Fz,L,Grow.refl _ _,hs.put dst hvl⟩
  generalize hex : ev tm x = vx at *
  cases hvx with
  | nillist =>
    have hk0 : k = 0:=by simpa using hkr
    subst hk0
    obtain rfl : l = 0:=by omega
    left
    refine ⟨.slice none 0 0,?_,Fz,L,Grow.refl _ _,hs.put dst (by simpa using VL.nillist (Fz:=Fz) (h:=h) L es)⟩
    have e0 : Rex.pop P (ev tm) { dst:=dst,op:=.slice t x lo hi none,type:=ty,pos:=pos,after:=aft,guard:=gd } = genP P (ev tm) { dst:=dst,op:=.slice t x lo hi none,type:=ty,pos:=pos,after:=aft,guard:=gd }:=rfl
    rw [e0]
    unfold genP
    simp only
    have hall : (Op.slice t x lo hi none).operands.toList.all (fun x=>isClean (ev tm x)) = true:=by
      rw [List.all_eq_true]
      intro y hy
      simp only [Op.operands] at hy
      have hy' : y = x ∨ y ∈ lo ∨ y ∈ hi:=by
        cases lo<;>cases hi<;>simp at hy ⊢<;>first|exact hy|(rcases hy with rfl|rfl|rfl<;>simp)|(rcases hy with rfl|rfl<;>simp)
      rcases hy' with rfl|hy'|hy'
      · rw [hex];rfl
      · exact cl1 y hy'
      · exact cl2 y hy'
    rw [if_pos hall]
    have hrun : prun P (Instr.sliceAt t (.slice none 0 0) (lo.map (ev tm)) (hi.map (ev tm)) none) = some (.slice none 0 0):=by
      have b1 : ∀ (y : Option Operand) (code : BoundsCode),bnd (y.map (ev tm)) 0 = some 0 → prun P (match y.map (ev tm) with|some v=>Instr.sliceBound v 0 code|none=>pure 0 : Sem Nat) = some 0:=by
        intro y code hy
        cases y with
        | none=>rfl
        | some y =>
          simp only [Option.map_some] at hy ⊢
          generalize ev tm y = q at *
          unfold bnd at hy
          split at hy
          · rename_i e;cases e
          · rename_i _ kk i e
            obtain rfl:=Option.some.inj e
            split at hy
            · rename_i h0'
              have hi0 : i.toNat = 0:=by simpa using hy
              have : i = 0:=by omega
              subst this
              rfl
            · cases hy
          · cases hy
      have hsb : prun P (Instr.sliceBounds true 0 0 (lo.map (ev tm)) (hi.map (ev tm)) none) = some (0,0,0):=by
        have q1:=fun code=>b1 lo code hl'
        have q2:=fun code=>b1 hi code hk'
        unfold Instr.sliceBounds
        cases hi with
        | none =>
          cases lo with
          | none=>rfl
          | some y =>
            simp only [Option.map_some,Option.map_none] at q1 ⊢
            show prun P (Instr.sliceBound (ev tm y) 0 _ >>= fun l=>pure (l,0,0)) = _
            rw [prun_bind,q1]
            rfl
        | some z =>
          simp only [Option.map_some] at q2 ⊢
          cases lo with
          | none =>
            show prun P (Instr.sliceBound (ev tm z) 0 _ >>= fun h=>pure (0,h,0)) = _
            rw [prun_bind,q2]
            rfl
          | some y =>
            simp only [Option.map_some] at q1 ⊢
            show prun P (Instr.sliceBound (ev tm z) 0 _ >>= fun h=>Instr.sliceBound (ev tm y) h _ >>= fun l=>pure (l,h,0)) = _
            rw [prun_bind,q2,Option.bind_some,prun_bind,q1]
            rfl
      have hsz : prun P (sizeOf e) = some (P.cellsOf e):=by
        unfold okT at hok
        cases hi' : P.info? e with
        | none=>rw [hi'] at hok;cases hok
        | some i =>
          have h1 : prun P (typeInfo e) = some i:=by
            unfold typeInfo
            rw [prun_bind]
            show prun P (match P.info? e with | some i => pure i | none => stuck "no such type") = some i
            rw [hi']
            rfl
          show prun P (typeInfo e >>= fun i=>pure i.size) = _
          rw [prun_bind,h1]
          simp [prun,Program.cellsOf,hi',pure]
      show prun P (underlying t >>= fun d=>_) = _
      rw [prun_bind,prun_under hu,Option.bind_some]
      show prun P (Instr.slice t (.slice none 0 0) (lo.map (ev tm)) (hi.map (ev tm)) none) = _
      show prun P (underlying t >>= fun d=>_) = _
      rw [prun_bind,prun_under hu,Option.bind_some]
      show prun P (Instr.sliceBounds true 0 0 (lo.map (ev tm)) (hi.map (ev tm)) none >>= fun q=>_) = _
      rw [prun_bind,hsb,Option.bind_some]
      show prun P (sizeOf e >>= fun q=>_) = _
      rw [prun_bind,hsz,Option.bind_some]
      rfl
    have hrun' : prun P (execOp (ev tm) { dst:=dst,op:=.slice t x lo hi none,type:=ty,pos:=pos,after:=aft,guard:=gd }) = some (.value (.slice none 0 0)):=by
      show prun P (Instr.sliceAt t (ev tm x) (lo.map (ev tm)) (hi.map (ev tm)) none >>= fun v=>pure (Next.value v)) = _
      rw [prun_bind,hex,hrun]
      rfl
    rw [hrun']
    rfl
  | vague =>
    have hk0 : k = 0:=by simpa using hkr
    subst hk0
    obtain rfl : l = 0:=by omega
    refine act vag rfl ?_ (by simpa using VL.vague (Fz:=Fz) (h:=h) L es)
    have hk2 : bnd (hi.map (ev tm)) 0 = some 0:=hk'
    have hok' : (P.info? e).isSome = true:=hok
    simp only [vag,sliceV,hu,hl',hk2,hok',if_true]
  | list _ _ _ n o c cs eb hn hb' he hw hcc hle ha =>
    by_cases hlc : l = 0 ∨ l < c
    · refine act (.slice (some ⟨n,o + l * es,none⟩) (k - l) (c - l)) rfl ?_ (VL.part hn hb' he hw hle ha l (k - l) (by omega) (by omega))
      simp only [sliceV,hu,hb',hl',hk',hes]
      rw [if_pos ⟨he,hok,hlk,by omega,hlc⟩]
    · have e1 : k - l = 0:=by omega
      refine act vag rfl ?_ (by rw [e1];simpa using VL.vague (Fz:=Fz) (h:=h) L es)
      simp only [sliceV,hu,hb',hl',hk',hes]
      rw [if_neg (by omega),if_pos ⟨he,hok,hlk,by omega,by omega⟩]

end
end Go.Rex

namespace Go.Rex
open Go.RowKit
section
variable {C : Ctx} {P : Program} {ops : Array Oper} {rest : List Oper} {tm tm2 : List TV} {hp hp2 : List TB} {Q : TS → Prop} {o : Oper}
variable {dst : Option Tmp} {ty : TypeId} {pos : String} {aft : Array Edge} {gd : Option (Nat × Bool)} {p q : TV} {ms : List Nat} {i : Nat} {np : List Nat} {c : Nat}
theorem stV {t : TypeId} {a x : Operand} {n ob : Nat} {row row2 l : List TV} (ha : tev tm a = .lptr n 0 ob) (hx : tev tm x = p) (hj : isJunk p = false) (hl : tcells p = l) (hb : hp[n]? = some (.var row)) (ht : okT P t = true) (hlen : l.length = P.cellsOf t) (hone : l.all tone = true) (hfit : Nat.ble (ob + l.length) row.length = true) (hv : tsplice row ob l = row2) :
    OpW C P { dst:=none,op:=.store t a x,type:=ty,pos:=pos,after:=aft,guard:=gd } ⟨tm,hp⟩ ⟨tm,hp.set n (.var row2)⟩:=by
  subst hl hv
  refine OpW.store (s:=⟨tm,hp⟩) ?_
  rw [show tev (TS.mk tm hp).tm a = _ from ha,show tev (TS.mk tm hp).tm x = p from hx]
  simp only [tstore]
  rw [if_pos ⟨hj,ht,hlen,hone⟩,hb]
  simp only
  rw [if_pos ⟨trivial,Nat.le_of_ble_eq_true hfit⟩]
theorem stR {α : Type} {f : α → List TV} {xs : List α} {y : α} {u : α} {t : TypeId} {a x : Operand} {n r ob es : Nat} {l : List TV} (ha : tev tm a = .lptr n r ob) (hx : tev tm x = p) (hj : isJunk p = false) (hl : tcells p = l) (hb : hp[n]? = some (.rows es (xs.map f))) (hr : xs[r]? = some u) (ht : okT P t = true) (hlen : l.length = P.cellsOf t) (hone : l.all tone = true)
    (hlf : l.all (lf 4) = true) (hfit : Nat.ble (ob + l.length) (f u).length = true) (hv : tsplice (f u) ob l = f y) :
    OpW C P { dst:=none,op:=.store t a x,type:=ty,pos:=pos,after:=aft,guard:=gd } ⟨tm,hp⟩ ⟨tm,hp.set n (.rows es ((xs.set r y).map f))⟩:=by
  subst hl
  refine OpW.store (s:=⟨tm,hp⟩) ?_
  rw [show tev (TS.mk tm hp).tm a = _ from ha,show tev (TS.mk tm hp).tm x = p from hx]
  simp only [tstore]
  rw [if_pos ⟨hj,ht,hlen,hone⟩,hb]
  simp only [List.getElem?_map,hr,Option.map_some]
  rw [if_pos ⟨Nat.le_of_ble_eq_true hfit,hlf⟩,hv,List.map_set]
theorem TO.sv {t : TypeId} {a x : Operand} {n ob : Nat} {row row2 l : List TV} (hw : twant ops tm { dst := none, op := .store t a x, type := ty, pos := pos, after := aft, guard := gd } = some true) (ha : tev tm a = .lptr n 0 ob) (hx : tev tm x = p) (hj : isJunk p = false) (hl : tcells p = l) (hb : hp[n]? = some (.var row)) (ht : okT P t = true) (hlen : l.length = P.cellsOf t) (hone : l.all tone = true) (hfit : Nat.ble (ob + l.length) row.length = true) (hv : tsplice row ob l = row2)
    (hh2 : hp.set n (.var row2) = hp2) (hq : TO C P ops rest ⟨tm,hp2⟩ Q) : TO C P ops ({ dst:=none,op:=.store t a x,type:=ty,pos:=pos,after:=aft,guard:=gd } :: rest) ⟨tm,hp⟩ Q:=by
  subst hh2;exact TO.w hw (stV ha hx hj hl hb ht hlen hone hfit hv) hq
theorem TD.sv {t : TypeId} {a x : Operand} {n ob : Nat} {row row2 l : List TV} (hw : twant ops tm { dst := none, op := .store t a x, type := ty, pos := pos, after := aft, guard := gd } = some true) (ha : tev tm a = .lptr n 0 ob) (hx : tev tm x = p) (hj : isJunk p = false) (hl : tcells p = l) (hb : hp[n]? = some (.var row)) (ht : okT P t = true) (hlen : l.length = P.cellsOf t) (hone : l.all tone = true) (hfit : Nat.ble (ob + l.length) row.length = true) (hv : tsplice row ob l = row2)
    (hnp : okW ops ms i ⟨tm,hp⟩ n np = true) (hh2 : hp.set n (.var row2) = hp2) (hq : TD C P ops ms rest (i + 1) (i :: np) 1 ⟨tm,hp2⟩ Q) : TD C P ops ms ({ dst:=none,op:=.store t a x,type:=ty,pos:=pos,after:=aft,guard:=gd } :: rest) i np c ⟨tm,hp⟩ Q:=by
  subst hh2;exact TD.wF (s:=⟨tm,hp⟩) hw ha (stV ha hx hj hl hb ht hlen hone hfit hv) hnp hq
theorem TO.sr {α : Type} (f : α → List TV) (xs : List α) (u y : α) {t : TypeId} {a x : Operand} {n r ob es : Nat} {l : List TV} (hr : xs[r]? = some u) (hw : twant ops tm { dst := none, op := .store t a x, type := ty, pos := pos, after := aft, guard := gd } = some true) (ha : tev tm a = .lptr n r ob) (hx : tev tm x = p) (hj : isJunk p = false) (hl : tcells p = l) (hb : hp[n]? = some (.rows es (xs.map f))) (ht : okT P t = true) (hlen : l.length = P.cellsOf t) (hone : l.all tone = true)
    (hlf : l.all (lf 4) = true) (hfit : Nat.ble (ob + l.length) (f u).length = true) (hv : tsplice (f u) ob l = f y) (hh2 : hp.set n (.rows es ((xs.set r y).map f)) = hp2) (hq : TO C P ops rest ⟨tm,hp2⟩ Q) : TO C P ops ({ dst:=none,op:=.store t a x,type:=ty,pos:=pos,after:=aft,guard:=gd } :: rest) ⟨tm,hp⟩ Q:=by
  subst hh2;exact TO.w hw (stR ha hx hj hl hb hr ht hlen hone hlf hfit hv) hq
theorem TD.sr {α : Type} (f : α → List TV) (xs : List α) (u y : α) {t : TypeId} {a x : Operand} {n r ob es : Nat} {l : List TV} (hr : xs[r]? = some u) (hw : twant ops tm { dst := none, op := .store t a x, type := ty, pos := pos, after := aft, guard := gd } = some true) (ha : tev tm a = .lptr n r ob) (hx : tev tm x = p) (hj : isJunk p = false) (hl : tcells p = l) (hb : hp[n]? = some (.rows es (xs.map f))) (ht : okT P t = true) (hlen : l.length = P.cellsOf t) (hone : l.all tone = true)
    (hlf : l.all (lf 4) = true) (hfit : Nat.ble (ob + l.length) (f u).length = true) (hv : tsplice (f u) ob l = f y) (hnp : okW ops ms i ⟨tm,hp⟩ n np = true) (hh2 : hp.set n (.rows es ((xs.set r y).map f)) = hp2) (hq : TD C P ops ms rest (i + 1) (i :: np) 1 ⟨tm,hp2⟩ Q) : TD C P ops ms ({ dst:=none,op:=.store t a x,type:=ty,pos:=pos,after:=aft,guard:=gd } :: rest) i np c ⟨tm,hp⟩ Q:=by
  subst hh2;exact TD.wF (s:=⟨tm,hp⟩) hw ha (stR ha hx hj hl hb hr ht hlen hone hlf hfit hv) hnp hq
end
section
variable {C : Ctx} {P : Program} {ops : Array Oper} {rest : List Oper} {tm tm2 : List TV} {hp hp2 : List TB} {Q : TS → Prop} {o : Oper}
variable {dst : Option Tmp} {ty : TypeId} {pos : String} {aft : Array Edge} {gd : Option (Nat × Bool)} {p q : TV} {ms : List Nat} {i : Nat} {np : List Nat} {c : Nat}
/-! ### arrays at any index -/
end
/-- what slots and operands are -/
theorem z1 : (∀ tm t, tev tm (.tmp t) = tnth tm t) ∧ (∀ tm k n, tev tm (.const (.int k n)) = .v (.int k n)) ∧ (∀ tm b, tev tm (.const (.bool b)) = .v (.bool b)) ∧ (∀ tm s, tev tm (.const (.string s)) = .v (.string s)) ∧ (∀ tm k b, tev tm (.const (.float k b)) = .v (.float k b)) ∧
    (∀ tm k a b,tev tm (.const (.complex k a b)) = .v (.complex k a b)) ∧ (∀ tm,tev tm (.const (.slice none 0 0)) = .v (.slice none 0 0)) ∧ (∀ tm,tev tm (.const .nilFunc) = .v .nilFunc) ∧ (∀ tm,tev tm (.const .nilIface) = .v .nilIface) ∧ (∀ tm,tev tm (.const (.pointer none)) = .v (.pointer none)) ∧
    (∀ tm f,tev tm (.func f) = .func f [] []) ∧ (∀ a l,tnth (a :: l) 0 = a) ∧ (∀ a l n,tnth (a :: l) (n + 1) = tnth l n) ∧ (∀ tm p,tput tm none p = tm) ∧ (∀ tm d p,tput tm (some d) p = tm.set d p) :=
  ⟨fun _ _=>rfl,fun _ _ _=>rfl,fun _ _=>rfl,fun _ _=>rfl,fun _ _ _=>rfl,fun _ _ _ _=>rfl,fun _=>rfl,fun _=>rfl,fun _=>rfl,fun _=>rfl,fun _ _=>rfl,fun _ _=>rfl,fun _ _ _=>rfl,fun _ _=>rfl,fun _ _ _=>rfl⟩
/-- operators on integers -/
theorem z2 : (∀ k a b, fastBin .add (.int k a) (.int k b) = some (.int k (k.wrap (a + b)))) ∧ (∀ k a b, fastBin .sub (.int k a) (.int k b) = some (.int k (k.wrap (a - b)))) ∧ (∀ k a b, fastBin .mul (.int k a) (.int k b) = some (.int k (k.wrap (a * b)))) ∧
    (∀ k a b,fastBin .lss (.int k a) (.int k b) = some (.bool (decide (a < b)))) ∧ (∀ k a b,fastBin .leq (.int k a) (.int k b) = some (.bool (decide (a ≤ b)))) ∧ (∀ k a b,fastBin .gtr (.int k a) (.int k b) = some (.bool (decide (a > b)))) ∧ (∀ k a b,fastBin .geq (.int k a) (.int k b) = some (.bool (decide (a ≥ b)))) ∧
    (∀ k a b,fastBin .eql (.int k a) (.int k b) = some (.bool (decide (a = b)))) ∧ (∀ k a b,fastBin .neq (.int k a) (.int k b) = some (.bool (decide (a ≠ b)))) ∧ (∀ k a b,fastBin .quo (.int k a) (.int k b) = if b = 0 then none else some (.int k (k.wrap (a.tdiv b)))) ∧ (∀ k a b,fastBin .rem (.int k a) (.int k b) = if b = 0 then none else some (.int k (a.tmod b))):=by
  refine ⟨?_,?_,?_,?_,?_,?_,?_,?_,?_,?_,?_⟩<;>(intro k a b;simp only [fastBin,if_true])
end Go.Rex

namespace Go.Rex
open Go.RowKit
section
variable {C : Ctx} {P : Program} {ops : Array Oper} {rest : List Oper} {tm tm2 : List TV} {hp hp2 : List TB} {Q : TS → Prop} {o : Oper}
variable {dst : Option Tmp} {ty : TypeId} {pos : String} {aft : Array Edge} {gd : Option (Nat × Bool)} {p q : TV} {ms : List Nat} {i : Nat} {np : List Nat} {c : Nat}
theorem TO.here {l : List Oper} {s : TS} (h : TO C P ops l s Q) : TO C P ops l s Q:=h
theorem TD.here {l : List Oper} {s : TS} (h : TD C P ops ms l i np c s Q) : TD C P ops ms l i np c s Q:=h
theorem TO.vt {α : Type} (f : α → List TV) (t es : Nat) {l : List Oper} (ht : tnth tm t = .v (.slice none 0 0)) (h1 : tm.set t (.lsl hp.length 0 ([] : List α).length) = tm2) (h2 : hp ++ [.rows es (([] : List α).map f)] = hp2) (hq : TO C P ops l ⟨tm2,hp2⟩ Q) : TO C P ops l ⟨tm,hp⟩ Q:=by
  subst h1 h2
  exact TO.weak (Wk.nil t es ht) hq
theorem TD.vt {α : Type} (f : α → List TV) (t es : Nat) {l : List Oper} (ht : tnth tm t = .v (.slice none 0 0)) (h1 : tm.set t (.lsl hp.length 0 ([] : List α).length) = tm2) (h2 : hp ++ [.rows es (([] : List α).map f)] = hp2) (hcb : Nat.ble c 1 = true) (hq : TD C P ops ms l i np c ⟨tm2,hp2⟩ Q) : TD C P ops ms l i np c ⟨tm,hp⟩ Q:=by
  subst h1 h2
  exact TD.weak hcb (Wk.nil t es ht) hq
/-- a row of zeros -/
theorem mkG {α : Type} {f : α → List TV} {z0 : α} {xs : List α} {t e : TypeId} {x y : Operand} {k k' : IntKind} {n : Int} {z : List Value} {es by' : Nat} (hm : mkI by' n z0 = some xs) (hx : tev tm x = .v (.int k n)) (hy : tev tm y = .v (.int k' n)) (hs : sliceOf P t = some e) (hz : zeroC P e = some z) (hb : bytesT P e = by') (hne : z.length = es) (he : Nat.ble 1 es = true) (hf : z.map .v = f z0) :
    OpG C P { dst:=dst,op:=.makeSlice t x y,type:=ty,pos:=pos,after:=aft,guard:=gd } ⟨tm,hp⟩ ⟨tput tm dst (.lsl hp.length 0 xs.length),hp ++ [.rows es (xs.map f)]⟩:=by
  unfold mkI at hm
  split at hm
  · rename_i hc
    obtain rfl:=Option.some.inj hm
    have:=OpG.makeSlice (C:=C) (P:=P) (s:=⟨tm,hp⟩) (dst:=dst) (ty:=ty) (pos:=pos) (aft:=aft) (gd:=gd) (t:=t) (l:=x) (c:=y) (n:=n.toNat) (z:=z) (by
      rw [show tev (TS.mk tm hp).tm x = _ from hx,show tev (TS.mk tm hp).tm y = _ from hy]
      simp only [tmake,hs,hz,hb]
      rw [if_pos ⟨trivial,hc.1,hc.2.1,hc.2.2,fun h=>by rw [h] at hne;simp at hne;subst hne;simp [Nat.ble] at he⟩])
    rw [hne,hf] at this
    simpa using this
  · cases hm
theorem TO.mk {α : Type} (f : α → List TV) {z0 : α} {xs : List α} {t e : TypeId} {x y : Operand} {k k' : IntKind} {n : Int} {z : List Value} {es by' : Nat} (hm : mkI by' n z0 = some xs) (hw : twant ops tm { dst := dst, op := .makeSlice t x y, type := ty, pos := pos, after := aft, guard := gd } = some true) (hx : tev tm x = .v (.int k n)) (hy : tev tm y = .v (.int k' n)) (hs : sliceOf P t = some e) (hz : zeroC P e = some z) (hb : bytesT P e = by') (hne : z.length = es) (he : Nat.ble 1 es = true) (hf : z.map .v = f z0)
    (ht : tput tm dst (.lsl hp.length 0 xs.length) = tm2) (hh2 : hp ++ [.rows es (xs.map f)] = hp2) (hq : TO C P ops rest ⟨tm2,hp2⟩ Q) : TO C P ops ({ dst:=dst,op:=.makeSlice t x y,type:=ty,pos:=pos,after:=aft,guard:=gd } :: rest) ⟨tm,hp⟩ Q:=by
  subst ht hh2;exact TO.g hw (mkG hm hx hy hs hz hb hne he hf) hq
theorem TD.mk {α : Type} (f : α → List TV) {z0 : α} {xs : List α} {t e : TypeId} {x y : Operand} {k k' : IntKind} {n : Int} {z : List Value} {es by' : Nat} (hm : mkI by' n z0 = some xs) (hw : twant ops tm { dst := dst, op := .makeSlice t x y, type := ty, pos := pos, after := aft, guard := gd } = some true) (hx : tev tm x = .v (.int k n)) (hy : tev tm y = .v (.int k' n)) (hs : sliceOf P t = some e) (hz : zeroC P e = some z) (hb : bytesT P e = by') (hne : z.length = es) (he : Nat.ble 1 es = true) (hf : z.map .v = f z0)
    (ht : tput tm dst (.lsl hp.length 0 xs.length) = tm2) (hh2 : hp ++ [.rows es (xs.map f)] = hp2) (hq : TD C P ops ms rest (i + 1) (i :: np) 0 ⟨tm2,hp2⟩ Q) : TD C P ops ms ({ dst:=dst,op:=.makeSlice t x y,type:=ty,pos:=pos,after:=aft,guard:=gd } :: rest) i np 0 ⟨tm,hp⟩ Q:=by
  subst ht hh2;exact TD.g hw (mkG hm hx hy hs hz hb hne he hf) hq
/-- a literal of one's own -/
theorem boG {α : Type} {f : α → List TV} {xs : List α} {t : TypeId} {n es : Nat} {ps : Array (Nat × Operand)} {l : List (Nat × TV)} {rows : List (List TV)} (hx : ps.toList.map (fun q => (q.1, tev tm q.2)) = l) (hv : tslice P t n l = some (es, rows)) (hr : rows = xs.map f) (hn : n = xs.length) :
    OpG C P { dst:=dst,op:=.buildSlice t n ps,type:=ty,pos:=pos,after:=aft,guard:=gd } ⟨tm,hp⟩ ⟨tput tm dst (.lsl hp.length 0 xs.length),hp ++ [.rows es (xs.map f)]⟩:=by
  subst hr hn
  exact OpG.buildOwn (s:=⟨tm,hp⟩) (by simp only [hx];exact hv)
theorem TO.bl {α : Type} (f : α → List TV) (xs : List α) {t : TypeId} {n es : Nat} {ps : Array (Nat × Operand)} {l : List (Nat × TV)} {rows : List (List TV)} (hw : twant ops tm { dst := dst, op := .buildSlice t n ps, type := ty, pos := pos, after := aft, guard := gd } = some true) (hx : ps.toList.map (fun q => (q.1, tev tm q.2)) = l) (hv : tslice P t n l = some (es, rows)) (hr : rows = xs.map f) (hn : n = xs.length)
    (ht : tput tm dst (.lsl hp.length 0 xs.length) = tm2) (hh2 : hp ++ [.rows es (xs.map f)] = hp2) (hq : TO C P ops rest ⟨tm2,hp2⟩ Q) : TO C P ops ({ dst:=dst,op:=.buildSlice t n ps,type:=ty,pos:=pos,after:=aft,guard:=gd } :: rest) ⟨tm,hp⟩ Q:=by
  subst ht hh2;exact TO.g hw (boG hx hv hr hn) hq
theorem TD.bl {α : Type} (f : α → List TV) (xs : List α) {t : TypeId} {n es : Nat} {ps : Array (Nat × Operand)} {l : List (Nat × TV)} {rows : List (List TV)} (hw : twant ops tm { dst := dst, op := .buildSlice t n ps, type := ty, pos := pos, after := aft, guard := gd } = some true) (hx : ps.toList.map (fun q => (q.1, tev tm q.2)) = l) (hv : tslice P t n l = some (es, rows)) (hr : rows = xs.map f) (hn : n = xs.length)
    (ht : tput tm dst (.lsl hp.length 0 xs.length) = tm2) (hh2 : hp ++ [.rows es (xs.map f)] = hp2) (hq : TD C P ops ms rest (i + 1) (i :: np) 0 ⟨tm2,hp2⟩ Q) : TD C P ops ms ({ dst:=dst,op:=.buildSlice t n ps,type:=ty,pos:=pos,after:=aft,guard:=gd } :: rest) i np 0 ⟨tm,hp⟩ Q:=by
  subst ht hh2;exact TD.g hw (boG hx hv hr hn) hq
/-- a part of a list -/
theorem sbG {α : Type} {f : α → List TV} {xs ys : List α} {t e : TypeId} {x : Operand} {lo hi : Option Operand} {ql qh : Option TV} {es : Nat} {l k : Int} (hs : subI xs l k = some ys) (hx : tev tm x = .list es (xs.map f)) (hl : lo.map (tev tm) = ql) (hh : hi.map (tev tm) = qh) (hso : sliceOf P t = some e) (ho : okT P e = true) (hes : P.cellsOf e = es)
    (hl' : (ql = none ∧ l = 0) ∨ ∃ k',ql = some (.v (.int k' l))) (hh' : (qh = none ∧ k = xs.length) ∨ ∃ k',qh = some (.v (.int k' k))) :
    OpM C P { dst:=dst,op:=.slice t x lo hi none,type:=ty,pos:=pos,after:=aft,guard:=gd } ⟨tm,hp⟩ ⟨tput tm dst (.list es (ys.map f)),hp⟩:=by
  unfold subI at hs
  split at hs
  · rename_i hc
    obtain rfl:=Option.some.inj hs
    obtain ⟨c1,c2,c3⟩:=hc
    have b1 : tbnd ql 0 = some l.toNat:=by
      rcases hl' with ⟨rfl,rfl⟩|⟨k',rfl⟩
      · rfl
      · simp only [tbnd];rw [if_pos c1]
    have b2 : tbnd qh (xs.map f).length = some k.toNat:=by
      rcases hh' with ⟨rfl,rfl⟩|⟨k',rfl⟩
      · simp [tbnd]
      · simp only [tbnd];rw [if_pos (by omega)]
    have:=OpM.slice (C:=C) (s:=⟨tm,hp⟩) (dst:=dst) (ty:=ty) (pos:=pos) (aft:=aft) (gd:=gd) (lo:=lo) (hi:=hi) (l:=l.toNat) (k:=k.toNat) hso ho hes hx (by rw [show lo.map (tev (TS.mk tm hp).tm) = ql from hl];exact b1) (by rw [show hi.map (tev (TS.mk tm hp).tm) = qh from hh];exact b2) (by omega) (by simp;omega)
    rw [← List.map_drop,← List.map_take] at this
    exact this
  · cases hs
theorem TO.sb {α : Type} (f : α → List TV) {xs ys : List α} {t e : TypeId} {x : Operand} {lo hi : Option Operand} {ql qh : Option TV} {es : Nat} {l k : Int} (hs : subI xs l k = some ys) (hw : twant ops tm { dst := dst, op := .slice t x lo hi none, type := ty, pos := pos, after := aft, guard := gd } = some true) (hx : tev tm x = .list es (xs.map f)) (hl : lo.map (tev tm) = ql) (hh : hi.map (tev tm) = qh) (hso : sliceOf P t = some e) (ho : okT P e = true) (hes : P.cellsOf e = es)
    (hl' : (ql = none ∧ l = 0) ∨ ∃ k',ql = some (.v (.int k' l))) (hh' : (qh = none ∧ k = xs.length) ∨ ∃ k',qh = some (.v (.int k' k))) (ht : tput tm dst (.list es (ys.map f)) = tm2) (hq : TO C P ops rest ⟨tm2,hp⟩ Q) : TO C P ops ({ dst:=dst,op:=.slice t x lo hi none,type:=ty,pos:=pos,after:=aft,guard:=gd } :: rest) ⟨tm,hp⟩ Q:=by
  subst ht;exact TO.m hw (sbG hs hx hl hh hso ho hes hl' hh') hq
theorem TD.sb {α : Type} (f : α → List TV) {xs ys : List α} {t e : TypeId} {x : Operand} {lo hi : Option Operand} {ql qh : Option TV} {es : Nat} {l k : Int} (hs : subI xs l k = some ys) (hw : twant ops tm { dst := dst, op := .slice t x lo hi none, type := ty, pos := pos, after := aft, guard := gd } = some true) (hx : tev tm x = .list es (xs.map f)) (hl : lo.map (tev tm) = ql) (hh : hi.map (tev tm) = qh) (hso : sliceOf P t = some e) (ho : okT P e = true) (hes : P.cellsOf e = es)
    (hl' : (ql = none ∧ l = 0) ∨ ∃ k',ql = some (.v (.int k' l))) (hh' : (qh = none ∧ k = xs.length) ∨ ∃ k',qh = some (.v (.int k' k))) (ht : tput tm dst (.list es (ys.map f)) = tm2) (hq : TD C P ops ms rest (i + 1) (i :: np) 0 ⟨tm2,hp⟩ Q) : TD C P ops ms ({ dst:=dst,op:=.slice t x lo hi none,type:=ty,pos:=pos,after:=aft,guard:=gd } :: rest) i np 0 ⟨tm,hp⟩ Q:=by
  subst ht;exact TD.m hw (sbG hs hx hl hh hso ho hes hl' hh') hq
end
end Go.Rex

namespace Go.Rex
open Go.RowKit
theorem z3 : (∀ (α : Type) (a b : α) (l : List α), (a :: l).set 0 b = b :: l) ∧ (∀ (α : Type) (a b : α) (l : List α) (n : Nat), (a :: l).set (n + 1) b = a :: l.set n b) ∧ (∀ (α : Type) (a : α) (l : List α), (a :: l)[0]? = some a) ∧ (∀ (α : Type) (a : α) (l : List α) (n : Nat), (a :: l)[n + 1]? = l[n]?) ∧
    (∀ (α β : Type) (f : α → β) (a : α) (l : List α),(a :: l).map f = f a :: l.map f) ∧ (∀ (α β : Type) (f : α → β),([] : List α).map f = []) ∧ (∀ (α : Type) (a : α) (l m : List α),(a :: l) ++ m = a :: (l ++ m)) ∧ (∀ (α : Type) (l : List α),[] ++ l = l) ∧ (∀ (α : Type) (a : α) (l : List α),(a :: l).length = l.length + 1) ∧ (∀ (α : Type),([] : List α).length = 0) ∧
    (∀ (α : Type) (l : List α),l.drop 0 = l) ∧ (∀ (α : Type) (a : α) (l : List α) (n : Nat),(a :: l).drop (n + 1) = l.drop n) ∧ (∀ (α : Type) (n : Nat),([] : List α).drop n = []) ∧ (∀ (α : Type) (l : List α),l.take 0 = []) ∧ (∀ (α : Type) (a : α) (l : List α) (n : Nat),(a :: l).take (n + 1) = a :: l.take n) ∧ (∀ (α : Type) (n : Nat),([] : List α).take n = []) ∧
    (∀ (α β : Type) (f : α → β) (a : α),(some a).map f = some (f a)) ∧ (∀ (α β : Type) (f : α → β) (l : List α),(l.map f).length = l.length) :=
  ⟨fun _ _ _ _=>rfl,fun _ _ _ _ _=>rfl,fun _ _ _=>rfl,fun _ _ _ _=>rfl,fun _ _ _ _ _=>rfl,fun _ _ _=>rfl,fun _ _ _ _=>rfl,fun _ _=>rfl,fun _ _ _=>rfl,fun _=>rfl,fun _ _=>rfl,fun _ _ _ _=>rfl,fun _ n=>by cases n<;>rfl,fun _ _=>rfl,fun _ _ _ _=>rfl,fun _ n=>by cases n<;>rfl,fun _ _ _ _=>rfl,fun _ _ _ _=>List.length_map _⟩
theorem z4 : (∀ l, tcells (.agg l) = l) ∧ (∀ x, tcells (.v x) = [.v x]) ∧ (∀ a b, tcells (.list a b) = [.list a b]) ∧ (∀ a b c, tcells (.func a b c) = [.func a b c]) ∧ (∀ v a b, tcells (.fptr v a b) = [.fptr v a b]) ∧ (∀ a b c, tcells (.lptr a b c) = [.lptr a b c]) ∧ (∀ a b c, tcells (.lsl a b c) = [.lsl a b c]) ∧
    (∀ l,isJunk (.agg l) = false) ∧ (∀ x,isJunk (.v x) = false) ∧ (∀ a b,isJunk (.list a b) = false) ∧ (∀ a b c,isJunk (.func a b c) = false) ∧ (∀ v a b,isJunk (.fptr v a b) = false) ∧ (∀ a b c,isJunk (.lptr a b c) = false) ∧ (∀ a b c,isJunk (.lsl a b c) = false) ∧
    (∀ a b,tpick (.v (.bool true)) a b = some a) ∧ (∀ a b,tpick (.v (.bool false)) a b = some b) ∧ (∀ ops tm dst op ty pos aft,twant ops tm { dst:=dst,op:=op,type:=ty,pos:=pos,after:=aft,guard:=none } = some true) ∧ (∀ (c : List TV) o l,tsplice c o l = c.take o ++ l ++ c.drop (o + l.length)) ∧
    (∀ tm,tput tm none = fun _=>tm) :=
  ⟨fun _=>rfl,fun _=>rfl,fun _ _=>rfl,fun _ _ _=>rfl,fun _ _ _=>rfl,fun _ _ _=>rfl,fun _ _ _=>rfl,fun _=>rfl,fun _=>rfl,fun _ _=>rfl,fun _ _ _=>rfl,fun _ _ _=>rfl,fun _ _ _=>rfl,fun _ _ _=>rfl,fun _ _=>rfl,fun _ _=>rfl,fun _ _ _ _ _ _ _=>rfl,fun _ _ _=>rfl,fun _=>rfl⟩
end Go.Rex
namespace Go.Rex
theorem z5 : (∀ r,tidx r 0 = r[0]?) ∧ (∀ r,tidx r 1 = r[1]?) ∧ (∀ r,tidx r 2 = r[2]?) ∧ (∀ r,tidx r 3 = r[3]?) ∧ (∀ r,tidx r 4 = r[4]?) ∧ (∀ r,tidx r 5 = r[5]?) ∧ (∀ r,tidx r 6 = r[6]?) ∧ (∀ r,tidx r 7 = r[7]?) ∧ (∀ r,tidx r 8 = r[8]?) ∧ (∀ r,tidx r 9 = r[9]?):=by
  refine ⟨?_,?_,?_,?_,?_,?_,?_,?_,?_,?_⟩<;>(intro r;rfl)
example : (0 : Int) < ((2 : Nat) : Int):=by simp only [Int.cast_ofNat_Int,Int.reduceLT]
end Go.Rex
namespace Go.Rex
theorem tml {α β : Type} {f : α → β} {xs : List α} : (xs.map f).take xs.length = xs.map f:=List.take_of_length_le (by simp)
end Go.Rex

namespace Go.Rex
open Go.RowKit
section
variable {C : Ctx} {P : Program} {ops : Array Oper} {rest : List Oper} {tm tm2 : List TV} {hp hp2 : List TB} {Q : TS → Prop} {o : Oper}
variable {dst : Option Tmp} {ty : TypeId} {pos : String} {aft : Array Edge} {gd : Option (Nat × Bool)} {p q : TV} {ms : List Nat} {i : Nat} {np : List Nat} {c : Nat}
theorem TX.unroll {b : Code} {s : TS} {Q : Exit → TS → Prop} (hx : TX C P b s (seqT (fun s=>TX C P (.loop b) s Q) Q)) : TX C P (.loop b) s Q:=by
  intro h0 Fz L tm h hs
  obtain ⟨K,e,⟨tm',df'⟩,h',w1,h1,h2,hd,s',F',L',q,g,hs'⟩:=hx h0 Fz L tm h hs
  obtain rfl : df' = []:=hd
  cases e with
  | normal =>
    obtain ⟨K2,e2,a2,h2',w2,k1,k2,kd,s3,F3,L3,q3,g3,hs3⟩:=q h0 F' L' tm' h' hs'
    refine ⟨max K K2 + 1,e2,a2,h2',wmin w1 w2,?_,wge_min h2 k2,kd,s3,F3,L3,q3,g.trans g3,hs3⟩
    simp only [exec]
    rw [exec_le (Nat.le_max_left K K2) h1]
    simp only
    rw [exec_le (Nat.le_max_right K K2) k1]
    rfl
  | _=>exact ⟨K + 1,_,_,h',w1,by simp only [exec,h1],h2,rfl,s',F',L',q,g,hs'⟩
theorem TX.vt {α : Type} (f : α → List TV) (t es : Nat) {b : Code} {Q : Exit → TS → Prop} (ht : tnth tm t = .v (.slice none 0 0)) (h1 : tm.set t (.lsl hp.length 0 ([] : List α).length) = tm2) (h2 : hp ++ [.rows es (([] : List α).map f)] = hp2) (hq : TX C P b ⟨tm2,hp2⟩ Q) : TX C P b ⟨tm,hp⟩ Q:=by
  subst h1 h2
  exact TX.weak (Wk.nil t es ht) hq
theorem TX.here {b : Code} {s : TS} {Q : Exit → TS → Prop} (h : TX C P b s Q) : TX C P b s Q:=h
theorem tmlc {α β : Type} {f : α → β} {xs : List α} {n : Nat} (h : xs.length = n) : (xs.map f).take n = xs.map f:=by subst h;exact tml
/-! ### functions of the runtime -/
def extF (P : Program) (g : FuncId) : Option (Array Value → Sem Value) :=
  match P.funcs[g]? with
  | some fd => if fd.body.isNone = true ∧ (fd.name == "runtime.NumGoroutine") = false ∧ (Extern.findNext fd).isNone = true then Extern.find fd else none
  | none=>none
theorem extV_of {g : FuncId} {F : Array Value → Sem Value} {vals : List Value} {v : Value} (hF : extF P g = some F) (hc : vals.all isClean = true) (hv : prun P (F ⟨vals⟩) = some v) (hcv : isClean v = true) (h : List Blk) : goFn P g = false ∧ xslow P g vals h = some (v,h,none):=by
  unfold extF at hF
  split at hF
  · rename_i fd hfd
    split at hF
    · rename_i hcond
      obtain ⟨h1,h2,h3⟩:=hcond
      have hb : fd.body = none:=by simpa using h1
      refine ⟨by simp [goFn,hfd,hb],?_⟩
      have hcall : prun P (callFunc g ⟨vals⟩) = some (.value v):=by
        unfold callFunc
        rw [prun_bind]
        show prun P (match P.funcs[g]? with|none=>_|some fn=>_) = _
        rw [hfd]
        simp only [h2,Bool.false_eq_true,if_false,h1,if_true]
        have hn : Extern.findNext fd = none:=by simpa using h3
        rw [hn]
        rw [prun_bind]
        show prun P _ = _
        simp only [hF]
        show prun P (F ⟨vals⟩ >>= fun r=>(pure (Next.value r) : Sem Next)) = _
        rw [prun_bind,hv]
        rfl
      simp only [xslow,hfd,hb,extV,hc,if_true,hcall,hcv,Option.map_some]
    · cases hF
  · cases hF
theorem extG {fo : Operand} {g : FuncId} {args : Array Operand} {tys : Array TypeId} {F : Array Value → Sem Value} {l : List TV} {vals : List Value} {v : Value} (hf : tev tm fo = .func g [] []) (hF : extF P g = some F) (hl : args.toList.map (tev tm) = l) (he : l.mapM (er 3) = some vals) (hc : vals.all isClean = true) (hv : prun P (F ⟨vals⟩) = some v) (hcv : isClean v = true) (hi : injOk 3 v = true) (hp1 : inj 3 v = p) :
    OpG C P { dst:=dst,op:=.call { callee:=.value fo,args:=args,argTypes:=tys },type:=ty,pos:=pos,after:=aft,guard:=gd } ⟨tm,hp⟩ ⟨tput tm dst p,hp⟩:=by
  subst hp1
  intro h0 Fz L vm h hs
  have hfv:=tev_vl hs.tmr fo
  rw [show tev (TS.mk tm hp).tm fo = _ from hf] at hfv
  obtain ⟨f',c',hfe,vf,vc⟩ : ∃ f' c',ev vm fo = .func (.func g) ⟨f'⟩ ⟨c'⟩ ∧ VLs Fz h noL [] f' ∧ VLs Fz h noL [] c':=by
    generalize ev vm fo = y at *
    cases hfv with
    | func _ _ _ _ a' b' la ha lb hb=>exact ⟨a',b',rfl,⟨la,ha⟩,⟨lb,hb⟩⟩
  have hf0 : f' = []:=by have:=vf.len;simpa using this
  have hc0 : c' = []:=by have:=vc.len;simpa using this
  subst hf0 hc0
  have hargs:=args_vls hs.tmr args.toList
  rw [show args.toList.map (tev (TS.mk tm hp).tm) = l from hl] at hargs
  obtain ⟨q1,q2⟩:=mapM_some he
  have hve : args.toList.map (ev vm) = vals:=by
    apply List.ext_getElem?
    intro j
    cases hx : (args.toList.map (ev vm))[j]? with
    | none =>
      rw [List.getElem?_eq_none_iff] at hx
      rw [eq_comm,List.getElem?_eq_none_iff]
      have:=hargs.len
      omega
    | some x =>
      have hj:=(List.getElem?_eq_some_iff.1 hx).1
      have hll:=hargs.len
      have hp' : l[j]? = some l[j]:=List.getElem?_eq_getElem (by omega)
      have hy : vals[j]? = some vals[j]:=List.getElem?_eq_getElem (by omega)
      rw [hy,VL.er 3 (q2 j _ _ hp' hy) (hargs.at' j _ _ hp' hx)]
  obtain ⟨hg,hx⟩:=extV_of hF hc hv hcv h
  refine ⟨rfl,v,h,?_,Ext.refl h,Fz,L,Grow.refl _ _,hs.put dst (VL.inj 3 hi)⟩
  simp only [xop,hop,bhop]
  rw [xcall_eq]
  simp only [hfe]
  rw [if_neg (by rw [hg];exact Bool.false_ne_true)]
  simp only [List.nil_append,List.append_nil,hve]
  exact hx
theorem TO.ex {fo : Operand} {g : FuncId} {args : Array Operand} {tys : Array TypeId} {F : Array Value → Sem Value} {l : List TV} {vals : List Value} {v : Value} (hw : twant ops tm { dst := dst, op := .call { callee := .value fo, args := args, argTypes := tys }, type := ty, pos := pos, after := aft, guard := gd } = some true) (hf : tev tm fo = .func g [] []) (hF : extF P g = some F) (hl : args.toList.map (tev tm) = l) (he : l.mapM (er 3) = some vals) (hc : vals.all isClean = true) (hv : prun P (F ⟨vals⟩) = some v) (hcv : isClean v = true) (hi : injOk 3 v = true) (hp1 : inj 3 v = p)
    (ht : tput tm dst p = tm2) (hq : TO C P ops rest ⟨tm2,hp⟩ Q) : TO C P ops ({ dst:=dst,op:=.call { callee:=.value fo,args:=args,argTypes:=tys },type:=ty,pos:=pos,after:=aft,guard:=gd } :: rest) ⟨tm,hp⟩ Q:=by
  subst ht;exact TO.g hw (extG hf hF hl he hc hv hcv hi hp1) hq
theorem TD.ex {fo : Operand} {g : FuncId} {args : Array Operand} {tys : Array TypeId} {F : Array Value → Sem Value} {l : List TV} {vals : List Value} {v : Value} (hw : twant ops tm { dst := dst, op := .call { callee := .value fo, args := args, argTypes := tys }, type := ty, pos := pos, after := aft, guard := gd } = some true) (hf : tev tm fo = .func g [] []) (hF : extF P g = some F) (hl : args.toList.map (tev tm) = l) (he : l.mapM (er 3) = some vals) (hc : vals.all isClean = true) (hv : prun P (F ⟨vals⟩) = some v) (hcv : isClean v = true) (hi : injOk 3 v = true) (hp1 : inj 3 v = p)
    (ht : tput tm dst p = tm2) (hq : TD C P ops ms rest (i + 1) (i :: np) 0 ⟨tm2,hp⟩ Q) : TD C P ops ms ({ dst:=dst,op:=.call { callee:=.value fo,args:=args,argTypes:=tys },type:=ty,pos:=pos,after:=aft,guard:=gd } :: rest) i np 0 ⟨tm,hp⟩ Q:=by
  subst ht;exact TD.g hw (extG hf hF hl he hc hv hcv hi hp1) hq
/-! ### floats -/
variable {x y : Operand} {t u : TypeId}
end
end Go.Rex

namespace Go.Rex
open Go.RowKit
section
variable {P : Program} {tm : List TV} {hp : List TB}
variable {dst : Option Tmp} {ty : TypeId} {pos : String} {aft : Array Edge} {gd : Option (Nat × Bool)} {x y : Operand} {t u : TypeId}
/-! ### complex numbers -/
/-! ### structures that are equal -/
theorem prun_isAgg {g : Bool} (h : aggB P t = some g) : prun P (isAgg t) = some g:=by
  unfold aggB at h
  unfold isAgg
  rw [prun_bind]
  split at h
  · rename_i hu;rw [prun_under hu];exact h
  · rename_i hu;rw [prun_under hu];exact h
  · rename_i d h1 h2 hu
    rw [prun_under hu,Option.bind_some]
    obtain rfl:=Option.some.inj h
    split
    · exact absurd rfl (h1 _)
    · exact absurd rfl (h2 _ _)
    · rfl
  · cases h
theorem part_atom {cs : Array Value} {off : Nat} {v : Value} (h : aggB P t = some false) (hg : cs[off]? = some v) : prun P (part t cs off) = some v:=by
  unfold part
  rw [prun_bind,prun_isAgg h,Option.bind_some]
  simp only [Bool.false_eq_true,if_false,hg]
  rfl
theorem eq_int {d : Nat} {k : IntKind} {a b : Int} (ht : P.underlying t = some (.int k)) : prun P (Op.equalIn (d + 1) t (.int k a) (.int k b)) = some (a == b):=by
  unfold Op.equalIn
  rw [prun_bind,prun_under ht]
  simp
  rfl
/-- field by field -/
inductive EqF (P : Program) (d : Nat) (X Y : Array Value) : List Field → List Bool → Prop
  | nil : EqF P d X Y [] []
  | cons {f : Field} {fs : List Field} {b : Bool} {bs : List Bool} {u v : Value} (hn : f.name ≠ "_") (hu : prun P (part f.type X f.offset) = some u) (hv : prun P (part f.type Y f.offset) = some v) (he : prun P (Op.equalIn d f.type u v) = some b) (hr : EqF P d X Y fs bs) : EqF P d X Y (f :: fs) (b :: bs)
theorem eq_loop {d : Nat} {X Y : Array Value} : ∀ (fs : List Field) (bs : List Bool), EqF P d X Y fs bs →
    prun P (forIn fs ((none, ()) : Option Bool × Unit) fun f _ => if f.name ≠ "_" then do
      if !(← Op.equalIn d f.type (← part f.type X f.offset) (← part f.type Y f.offset)) then pure (.done (some false,())) else pure (.yield (none,()))
      else pure (.yield (none,()))) = some (if bs.all id then (none,()) else (some false,()))
  | [],[],.nil=>rfl
  | f :: fs,b :: bs,.cons hn hu hv he hr=>by
    rw [List.forIn_cons,prun_bind]
    simp only [hn,ne_eq,not_false_eq_true,if_true]
    rw [prun_bind,hu,Option.bind_some,prun_bind,hv,Option.bind_some,prun_bind,he,Option.bind_some]
    cases b with
    | false=>rfl
    | true =>
      simp only [Bool.not_true,Bool.false_eq_true,if_false,prun_pure,Option.bind_some,List.all_cons,id,Bool.true_and]
      exact eq_loop fs bs hr
theorem eq_struct {d : Nat} {fields : Array Field} {X Y : Array Value} {bs : List Bool} (ht : P.underlying t = some (.struct fields)) (hs : P.stoodInHeld t = false) (hf : EqF P d X Y fields.toList bs) : prun P (Op.equalIn (d + 1) t (.agg X) (.agg Y)) = some (bs.all id):=by
  unfold Op.equalIn
  rw [prun_bind,prun_under ht]
  simp only [Option.bind_some]
  rw [prun_bind,show prun P program = some P from rfl,Option.bind_some]
  simp only [hs,Bool.false_eq_true,if_false]
  have:=eq_loop fields.toList bs hf
  rw [prun_bind,← Array.forIn_toList,this,Option.bind_some]
  cases bs.all id<;>rfl
theorem eq_guard {b : BinOp} {X Y : Array Value} (hg : P.eqGuardType P.depth t = false) : prun P (eqGuard b t x y (.agg X) (.agg Y)) = some ():=by
  unfold eqGuard
  cases b<;>first|rfl|(simp only [Bool.not_true,Bool.false_eq_true,if_false];rw [prun_bind,show prun P program = some P from rfl,Option.bind_some,prun_bind,show prun P program = some P from rfl,Option.bind_some];simp only [hg,Bool.not_false,if_true];rfl)
theorem eq_top {a b : Value} {r : Bool} (h : prun P (Op.equalIn (9999 + 1) t a b) = some r) : prun P (Op.equal t a b) = some r:=h
theorem pop_eqs {b : BinOp} {p q : TV} {X Y : Array Value} {r : Bool} (h : tev tm x = p) (g : tev tm y = q) (hX : er 3 p = some (.agg X)) (hY : er 3 q = some (.agg Y)) (cX : isClean (.agg X) = true) (cY : isClean (.agg Y) = true) (hn : tbin b p q = none) (hg : P.eqGuardType P.depth t = false)
    (he : prun P (Op.equal t (.agg X) (.agg Y)) = some r) (hb : b = .eql ∨ b = .neq) :
    tpop P hp tm { dst:=dst,op:=.binOp b t x y u,type:=ty,pos:=pos,after:=aft,guard:=gd } = some (.v (.bool (if b = .eql then r else !r))):=by
  have ex : erased tm x = .agg X:=by unfold erased;rw [h,hX];rfl
  have ey : erased tm y = .agg Y:=by unfold erased;rw [g,hY];rfl
  have sx : (er 3 (tev tm x)).isSome = true:=by rw [h,hX];rfl
  have sy : (er 3 (tev tm y)).isSome = true:=by rw [g,hY];rfl
  have h1 : tgen P tm { dst:=dst,op:=.binOp b t x y u,type:=ty,pos:=pos,after:=aft,guard:=gd } = some (inj 3 (.bool (if b = .eql then r else !r))):=by
    refine tgen_run ?_ (fun cs b e=>by cases e) (by simpa [Op.operands] using ⟨sx,sy⟩) (by simpa [Op.operands,ex,ey] using ⟨cX,cY⟩) ?_ rfl rfl
    · simp only [Rex.pop,ex,ey]
      rcases hb with rfl|rfl<;>rfl
    · show prun P ((eqGuard b t x y (erased tm x) (erased tm y) >>= fun _=>binOp b t (erased tm x) (erased tm y)) >>= fun r=>(pure (Next.value r) : Sem Next)) = _
      rw [prun_bind,ex,ey,prun_bind,eq_guard hg,Option.bind_some]
      rcases hb with rfl|rfl
      · simp only [binOp,if_true]
        rw [prun_bind,he]
        rfl
      · simp only [binOp]
        rw [prun_bind,he]
        rfl
  simp only [tpop,h,g,hn,orT]
  exact h1
theorem pop_eqs1 {b : BinOp} {p q : TV} {X Y : Array Value} {r : Bool} (h : tev tm x = p) (g : tev tm y = q) (hX : er 3 p = some (.agg X)) (hY : er 3 q = some (.agg Y)) (cX : isClean (.agg X) = true) (cY : isClean (.agg Y) = true) (hn : tbin b p q = none) (hg : P.eqGuardType P.depth t = false)
    (he : prun P (Op.equal t (.agg X) (.agg Y)) = some r) (hb : b = .eql) :
    tpop P hp tm { dst:=dst,op:=.binOp b t x y u,type:=ty,pos:=pos,after:=aft,guard:=gd } = some (.v (.bool r)):=by
  subst hb
  exact pop_eqs h g hX hY cX cY hn hg he (.inl rfl)
theorem pop_eqs2 {b : BinOp} {p q : TV} {X Y : Array Value} {r : Bool} (h : tev tm x = p) (g : tev tm y = q) (hX : er 3 p = some (.agg X)) (hY : er 3 q = some (.agg Y)) (cX : isClean (.agg X) = true) (cY : isClean (.agg Y) = true) (hn : tbin b p q = none) (hg : P.eqGuardType P.depth t = false)
    (he : prun P (Op.equal t (.agg X) (.agg Y)) = some r) (hb : b = .neq) :
    tpop P hp tm { dst:=dst,op:=.binOp b t x y u,type:=ty,pos:=pos,after:=aft,guard:=gd } = some (.v (.bool (!r))):=by
  subst hb
  exact pop_eqs h g hX hY cX cY hn hg he (.inr rfl)
end
end Go.Rex

namespace Go.Rex
open Go.RowKit
/-! ### short names for the walks -/
class Mv (p : Prop) (q : outParam Prop) : Prop where
  mv : q → p
theorem mv {p q : Prop} [i : Mv p q] (h : q) : p:=i.mv h
section
variable {C : Ctx} {P : Program} {s : TS} {Q : Exit → TS → Prop} {next : TS → Prop}
instance {x y : Code} : Mv (TX C P (.seq x y) s Q) (TX C P x s (seqT (fun s=>TX C P y s Q) Q)):=⟨TX.seq⟩
instance {id : Nat} {b : Code} : Mv (TX C P (.block id b) s Q) (TX C P b s (blockT id Q)):=⟨TX.block⟩
instance : Mv (TX C P .skip s Q) (Q .normal s):=⟨TX.skip⟩
instance {id : Nat} : Mv (TX C P (.exit id) s Q) (Q (.exit id) s):=⟨TX.exit⟩
instance : Mv (TX C P .ret s Q) (Q .ret s):=⟨TX.ret⟩
instance : Mv (seqT next Q .normal s) (next s):=⟨seqT_n⟩
instance {id : Nat} : Mv (seqT next Q (.exit id) s) (Q (.exit id) s):=⟨seqT_e⟩
instance : Mv (seqT next Q .ret s) (Q .ret s):=⟨seqT_r⟩
instance {id : Nat} : Mv (blockT id Q .normal s) (Q .normal s):=⟨blockT_n⟩
instance {id : Nat} : Mv (blockT id Q .ret s) (Q .ret s):=⟨blockT_r⟩
instance {id : Nat} : Mv (blockT id Q (.exit id) s) (Q .normal s):=⟨blockT_e⟩
end
theorem k1 {a : Bool} (h : a = true) : a = true:=h
theorem k2 {a : Option Bool} (h : a = some true) : a = some true:=h
def an {p q : Prop}:=@And.intro p q
def z6:=And.intro @List.toList_toArray.{0} <| And.intro @ite_true.{1} <| And.intro @ite_false.{1} <| And.intro @true_and <| And.intro @and_true <| And.intro @and_self <| And.intro @Bool.false_eq_true <| And.intro @decide_true @decide_false
def z7:=And.intro @List.getElem?_toArray.{0} <| And.intro @List.getElem?_cons_succ.{0} <| And.intro @List.getElem?_cons_zero.{0} @Option.bind_some.{0,0}
def zz:=And.intro z1 <| And.intro z2 <| And.intro z3 <| And.intro z4 z6
theorem wr {tm tm' : List TV} {hp hp' : List TB} (fl : List (Option Nat)) (hok : renOk fl = true) (hB : RB fl hp hp' fl) (hT : RNs fl tm tm':=by (repeat (first|exact RNs.nil|refine RNs.cons .junk ?_|refine RNs.cons (.keep rfl rfl) ?_|refine RNs.cons (.lsl rfl rfl) ?_|refine RNs.cons (.lsl rfl (by simp only [List.length_set])) ?_|refine RNs.cons (.lptr rfl) ?_|refine RNs.cons (.nil rfl) ?_|refine RNs.cons .nl ?_|refine RNs.cons (.tuple' ?_) ?_|refine RNs.cons (.agg' ?_) ?_))) : Wk ⟨tm,hp⟩ ⟨tm',hp'⟩:=Wk.ren fl hok hB hT
theorem rv {fl : List (Option Nat)} {hp : List TB} {n : Nat} {row row' : List TV} {hp' : List TB} {l : List (Option Nat)} (h : RB fl hp hp' l) (hb : hp[n]? = some (.var row)) (hr : RNs fl row row':=by (repeat (first|exact RNs.nil|refine RNs.cons .junk ?_|refine RNs.cons (.keep rfl rfl) ?_|refine RNs.cons (.lsl rfl rfl) ?_|refine RNs.cons (.lsl rfl (by simp only [List.length_set])) ?_|refine RNs.cons (.lptr rfl) ?_|refine RNs.cons (.nil rfl) ?_|refine RNs.cons .nl ?_|refine RNs.cons (.tuple' ?_) ?_|refine RNs.cons (.agg' ?_) ?_))) : RB fl hp (.var row' :: hp') (some n :: l):=.var h hb hr
/-! ### a slice of a whole array that is not written again -/
section
variable {C : Ctx} {P : Program} {ops : Array Oper} {rest : List Oper} {tm tm2 : List TV} {hp : List TB} {Q : TS → Prop}
variable {dst : Option Tmp} {ty : TypeId} {pos : String} {aft : Array Edge} {gd : Option (Nat × Bool)} {ms : List Nat} {i : Nat} {np : List Nat} {c : Nat}
theorem OpG.sliceA {s : TS} {t e : TypeId} {x : Operand} {n o es : Nat} {row : List TV} {rows : List (List TV)} (hx : tev s.tm x = .fptr true row o) (ha : arrayOf P t = some (n, e)) (ho : okT P e = true) (hes : P.cellsOf e = es)
    (hw : (rows.all fun r=>r.length == es) = true) (hf : rows.flatten = (row.drop o).take (n * es)) (hn : rows.length = n) (hle : o + n * es ≤ row.length) :
    OpG C P { dst:=dst,op:=.slice t x none none none,type:=ty,pos:=pos,after:=aft,guard:=gd } s ⟨tput s.tm dst (.list es rows),s.hp⟩:=by
  intro h0 Fz L tm h hs
  have hv:=tev_vl hs.tmr x
  rw [hx] at hv
  generalize hq : ev tm x = v at hv
  have hu : P.underlying t = some (.array n e):=by
    unfold arrayOf at ha
    split at ha
    · rename_i hu;obtain ⟨rfl,rfl⟩:=Prod.mk.inj (Option.some.inj ha);exact hu
    · cases ha
  cases hv with
  | fptr _ _ _ _ nb base eb cs hn' hb hv hle' hh =>
    obtain rfl:=hv rfl
    have hw' : ∀ r ∈ rows,r.length = es:=fun r hr=>by simpa using List.all_eq_true.1 hw r hr
    refine ⟨?_,.slice (some ⟨nb,base + o,none⟩) n n,h,?_,Ext.refl _,Fz,L,Grow.refl _ _,?_⟩
    · have e : Rex.pop P (ev tm) { dst:=dst,op:=.slice t x none none none,type:=ty,pos:=pos,after:=aft,guard:=gd } = genP P (ev tm) { dst:=dst,op:=.slice t x none none none,type:=ty,pos:=pos,after:=aft,guard:=gd }:=rfl
      rw [e]
      unfold genP
      simp only
      rw [if_neg]
      have hcl : isClean (ev tm x) = false:=by rw [hq];rfl
      simp [Op.operands,hcl]
    · simp only [xop,hop,hq,Option.map_none,sliceV,hu,hb,bnd]
      rw [if_pos ⟨ho,Nat.zero_le _,Nat.le_refl _,.inl trivial⟩]
      simp
    · refine hs.put dst ?_
      subst hn
      refine .list L es rows nb (base + o) rows.length cs 0 hn' hb (.inr rfl) hw' (Nat.le_refl _) (by omega) fun j p y h1 h2=>?_
      rw [hf,List.getElem?_take,List.getElem?_drop] at h1
      split at h1
      · exact hh (o + j) p y h1 (by rw [← Nat.add_assoc];exact h2)
      · cases h1
theorem TO.sa {α : Type} (f : α → List TV) (xs : List α) {t e : TypeId} {x : Operand} {n o es : Nat} {row : List TV} (hw : twant ops tm { dst := dst, op := .slice t x none none none, type := ty, pos := pos, after := aft, guard := gd } = some true) (hx : tev tm x = .fptr true row o) (ha : arrayOf P t = some (n, e)) (ho : okT P e = true) (hes : P.cellsOf e = es)
    (hr : ((xs.map f).all fun r=>r.length == es) = true) (hf : (xs.map f).flatten = (row.drop o).take (n * es)) (hn : (xs.map f).length = n) (hle : decide (o + n * es ≤ row.length) = true) (ht : tput tm dst (.list es (xs.map f)) = tm2) (hq : TO C P ops rest ⟨tm2,hp⟩ Q) : TO C P ops ({ dst:=dst,op:=.slice t x none none none,type:=ty,pos:=pos,after:=aft,guard:=gd } :: rest) ⟨tm,hp⟩ Q:=by
  subst ht;exact TO.g hw (OpG.sliceA (s:=⟨tm,hp⟩) hx ha ho hes hr hf hn (of_decide_eq_true hle)) hq
theorem TD.sa {α : Type} (f : α → List TV) (xs : List α) {t e : TypeId} {x : Operand} {n o es : Nat} {row : List TV} (hw : twant ops tm { dst := dst, op := .slice t x none none none, type := ty, pos := pos, after := aft, guard := gd } = some true) (hx : tev tm x = .fptr true row o) (ha : arrayOf P t = some (n, e)) (ho : okT P e = true) (hes : P.cellsOf e = es)
    (hr : ((xs.map f).all fun r=>r.length == es) = true) (hf : (xs.map f).flatten = (row.drop o).take (n * es)) (hn : (xs.map f).length = n) (hle : decide (o + n * es ≤ row.length) = true) (ht : tput tm dst (.list es (xs.map f)) = tm2) (hq : TD C P ops ms rest (i + 1) (i :: np) 0 ⟨tm2,hp⟩ Q) : TD C P ops ms ({ dst:=dst,op:=.slice t x none none none,type:=ty,pos:=pos,after:=aft,guard:=gd } :: rest) i np 0 ⟨tm,hp⟩ Q:=by
  subst ht;exact TD.g hw (OpG.sliceA (s:=⟨tm,hp⟩) hx ha ho hes hr hf hn (of_decide_eq_true hle)) hq
/-! ### a literal as a list;a place of an array value -/
theorem bmG {α : Type} {f : α → List TV} {xs : List α} {t : TypeId} {n es : Nat} {ps : Array (Nat × Operand)} {l : List (Nat × TV)} {rows : List (List TV)} (hx : ps.toList.map (fun q => (q.1, tev tm q.2)) = l) (hv : tslice P t n l = some (es, rows)) (hr : rows = xs.map f) :
    OpG C P { dst:=dst,op:=.buildSlice t n ps,type:=ty,pos:=pos,after:=aft,guard:=gd } ⟨tm,hp⟩ ⟨tput tm dst (.list es (xs.map f)),hp⟩:=by
  subst hr
  exact OpG.buildSlice (s:=⟨tm,hp⟩) (by simp only [hx];exact hv)
theorem TO.bm {α : Type} (f : α → List TV) (xs : List α) {t : TypeId} {n es : Nat} {ps : Array (Nat × Operand)} {l : List (Nat × TV)} {rows : List (List TV)} (hw : twant ops tm { dst := dst, op := .buildSlice t n ps, type := ty, pos := pos, after := aft, guard := gd } = some true) (hx : ps.toList.map (fun q => (q.1, tev tm q.2)) = l) (hv : tslice P t n l = some (es, rows)) (hr : rows = xs.map f)
    (ht : tput tm dst (.list es (xs.map f)) = tm2) (hq : TO C P ops rest ⟨tm2,hp⟩ Q) : TO C P ops ({ dst:=dst,op:=.buildSlice t n ps,type:=ty,pos:=pos,after:=aft,guard:=gd } :: rest) ⟨tm,hp⟩ Q:=by
  subst ht;exact TO.g hw (bmG hx hv hr) hq
theorem TD.bm {α : Type} (f : α → List TV) (xs : List α) {t : TypeId} {n es : Nat} {ps : Array (Nat × Operand)} {l : List (Nat × TV)} {rows : List (List TV)} (hw : twant ops tm { dst := dst, op := .buildSlice t n ps, type := ty, pos := pos, after := aft, guard := gd } = some true) (hx : ps.toList.map (fun q => (q.1, tev tm q.2)) = l) (hv : tslice P t n l = some (es, rows)) (hr : rows = xs.map f)
    (ht : tput tm dst (.list es (xs.map f)) = tm2) (hq : TD C P ops ms rest (i + 1) (i :: np) 0 ⟨tm2,hp⟩ Q) : TD C P ops ms ({ dst:=dst,op:=.buildSlice t n ps,type:=ty,pos:=pos,after:=aft,guard:=gd } :: rest) i np 0 ⟨tm,hp⟩ Q:=by
  subst ht;exact TD.g hw (bmG hx hv hr) hq
theorem TD.bmF {α : Type} (hnf : needFree ops = true) (f : α → List TV) (xs : List α) {idx : Nat} {t : TypeId} {n es : Nat} {ps : Array (Nat × Operand)} {l : List (Nat × TV)} {rows : List (List TV)} (hw : twant ops tm { dst := dst, op := .buildSlice t n ps, type := ty, pos := pos, after := aft, guard := gd } = some true) (hx : ps.toList.map (fun q => (q.1, tev tm q.2)) = l) (hv : tslice P t n l = some (es, rows)) (hr : rows = xs.map f)
    (ht : tput tm dst (.list es (xs.map f)) = tm2) (hq : TD C P ops ms rest (i + 1) (i :: np) 1 ⟨tm2,hp⟩ Q) : TD C P ops ms ({ dst:=dst,op:=.buildSlice t n ps,type:=ty,pos:=pos,after:=aft,guard:=gd } :: rest) i np (idx + 2) ⟨tm,hp⟩ Q:=by
  subst ht;exact TD.mkF hnf hw rfl (bmG hx hv hr) hq
theorem ixlP {t : TypeId} {x y : Operand} {q q2 p : TV} (hx : tev tm x = q) (hy : tev tm y = q2) (hv : tindex P t q q2 = some p) : tpop P hp tm { dst:=dst,op:=.index t x y,type:=ty,pos:=pos,after:=aft,guard:=gd } = some p:=by
  simp only [tpop,hx,hy,hv,orT]
theorem TO.ixl {t : TypeId} {x y : Operand} {q q2 p : TV} (hw : twant ops tm { dst:=dst,op:=.index t x y,type:=ty,pos:=pos,after:=aft,guard:=gd } = some true) (hx : tev tm x = q) (hy : tev tm y = q2) (hv : tindex P t q q2 = some p) (ht : tput tm dst p = tm2) (hq : TO C P ops rest ⟨tm2,hp⟩ Q) : TO C P ops ({ dst:=dst,op:=.index t x y,type:=ty,pos:=pos,after:=aft,guard:=gd } :: rest) ⟨tm,hp⟩ Q :=
  TO.pop1 hw (ixlP hx hy hv) ht hq
theorem TD.ixl {t : TypeId} {x y : Operand} {q q2 p : TV} (hw : twant ops tm { dst:=dst,op:=.index t x y,type:=ty,pos:=pos,after:=aft,guard:=gd } = some true) (hx : tev tm x = q) (hy : tev tm y = q2) (hv : tindex P t q q2 = some p) (ht : tput tm dst p = tm2) (hq : TD C P ops ms rest (i + 1) np c ⟨tm2,hp⟩ Q) : TD C P ops ms ({ dst:=dst,op:=.index t x y,type:=ty,pos:=pos,after:=aft,guard:=gd } :: rest) i np c ⟨tm,hp⟩ Q :=
  TD.pop1 hw (ixlP hx hy hv) ht hq
end
end Go.Rex

namespace Go.Rex
open Go.RowKit
/-! ### a list of one's own is frozen at a loop's end;a store at any index of an array of ints -/
def updI (iv y : Int) : Nat → List Int → List Int
  | _,[]=>[]
  | j,a :: t=>(if iv = (j : Int) then y else a) :: updI iv y (j + 1) t
theorem updI_none {iv y : Int} : ∀ (l : List Int) j,(∀ k,k < l.length → iv ≠ ((j + k : Nat) : Int)) → updI iv y j l = l
  | [],_,_=>rfl
  | a :: t,j,h=>by
    rw [updI,if_neg (by have:=h 0 (by simp);simpa using this),updI_none t (j + 1) (fun k hk=>by
      have:=h (k + 1) (by simp;omega)
      rwa [show j + (k + 1) = j + 1 + k by omega] at this)]
theorem updI_set {iv y : Int} : ∀ (l : List Int) j n,iv = ((j + n : Nat) : Int) → n < l.length → updI iv y j l = l.set n y
  | [],_,n,_,h=>by simp at h
  | a :: t,j,0,h,_=>by
    rw [updI,if_pos (by simpa using h),updI_none t (j + 1) (fun k _=>by omega)]
    rfl
  | a :: t,j,n + 1,h,hl=>by
    rw [updI,if_neg (by omega),updI_set t (j + 1) n (by omega) (by simp at hl;omega)]
    rfl
theorem splice_set {row : List TV} {p : TV} : ∀ {n : Nat},n < row.length → tsplice row n [p] = row.set n p:=by
  intro n h
  unfold tsplice
  rw [List.set_eq_take_append_cons_drop,if_pos h]
  simp
section
variable {C : Ctx} {P : Program} {ops : Array Oper} {rest : List Oper} {tm tm2 : List TV} {hp hp2 : List TB} {Q : TS → Prop} {o : Oper}
variable {dst : Option Tmp} {ty : TypeId} {pos : String} {aft : Array Edge} {gd : Option (Nat × Bool)} {p q : TV} {ms : List Nat} {i : Nat} {np : List Nat} {c : Nat}
theorem sxV {kk : IntKind} {l : List Int} {iv y : Int} {row2 : List TV} {t : TypeId} {a x : Operand} {n es : Nat} {l0 : List Int} (hg : 0 ≤ iv ∧ iv < (l0.length : Int)) (hl0 : l0.length = l.length) (ha : tev tm a = .lptr n 0 (0 + iv.toNat * es)) (hx : tev tm x = .v (.int kk y)) (hes : es = 1) (hb : hp[n]? = some (.var (l.map fun z => .v (.int kk z)))) (ht : okT P t = true) (hc : P.cellsOf t = 1) (hv : (updI iv y 0 l).map (fun z => .v (.int kk z)) = row2) :
    OpW C P { dst:=none,op:=.store t a x,type:=ty,pos:=pos,after:=aft,guard:=gd } ⟨tm,hp⟩ ⟨tm,hp.set n (.var row2)⟩:=by
  subst hv hes
  obtain ⟨h1,h2⟩:=hg
  rw [hl0] at h2
  refine stV ha hx rfl rfl hb ht (by rw [hc];rfl) rfl (Nat.ble_eq_true_of_le (by simp [tcells];omega)) ?_
  rw [Nat.zero_add,Nat.mul_one,show tcells (TV.v (.int kk y)) = [.v (.int kk y)] from rfl,splice_set (by simp;omega),updI_set (n:=iv.toNat) l 0 (by omega) (by omega),List.map_set]
theorem TO.sx (kk : IntKind) (l : List Int) {iv y : Int} {row2 : List TV} {t : TypeId} {a x : Operand} {n es : Nat} {l0 : List Int} (hg : 0 ≤ iv ∧ iv < (l0.length : Int)) (hl0 : l0.length = l.length) (hw : twant ops tm { dst := none, op := .store t a x, type := ty, pos := pos, after := aft, guard := gd } = some true) (ha : tev tm a = .lptr n 0 (0 + iv.toNat * es)) (hx : tev tm x = .v (.int kk y)) (hes : es = 1) (hb : hp[n]? = some (.var (l.map fun z => .v (.int kk z)))) (ht : okT P t = true) (hc : P.cellsOf t = 1) (hv : (updI iv y 0 l).map (fun z => .v (.int kk z)) = row2)
    (hh2 : hp.set n (.var row2) = hp2) (hq : TO C P ops rest ⟨tm,hp2⟩ Q) : TO C P ops ({ dst:=none,op:=.store t a x,type:=ty,pos:=pos,after:=aft,guard:=gd } :: rest) ⟨tm,hp⟩ Q:=by
  subst hh2;exact TO.w hw (sxV hg hl0 ha hx hes hb ht hc hv) hq
theorem TD.sx (kk : IntKind) (l : List Int) {iv y : Int} {row2 : List TV} {t : TypeId} {a x : Operand} {n es : Nat} {l0 : List Int} (hg : 0 ≤ iv ∧ iv < (l0.length : Int)) (hl0 : l0.length = l.length) (hw : twant ops tm { dst := none, op := .store t a x, type := ty, pos := pos, after := aft, guard := gd } = some true) (ha : tev tm a = .lptr n 0 (0 + iv.toNat * es)) (hx : tev tm x = .v (.int kk y)) (hes : es = 1) (hb : hp[n]? = some (.var (l.map fun z => .v (.int kk z)))) (ht : okT P t = true) (hc : P.cellsOf t = 1) (hv : (updI iv y 0 l).map (fun z => .v (.int kk z)) = row2)
    (hnp : okW ops ms i ⟨tm,hp⟩ n np = true) (hh2 : hp.set n (.var row2) = hp2) (hq : TD C P ops ms rest (i + 1) (i :: np) 1 ⟨tm,hp2⟩ Q) : TD C P ops ms ({ dst:=none,op:=.store t a x,type:=ty,pos:=pos,after:=aft,guard:=gd } :: rest) i np c ⟨tm,hp⟩ Q:=by
  subst hh2;exact TD.wF (s:=⟨tm,hp⟩) hw ha (sxV hg hl0 ha hx hes hb ht hc hv) hnp hq
end
/-! ### arrays that are compared -/
inductive EqI (P : Program) (d : Nat) (X Y : Array Value) (e n : Nat) : Nat → List Bool → Prop
  | nil (i : Nat) : EqI P d X Y e n i []
  | cons {i : Nat} {b : Bool} {bs : List Bool} {u v : Value} (hu : prun P (part e X (i * n)) = some u) (hv : prun P (part e Y (i * n)) = some v) (he : prun P (Op.equalIn d e u v) = some b) (hr : EqI P d X Y e n (i + 1) bs) : EqI P d X Y e n i (b :: bs)
/-! ### a byte of a text -/
section
variable {P : Program} {tm : List TV} {hp : List TB} {dst : Option Tmp} {ty : TypeId} {pos : String} {aft : Array Edge} {gd : Option (Nat × Bool)}
end
end Go.Rex

namespace Go.Rex
open Go.RowKit
/-! ### code without ranges over functions: neither the marks nor the range around it matter -/
def noRange : Code → Bool
  | .seq x y=>noRange x && noRange y
  | .cond _ x y=>noRange x && noRange y
  | .block _ b=>noRange b
  | .loop b=>noRange b
  | .rangeFunc ..=>false
  | _=>true
theorem exec_plain {C : Ctx} {P : Program} {ro : Option Nat} : ∀ (k : Nat) (c : Code) (tm : List Value) (df : List Nat) (h : List Blk), noRange c = true →
    exec C P ro k c ⟨tm,df⟩ h = (exec C P none k c ⟨tm,[]⟩ h).map fun r=>(r.1,(⟨r.2.1.tm,df⟩ : AS),r.2.2.1,r.2.2.2)
  | 0,_,_,_,_,_=>rfl
  | k + 1,c,tm,df,h,hn=>by
    cases c with
    | seq x y =>
      simp only [noRange,Bool.and_eq_true] at hn
      simp only [exec]
      rw [exec_plain k x tm df h hn.1]
      rcases hx : exec C P none k x ⟨tm,[]⟩ h with _|⟨e,⟨tm1,df1⟩,h1,w1⟩
      · rfl
      · have hd : df1 = [] := by
          have:=exec_plain (C:=C) (P:=P) (ro:=none) k x tm [] h hn.1
          rw [hx] at this
          simpa using this
        subst hd
        cases e with
        | normal =>
          simp only [Option.map_some]
          rw [exec_plain k y tm1 df h1 hn.2]
          cases exec C P none k y ⟨tm1,[]⟩ h1<;>rfl
        | _=>rfl
    | cond g x y =>
      simp only [noRange,Bool.and_eq_true] at hn
      simp only [exec]
      split
      · cases hv : ev tm g with
        | bool t =>
          cases t with
          | true=>exact exec_plain k x tm df h hn.1
          | false=>exact exec_plain k y tm df h hn.2
        | _=>rfl
      · rfl
    | block id b =>
      simp only [noRange] at hn
      simp only [exec]
      rw [exec_plain k b tm df h hn]
      rcases hx : exec C P none k b ⟨tm,[]⟩ h with _|⟨e,⟨tm1,df1⟩,h1,w1⟩
      · rfl
      · cases e with
        | exit id' =>
          simp only [Option.map_some]
          split<;>rfl
        | _=>rfl
    | loop b =>
      have hn' : noRange b = true:=by simpa only [noRange] using hn
      simp only [exec]
      rw [exec_plain k b tm df h hn']
      rcases hx : exec C P none k b ⟨tm,[]⟩ h with _|⟨e,⟨tm1,df1⟩,h1,w1⟩
      · rfl
      · have hd : df1 = [] := by
          have:=exec_plain (C:=C) (P:=P) (ro:=none) k b tm [] h hn'
          rw [hx] at this
          simpa using this
        subst hd
        cases e with
        | normal =>
          simp only [Option.map_some]
          rw [exec_plain k (.loop b) tm1 df h1 hn]
          cases exec C P none k (.loop b) ⟨tm1,[]⟩ h1<;>rfl
        | _=>rfl
    | region id ops d =>
      simp only [exec,liftE]
      split
      · cases runDraw C P ops tm h<;>rfl
      · split
        · cases runOps C P ops ops.toList tm h<;>rfl
        · rfl
    | rangeFunc g ps a b=>simp [noRange] at hn
    | _=>rfl
end Go.Rex
