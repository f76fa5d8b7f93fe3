/- An executor of the program's functions on trees of values, proved sound. -/
import Derived.Test.YtpjccpokiaefjaaGreatDoorRexG7
import Derived.Test.YtpjccpokiaefjaaGreatDoorRexG5
set_option linter.unusedSimpArgs false
set_option linter.unusedVariables false
set_option linter.defProp false
namespace Go.Rex
open Go.RowKit
section
variable {C : Ctx} {P : Program} {ops : Array Oper} {rest : List Oper} {tm tm2 : List TV} {hp hp2 : List TB} {Q : TS → Prop} {o : Oper}
variable {dst : Option Tmp} {ty : TypeId} {pos : String} {aft : Array Edge} {gd : Option (Nat × Bool)} {p q : TV} {ms : List Nat} {i : Nat} {np : List Nat} {c : Nat}

theorem TO.mv {x : Operand} (hw : twant ops tm { dst:=dst,op:=.move x,type:=ty,pos:=pos,after:=aft,guard:=gd } = some true) (hv : tev tm x = p) (ht : tput tm dst p = tm2) (hq : TO C P ops rest ⟨tm2,hp⟩ Q) : TO C P ops ({ dst:=dst,op:=.move x,type:=ty,pos:=pos,after:=aft,guard:=gd } :: rest) ⟨tm,hp⟩ Q :=
  TO.pop1 hw (by subst hv;rfl) ht hq
theorem TD.mv {x : Operand} (hw : twant ops tm { dst:=dst,op:=.move x,type:=ty,pos:=pos,after:=aft,guard:=gd } = some true) (hv : tev tm x = p) (ht : tput tm dst p = tm2) (hq : TD C P ops ms rest (i + 1) np c ⟨tm2,hp⟩ Q) : TD C P ops ms ({ dst:=dst,op:=.move x,type:=ty,pos:=pos,after:=aft,guard:=gd } :: rest) i np c ⟨tm,hp⟩ Q :=
  TD.pop1 hw (by subst hv;rfl) ht hq
theorem TO.asg {x : Operand} (hw : twant ops tm { dst:=dst,op:=.assign x,type:=ty,pos:=pos,after:=aft,guard:=gd } = some true) (hv : tev tm x = p) (ht : tput tm dst p = tm2) (hq : TO C P ops rest ⟨tm2,hp⟩ Q) : TO C P ops ({ dst:=dst,op:=.assign x,type:=ty,pos:=pos,after:=aft,guard:=gd } :: rest) ⟨tm,hp⟩ Q :=
  TO.pop1 hw (by subst hv;rfl) ht hq
theorem TD.asg {x : Operand} (hw : twant ops tm { dst:=dst,op:=.assign x,type:=ty,pos:=pos,after:=aft,guard:=gd } = some true) (hv : tev tm x = p) (ht : tput tm dst p = tm2) (hq : TD C P ops ms rest (i + 1) np c ⟨tm2,hp⟩ Q) : TD C P ops ms ({ dst:=dst,op:=.assign x,type:=ty,pos:=pos,after:=aft,guard:=gd } :: rest) i np c ⟨tm,hp⟩ Q :=
  TD.pop1 hw (by subst hv;rfl) ht hq
theorem TO.bin {b : BinOp} {t u : TypeId} {x y : Operand} {a d r : Value} (hw : twant ops tm { dst:=dst,op:=.binOp b t x y u,type:=ty,pos:=pos,after:=aft,guard:=gd } = some true) (hx : tev tm x = .v a) (hy : tev tm y = .v d) (hv : fastBin b a d = some r) (ht : tput tm dst (.v r) = tm2) (hq : TO C P ops rest ⟨tm2,hp⟩ Q) : TO C P ops ({ dst:=dst,op:=.binOp b t x y u,type:=ty,pos:=pos,after:=aft,guard:=gd } :: rest) ⟨tm,hp⟩ Q :=
  TO.pop1 hw (by simp only [tpop,hx,hy,tbin,hv,Option.map_some,orT]) ht hq
theorem TD.bin {b : BinOp} {t u : TypeId} {x y : Operand} {a d r : Value} (hw : twant ops tm { dst:=dst,op:=.binOp b t x y u,type:=ty,pos:=pos,after:=aft,guard:=gd } = some true) (hx : tev tm x = .v a) (hy : tev tm y = .v d) (hv : fastBin b a d = some r) (ht : tput tm dst (.v r) = tm2) (hq : TD C P ops ms rest (i + 1) np c ⟨tm2,hp⟩ Q) : TD C P ops ms ({ dst:=dst,op:=.binOp b t x y u,type:=ty,pos:=pos,after:=aft,guard:=gd } :: rest) i np c ⟨tm,hp⟩ Q :=
  TD.pop1 hw (by simp only [tpop,hx,hy,tbin,hv,Option.map_some,orT]) ht hq
theorem TO.ext {x : Operand} {n : Nat} {l : List TV} (hw : twant ops tm { dst:=dst,op:=.extract x n,type:=ty,pos:=pos,after:=aft,guard:=gd } = some true) (hx : tev tm x = .tuple l) (hv : l[n]? = some p) (ht : tput tm dst p = tm2) (hq : TO C P ops rest ⟨tm2,hp⟩ Q) : TO C P ops ({ dst:=dst,op:=.extract x n,type:=ty,pos:=pos,after:=aft,guard:=gd } :: rest) ⟨tm,hp⟩ Q :=
  TO.pop1 hw (by simp only [tpop,hx,hv]) ht hq
theorem TD.ext {x : Operand} {n : Nat} {l : List TV} (hw : twant ops tm { dst:=dst,op:=.extract x n,type:=ty,pos:=pos,after:=aft,guard:=gd } = some true) (hx : tev tm x = .tuple l) (hv : l[n]? = some p) (ht : tput tm dst p = tm2) (hq : TD C P ops ms rest (i + 1) np c ⟨tm2,hp⟩ Q) : TD C P ops ms ({ dst:=dst,op:=.extract x n,type:=ty,pos:=pos,after:=aft,guard:=gd } :: rest) i np c ⟨tm,hp⟩ Q :=
  TD.pop1 hw (by simp only [tpop,hx,hv]) ht hq
theorem TO.fa {t : TypeId} {x : Operand} {f : Nat} (hw : twant ops tm { dst:=dst,op:=.fieldAddr t x f,type:=ty,pos:=pos,after:=aft,guard:=gd } = some true) (hx : tev tm x = q) (hv : tfieldAddr P t q f = some p) (ht : tput tm dst p = tm2) (hq : TO C P ops rest ⟨tm2,hp⟩ Q) : TO C P ops ({ dst:=dst,op:=.fieldAddr t x f,type:=ty,pos:=pos,after:=aft,guard:=gd } :: rest) ⟨tm,hp⟩ Q :=
  TO.pop1 hw (by simp only [tpop,hx,hv]) ht hq
theorem TD.fa {t : TypeId} {x : Operand} {f : Nat} (hw : twant ops tm { dst:=dst,op:=.fieldAddr t x f,type:=ty,pos:=pos,after:=aft,guard:=gd } = some true) (hx : tev tm x = q) (hv : tfieldAddr P t q f = some p) (ht : tput tm dst p = tm2) (hq : TD C P ops ms rest (i + 1) np c ⟨tm2,hp⟩ Q) : TD C P ops ms ({ dst:=dst,op:=.fieldAddr t x f,type:=ty,pos:=pos,after:=aft,guard:=gd } :: rest) i np c ⟨tm,hp⟩ Q :=
  TD.pop1 hw (by simp only [tpop,hx,hv]) ht hq
theorem TO.ia {t : TypeId} {x y : Operand} {q2 : TV} (hw : twant ops tm { dst:=dst,op:=.indexAddr t x y,type:=ty,pos:=pos,after:=aft,guard:=gd } = some true) (hx : tev tm x = q) (hy : tev tm y = q2) (hv : tindexAddr P hp t q q2 = some p) (ht : tput tm dst p = tm2) (hq : TO C P ops rest ⟨tm2,hp⟩ Q) : TO C P ops ({ dst:=dst,op:=.indexAddr t x y,type:=ty,pos:=pos,after:=aft,guard:=gd } :: rest) ⟨tm,hp⟩ Q :=
  TO.pop1 hw (by simp only [tpop,hx,hy,hv]) ht hq
theorem TD.ia {t : TypeId} {x y : Operand} {q2 : TV} (hw : twant ops tm { dst:=dst,op:=.indexAddr t x y,type:=ty,pos:=pos,after:=aft,guard:=gd } = some true) (hx : tev tm x = q) (hy : tev tm y = q2) (hv : tindexAddr P hp t q q2 = some p) (ht : tput tm dst p = tm2) (hq : TD C P ops ms rest (i + 1) np c ⟨tm2,hp⟩ Q) : TD C P ops ms ({ dst:=dst,op:=.indexAddr t x y,type:=ty,pos:=pos,after:=aft,guard:=gd } :: rest) i np c ⟨tm,hp⟩ Q :=
  TD.pop1 hw (by simp only [tpop,hx,hy,hv]) ht hq
theorem TO.pk {x y z : Operand} (hw : twant ops tm { dst:=dst,op:=.pick x y z,type:=ty,pos:=pos,after:=aft,guard:=gd } = some true) (hv : tpick (tev tm x) (tev tm y) (tev tm z) = some p) (ht : tput tm dst p = tm2) (hq : TO C P ops rest ⟨tm2,hp⟩ Q) : TO C P ops ({ dst:=dst,op:=.pick x y z,type:=ty,pos:=pos,after:=aft,guard:=gd } :: rest) ⟨tm,hp⟩ Q :=
  TO.pop1 hw (by simp only [tpop,hv]) ht hq
theorem TD.pk {x y z : Operand} (hw : twant ops tm { dst:=dst,op:=.pick x y z,type:=ty,pos:=pos,after:=aft,guard:=gd } = some true) (hv : tpick (tev tm x) (tev tm y) (tev tm z) = some p) (ht : tput tm dst p = tm2) (hq : TD C P ops ms rest (i + 1) np c ⟨tm2,hp⟩ Q) : TD C P ops ms ({ dst:=dst,op:=.pick x y z,type:=ty,pos:=pos,after:=aft,guard:=gd } :: rest) i np c ⟨tm,hp⟩ Q :=
  TD.pop1 hw (by simp only [tpop,hv]) ht hq
theorem TO.len {x : Operand} {t : TypeId} {ts : List TypeId} (hw : twant ops tm { dst:=dst,op:=.call { callee:=.builtin .len,args:=#[x],argTypes:=⟨t :: ts⟩ },type:=ty,pos:=pos,after:=aft,guard:=gd } = some true) (hx : tev tm x = q) (hv : tlen P (some t) q = some p) (ht : tput tm dst p = tm2) (hq : TO C P ops rest ⟨tm2,hp⟩ Q) : TO C P ops ({ dst:=dst,op:=.call { callee:=.builtin .len,args:=#[x],argTypes:=⟨t :: ts⟩ },type:=ty,pos:=pos,after:=aft,guard:=gd } :: rest) ⟨tm,hp⟩ Q :=
  TO.pop1 hw (by simp only [tpop,if_true,hx,List.getElem?_toArray,List.getElem?_cons_zero,hv,orT]) ht hq
theorem TD.len {x : Operand} {t : TypeId} {ts : List TypeId} (hw : twant ops tm { dst:=dst,op:=.call { callee:=.builtin .len,args:=#[x],argTypes:=⟨t :: ts⟩ },type:=ty,pos:=pos,after:=aft,guard:=gd } = some true) (hx : tev tm x = q) (hv : tlen P (some t) q = some p) (ht : tput tm dst p = tm2) (hq : TD C P ops ms rest (i + 1) np c ⟨tm2,hp⟩ Q) : TD C P ops ms ({ dst:=dst,op:=.call { callee:=.builtin .len,args:=#[x],argTypes:=⟨t :: ts⟩ },type:=ty,pos:=pos,after:=aft,guard:=gd } :: rest) i np c ⟨tm,hp⟩ Q :=
  TD.pop1 hw (by simp only [tpop,if_true,hx,List.getElem?_toArray,List.getElem?_cons_zero,hv,orT]) ht hq
theorem TO.bld {t : TypeId} {ps : Array (Nat × Operand)} {l : List (Nat × TV)} (hw : twant ops tm { dst:=dst,op:=.build t ps,type:=ty,pos:=pos,after:=aft,guard:=gd } = some true) (hx : ps.toList.map (fun q=>(q.1,tev tm q.2)) = l) (hv : tbuild P t l = some p) (ht : tput tm dst p = tm2) (hq : TO C P ops rest ⟨tm2,hp⟩ Q) : TO C P ops ({ dst:=dst,op:=.build t ps,type:=ty,pos:=pos,after:=aft,guard:=gd } :: rest) ⟨tm,hp⟩ Q :=
  TO.pop1 hw (by simp only [tpop,hx,hv]) ht hq
theorem TD.bld {t : TypeId} {ps : Array (Nat × Operand)} {l : List (Nat × TV)} (hw : twant ops tm { dst:=dst,op:=.build t ps,type:=ty,pos:=pos,after:=aft,guard:=gd } = some true) (hx : ps.toList.map (fun q=>(q.1,tev tm q.2)) = l) (hv : tbuild P t l = some p) (ht : tput tm dst p = tm2) (hq : TD C P ops ms rest (i + 1) np c ⟨tm2,hp⟩ Q) : TD C P ops ms ({ dst:=dst,op:=.build t ps,type:=ty,pos:=pos,after:=aft,guard:=gd } :: rest) i np c ⟨tm,hp⟩ Q :=
  TD.pop1 hw (by simp only [tpop,hx,hv]) ht hq
theorem TO.mf {f : FuncId} {a b : Array Operand} {l1 l2 : List TV} (hw : twant ops tm { dst:=dst,op:=.makeFunc (.func f) a b,type:=ty,pos:=pos,after:=aft,guard:=gd } = some true) (hx : a.toList.map (tev tm) = l1) (hy : b.toList.map (tev tm) = l2) (hv : (l1.all (lf 4) && l2.all (lf 4)) = true) (ht : tput tm dst (.func f l1 l2) = tm2) (hq : TO C P ops rest ⟨tm2,hp⟩ Q) : TO C P ops ({ dst:=dst,op:=.makeFunc (.func f) a b,type:=ty,pos:=pos,after:=aft,guard:=gd } :: rest) ⟨tm,hp⟩ Q :=
  TO.pop1 hw (by subst hx hy;simp only [tpop];rw [if_pos];simpa only [List.all_map,Function.comp_def] using hv) ht hq
theorem TD.mf {f : FuncId} {a b : Array Operand} {l1 l2 : List TV} (hw : twant ops tm { dst:=dst,op:=.makeFunc (.func f) a b,type:=ty,pos:=pos,after:=aft,guard:=gd } = some true) (hx : a.toList.map (tev tm) = l1) (hy : b.toList.map (tev tm) = l2) (hv : (l1.all (lf 4) && l2.all (lf 4)) = true) (ht : tput tm dst (.func f l1 l2) = tm2) (hq : TD C P ops ms rest (i + 1) np c ⟨tm2,hp⟩ Q) : TD C P ops ms ({ dst:=dst,op:=.makeFunc (.func f) a b,type:=ty,pos:=pos,after:=aft,guard:=gd } :: rest) i np c ⟨tm,hp⟩ Q :=
  TD.pop1 hw (by subst hx hy;simp only [tpop];rw [if_pos];simpa only [List.all_map,Function.comp_def] using hv) ht hq
theorem TO.ld {t : TypeId} {a : Operand} (hw : twant ops tm { dst:=dst,op:=.load t a,type:=ty,pos:=pos,after:=aft,guard:=gd } = some true) (hx : tev tm a = p) (hv : tload P hp t p = some q) (ht : tput tm dst q = tm2) (hh2 : hp = hp2) (hq : TO C P ops rest ⟨tm2,hp2⟩ Q) : TO C P ops ({ dst:=dst,op:=.load t a,type:=ty,pos:=pos,after:=aft,guard:=gd } :: rest) ⟨tm,hp⟩ Q:=by
  subst ht hh2
  exact TO.g hw (OpG.load (by rw [show tev (TS.mk tm hp).tm a = p from hx];exact hv)) hq
theorem TD.ld {t : TypeId} {a : Operand} (hw : twant ops tm { dst:=dst,op:=.load t a,type:=ty,pos:=pos,after:=aft,guard:=gd } = some true) (hx : tev tm a = p) (hv : tload P hp t p = some q) (ht : tput tm dst q = tm2) (hh2 : hp = hp2) (hq : TD C P ops ms rest (i + 1) (i :: np) 0 ⟨tm2,hp2⟩ Q) : TD C P ops ms ({ dst:=dst,op:=.load t a,type:=ty,pos:=pos,after:=aft,guard:=gd } :: rest) i np 0 ⟨tm,hp⟩ Q:=by
  subst ht hh2
  exact TD.g hw (OpG.load (by rw [show tev (TS.mk tm hp).tm a = p from hx];exact hv)) hq
theorem TO.al {e : TypeId} {z : List Value} {zt : List TV} (hw : twant ops tm { dst:=dst,op:=.alloc e,type:=ty,pos:=pos,after:=aft,guard:=gd } = some true) (hv : zeroC P e = some z) (hz : z.map TV.v = zt) (ht : tput tm dst (.lptr hp.length 0 0) = tm2) (hh2 : (hp ++ [.var zt]) = hp2) (hq : TO C P ops rest ⟨tm2,hp2⟩ Q) : TO C P ops ({ dst:=dst,op:=.alloc e,type:=ty,pos:=pos,after:=aft,guard:=gd } :: rest) ⟨tm,hp⟩ Q:=by
  subst ht hh2
  exact TO.g hw (by subst hz;exact OpG.alloc hv) hq
theorem TD.al {e : TypeId} {z : List Value} {zt : List TV} (hw : twant ops tm { dst:=dst,op:=.alloc e,type:=ty,pos:=pos,after:=aft,guard:=gd } = some true) (hv : zeroC P e = some z) (hz : z.map TV.v = zt) (ht : tput tm dst (.lptr hp.length 0 0) = tm2) (hh2 : (hp ++ [.var zt]) = hp2) (hq : TD C P ops ms rest (i + 1) (i :: np) 0 ⟨tm2,hp2⟩ Q) : TD C P ops ms ({ dst:=dst,op:=.alloc e,type:=ty,pos:=pos,after:=aft,guard:=gd } :: rest) i np 0 ⟨tm,hp⟩ Q:=by
  subst ht hh2
  exact TD.g hw (by subst hz;exact OpG.alloc hv) hq
theorem TO.bx {e : TypeId} {x : Operand} {l : List TV} (hw : twant ops tm { dst:=dst,op:=.box e x,type:=ty,pos:=pos,after:=aft,guard:=gd } = some true) (hx : tev tm x = p) (hj : isJunk p = false) (hl : tcells p = l) (ht : tput tm dst (.lptr hp.length 0 0) = tm2) (hh2 : (hp ++ [.var l]) = hp2) (hq : TO C P ops rest ⟨tm2,hp2⟩ Q) : TO C P ops ({ dst:=dst,op:=.box e x,type:=ty,pos:=pos,after:=aft,guard:=gd } :: rest) ⟨tm,hp⟩ Q:=by
  subst ht hh2
  exact TO.g hw (by subst hl;exact OpG.box hx hj) hq
theorem TO.bf {e : TypeId} {x : Operand} {l : List TV} (hw : twant ops tm { dst:=dst,op:=.box e x,type:=ty,pos:=pos,after:=aft,guard:=gd } = some true) (hx : tev tm x = p) (hj : isJunk p = false) (hl : tcells p = l) (hlf : l.all (lf 4) = true) (ht : tput tm dst (.fptr true l 0) = tm2) (hh2 : hp = hp2) (hq : TO C P ops rest ⟨tm2,hp2⟩ Q) : TO C P ops ({ dst:=dst,op:=.box e x,type:=ty,pos:=pos,after:=aft,guard:=gd } :: rest) ⟨tm,hp⟩ Q:=by
  subst ht hh2
  exact TO.g hw (by subst hl;exact OpG.boxF hx hj hlf) hq
theorem TO.bs {t : TypeId} {n : Nat} {ps : Array (Nat × Operand)} {l : List (Nat × TV)} {es : Nat} {rows : List (List TV)} (hw : twant ops tm { dst:=dst,op:=.buildSlice t n ps,type:=ty,pos:=pos,after:=aft,guard:=gd } = some true) (hx : ps.toList.map (fun q=>(q.1,tev tm q.2)) = l) (hv : tslice P t n l = some (es,rows)) (ht : tput tm dst (.list es rows) = tm2) (hh2 : hp = hp2) (hq : TO C P ops rest ⟨tm2,hp2⟩ Q) : TO C P ops ({ dst:=dst,op:=.buildSlice t n ps,type:=ty,pos:=pos,after:=aft,guard:=gd } :: rest) ⟨tm,hp⟩ Q:=by
  subst ht hh2
  exact TO.g hw (OpG.buildSlice (s:=⟨tm,hp⟩) (by simp only [hx];exact hv)) hq
theorem TD.bs {t : TypeId} {n : Nat} {ps : Array (Nat × Operand)} {l : List (Nat × TV)} {es : Nat} {rows : List (List TV)} (hw : twant ops tm { dst:=dst,op:=.buildSlice t n ps,type:=ty,pos:=pos,after:=aft,guard:=gd } = some true) (hx : ps.toList.map (fun q=>(q.1,tev tm q.2)) = l) (hv : tslice P t n l = some (es,rows)) (ht : tput tm dst (.list es rows) = tm2) (hh2 : hp = hp2) (hq : TD C P ops ms rest (i + 1) (i :: np) 0 ⟨tm2,hp2⟩ Q) : TD C P ops ms ({ dst:=dst,op:=.buildSlice t n ps,type:=ty,pos:=pos,after:=aft,guard:=gd } :: rest) i np 0 ⟨tm,hp⟩ Q:=by
  subst ht hh2
  exact TD.g hw (OpG.buildSlice (s:=⟨tm,hp⟩) (by simp only [hx];exact hv)) hq
theorem appW (hsl0 : True) {α : Type} {x y : Operand} {t0 t1 e : TypeId} {tys : List TypeId} {n len es : Nat} {xs ys : List α} {f : α → List TV} {z : List Value} {new : List (List TV)} {xy : List α} (hx : tev tm x = .lsl n 0 len) (hb : hp[n]? = some (.rows es (xs.map f))) (hlen : len = xs.length) (hy : tev tm y = .list es new) (hnew : new = ys.map f) (hsl : sliceOf P t0 = some e) (hni : notInt P (some t1) = true) (hz : zeroC P e = some z) (hes : z.length = es) (hap : appI (bytesT P e) xs ys = some xy) (hff : ∀ a,(f a).length = es ∧ (f a).all tone = true ∧ (f a).all (lf 4) = true) : OpW C P { dst:=dst,op:=.call { callee:=.builtin .append,args:=#[x,y],argTypes:=⟨t0 :: t1 :: tys⟩ },type:=ty,pos:=pos,after:=aft,guard:=gd } ⟨tm,hp⟩ ⟨tput (tm.map (kill n 4)) dst (.lsl n 0 xy.length),(hp.map (killB n)).set n (.rows es (xy.map f))⟩:=by
  unfold appI at hap
  split at hap
  · rename_i hl
    obtain rfl:=Option.some.inj hap
    subst hnew
    have:=OpW.append (C:=C) (P:=P) (s:=⟨tm,hp⟩) (dst:=dst) (ty:=ty) (pos:=pos) (aft:=aft) (gd:=gd) (x:=x) (y:=y) (t0:=t0) (t1:=t1) (e:=e) (tys:=tys) (n:=n) (len:=len) (es:=es) (rows:=xs.map f) (new:=ys.map f) (z:=z) hx hb (by simp [hlen]) hy hsl hni hz hes (by simpa [limT] using hl)
      (fun r hr=>by obtain ⟨a,_,rfl⟩:=List.mem_map.1 hr;exact (hff a).1) (fun r hr=>by obtain ⟨a,_,rfl⟩:=List.mem_map.1 hr;exact (hff a).2.1) (fun r hr=>by obtain ⟨a,_,rfl⟩:=List.mem_map.1 hr;exact (hff a).2.2)
    simpa using this
  · cases hap
theorem TO.ap {α : Type} {x y : Operand} {t0 t1 e : TypeId} {tys : List TypeId} {n len es : Nat} {xs ys : List α} {f : α → List TV} {z : List Value} {new : List (List TV)} {xy : List α} (hw : twant ops tm { dst:=dst,op:=.call { callee:=.builtin .append,args:=#[x,y],argTypes:=⟨t0 :: t1 :: tys⟩ },type:=ty,pos:=pos,after:=aft,guard:=gd } = some true) (hx : tev tm x = .lsl n 0 len) (hb : hp[n]? = some (.rows es (xs.map f))) (hlen : len = xs.length) (hy : tev tm y = .list es new) (hnew : new = ys.map f) (hsl : sliceOf P t0 = some e) (hni : notInt P (some t1) = true) (hz : zeroC P e = some z) (hes : z.length = es) (hap : appI (bytesT P e) xs ys = some xy) (hff : ∀ a,(f a).length = es ∧ (f a).all tone = true ∧ (f a).all (lf 4) = true) (ht : tput (tm.map (kill n 4)) dst (.lsl n 0 xy.length) = tm2) (hh2 : (hp.map (killB n)).set n (.rows es (xy.map f)) = hp2) (hq : TO C P ops rest ⟨tm2,hp2⟩ Q) : TO C P ops ({ dst:=dst,op:=.call { callee:=.builtin .append,args:=#[x,y],argTypes:=⟨t0 :: t1 :: tys⟩ },type:=ty,pos:=pos,after:=aft,guard:=gd } :: rest) ⟨tm,hp⟩ Q:=by
  subst ht hh2
  exact TO.w hw (appW trivial hx hb hlen hy hnew hsl hni hz hes hap hff) hq
theorem TO.cal {fo : Operand} {g : FuncId} {args : Array Operand} {tys : Array TypeId} {first caps as : List TV} {th : List TB} (hw : twant ops tm { dst:=dst,op:=.call { callee:=.value fo,args:=args,argTypes:=tys },type:=ty,pos:=pos,after:=aft,guard:=gd } = some true) (hf : tev tm fo = .func g first caps) (hg : goFn P g = true) (hsp : Spec C g as ⟨[p],th⟩) (has : first ++ (args.toList.map (tev tm) ++ caps) = as) (hl : as.all (lf 4) = true) (hth : th.all resTB = true) (ht : tput tm dst (shift hp.length 4 p) = tm2) (hh2 : hp ++ th = hp2) (hq : TO C P ops rest ⟨tm2,hp2⟩ Q) : TO C P ops ({ dst:=dst,op:=.call { callee:=.value fo,args:=args,argTypes:=tys },type:=ty,pos:=pos,after:=aft,guard:=gd } :: rest) ⟨tm,hp⟩ Q:=by
  subst ht hh2
  exact TO.g hw (OpG.call (s:=⟨tm,hp⟩) hf hg has hl hsp hth) hq
theorem TD.cal {fo : Operand} {g : FuncId} {args : Array Operand} {tys : Array TypeId} {first caps as : List TV} {th : List TB} (hw : twant ops tm { dst:=dst,op:=.call { callee:=.value fo,args:=args,argTypes:=tys },type:=ty,pos:=pos,after:=aft,guard:=gd } = some true) (hf : tev tm fo = .func g first caps) (hg : goFn P g = true) (hsp : Spec C g as ⟨[p],th⟩) (has : first ++ (args.toList.map (tev tm) ++ caps) = as) (hl : as.all (lf 4) = true) (hth : th.all resTB = true) (ht : tput tm dst (shift hp.length 4 p) = tm2) (hh2 : hp ++ th = hp2) (hq : TD C P ops ms rest (i + 1) (i :: np) 0 ⟨tm2,hp2⟩ Q) : TD C P ops ms ({ dst:=dst,op:=.call { callee:=.value fo,args:=args,argTypes:=tys },type:=ty,pos:=pos,after:=aft,guard:=gd } :: rest) i np 0 ⟨tm,hp⟩ Q:=by
  subst ht hh2
  exact TD.g hw (OpG.call (s:=⟨tm,hp⟩) hf hg has hl hsp hth) hq
theorem TO.lok {fo : Operand} {g : FuncId} {args : Array Operand} {tys : Array TypeId} {first caps as : List TV} {th : List TB} (hw : twant ops tm { dst:=dst,op:=.call { callee:=.value fo,args:=args,argTypes:=tys },type:=ty,pos:=pos,after:=aft,guard:=gd } = some true) (hf : tev tm fo = .func g first caps) (hg : goFn P g = true) (hsp : Spec C g as ⟨[p],th⟩) (has : first ++ ((args.toList.map (tev tm)).map (view hp 4) ++ caps) = as) (hth : th.all resTB = true) (hcp : cl 4 p = true) (hcl : th.all clTB = true) (ht : tput tm dst (shift hp.length 4 p) = tm2) (hh2 : hp ++ th = hp2) (hq : TO C P ops rest ⟨tm2,hp2⟩ Q) : TO C P ops ({ dst:=dst,op:=.call { callee:=.value fo,args:=args,argTypes:=tys },type:=ty,pos:=pos,after:=aft,guard:=gd } :: rest) ⟨tm,hp⟩ Q:=by
  subst ht hh2
  exact TO.g hw (OpG.look (s:=⟨tm,hp⟩) hf hg has hsp hth hcp hcl) hq
theorem TD.lok {fo : Operand} {g : FuncId} {args : Array Operand} {tys : Array TypeId} {first caps as : List TV} {th : List TB} (hw : twant ops tm { dst:=dst,op:=.call { callee:=.value fo,args:=args,argTypes:=tys },type:=ty,pos:=pos,after:=aft,guard:=gd } = some true) (hf : tev tm fo = .func g first caps) (hg : goFn P g = true) (hsp : Spec C g as ⟨[p],th⟩) (has : first ++ ((args.toList.map (tev tm)).map (view hp 4) ++ caps) = as) (hth : th.all resTB = true) (hcp : cl 4 p = true) (hcl : th.all clTB = true) (ht : tput tm dst (shift hp.length 4 p) = tm2) (hh2 : hp ++ th = hp2) (hq : TD C P ops ms rest (i + 1) (i :: np) 0 ⟨tm2,hp2⟩ Q) : TD C P ops ms ({ dst:=dst,op:=.call { callee:=.value fo,args:=args,argTypes:=tys },type:=ty,pos:=pos,after:=aft,guard:=gd } :: rest) i np 0 ⟨tm,hp⟩ Q:=by
  subst ht hh2
  exact TD.g hw (OpG.look (s:=⟨tm,hp⟩) hf hg has hsp hth hcp hcl) hq
theorem TO.frz (n : Nat) {l : List Oper} {b : TB} (hb : hp[n]? = some b) (hl : lfB b = true) (ht : tm.map (frz n b 4) = tm2) (hh2 : (hp.map (frzB n b)).set n .dead = hp2) (hq : TO C P ops l ⟨tm2,hp2⟩ Q) : TO C P ops l ⟨tm,hp⟩ Q:=by
  subst ht hh2
  exact TO.weak (Wk.freeze n hb hl) hq
theorem TD.frz (n : Nat) {l : List Oper} {b : TB} (hb : hp[n]? = some b) (hl : lfB b = true) (ht : tm.map (frz n b 4) = tm2) (hh2 : (hp.map (frzB n b)).set n .dead = hp2) (hcb : Nat.ble c 1 = true) (hq : TD C P ops ms l i np c ⟨tm2,hp2⟩ Q) : TD C P ops ms l i np c ⟨tm,hp⟩ Q:=by
  subst ht hh2
  exact TD.weak hcb (Wk.freeze n hb hl) hq
end
end Go.Rex

namespace Go.Rex
open Go.RowKit
section
variable {P : Program} {tm : List TV} {hp : List TB}
variable {dst : Option Tmp} {ty : TypeId} {pos : String} {aft : Array Edge} {gd : Option (Nat × Bool)} {x y : Operand} {t u : TypeId} {tys : List TypeId}
/-! ### operations on values without names -/
theorem tgen_of {o : Oper} {v : Value} (ha : o.op.operands.toList.all (fun x=>(er 3 (tev tm x)).isSome) = true) (hv : Rex.pop P (erased tm) o = some v) (hi : injOk 3 v = true) : tgen P tm o = some (inj 3 v):=by
  unfold tgen
  rw [if_pos ha,hv]
  simp only
  rw [if_pos hi]
theorem erased_v {a : Value} (h : tev tm x = .v a) : erased tm x = a:=by unfold erased;rw [h];rfl
theorem some_v {a : Value} (h : tev tm x = .v a) : (er 3 (tev tm x)).isSome = true:=by rw [h];rfl
theorem pop_not {b : Bool} (h : tev tm x = .v (.bool b)) : tpop P hp tm { dst:=dst,op:=.unOp .not t x,type:=ty,pos:=pos,after:=aft,guard:=gd } = some (.v (.bool (!b))):=by
  have : tgen P tm { dst:=dst,op:=.unOp .not t x,type:=ty,pos:=pos,after:=aft,guard:=gd } = some (inj 3 (.bool (!b))) :=
    tgen_of (by simp [Op.operands,some_v h]) (by simp only [Rex.pop,genP_not,erased_v h]) rfl
  exact this
theorem pop_neg {k : IntKind} {n : Int} (h : tev tm x = .v (.int k n)) : tpop P hp tm { dst:=dst,op:=.unOp .neg t x,type:=ty,pos:=pos,after:=aft,guard:=gd } = some (.v (.int k (k.wrap (0 - n)))):=by
  have : tgen P tm { dst:=dst,op:=.unOp .neg t x,type:=ty,pos:=pos,after:=aft,guard:=gd } = some (inj 3 (.int k (k.wrap (0 - n)))) :=
    tgen_of (by simp [Op.operands,some_v h]) (by simp only [Rex.pop,genP_neg,erased_v h]) rfl
  exact this
theorem pop_max {k k' : IntKind} {a b : Int} (h : tev tm x = .v (.int k a)) (g : tev tm y = .v (.int k' b)) : tpop P hp tm { dst:=dst,op:=.call { callee:=.builtin .max,args:=#[x,y],argTypes:=⟨tys⟩ },type:=ty,pos:=pos,after:=aft,guard:=gd } = some (.v (.int k (if b > a then b else a))):=by
  have : tgen P tm { dst:=dst,op:=.call { callee:=.builtin .max,args:=#[x,y],argTypes:=⟨tys⟩ },type:=ty,pos:=pos,after:=aft,guard:=gd } = some (inj 3 (.int k (if b > a then b else a))) :=
    tgen_of (by simpa [Op.operands,Call.operands] using ⟨some_v h,some_v g⟩) (by
      simp only [Rex.pop,bpop];rw [if_neg (by decide),genP_max,erased_v h,erased_v g]) rfl
  exact this
theorem pop_min {k k' : IntKind} {a b : Int} (h : tev tm x = .v (.int k a)) (g : tev tm y = .v (.int k' b)) : tpop P hp tm { dst:=dst,op:=.call { callee:=.builtin .min,args:=#[x,y],argTypes:=⟨tys⟩ },type:=ty,pos:=pos,after:=aft,guard:=gd } = some (.v (.int k (if b < a then b else a))):=by
  have : tgen P tm { dst:=dst,op:=.call { callee:=.builtin .min,args:=#[x,y],argTypes:=⟨tys⟩ },type:=ty,pos:=pos,after:=aft,guard:=gd } = some (inj 3 (.int k (if b < a then b else a))) :=
    tgen_of (by simpa [Op.operands,Call.operands] using ⟨some_v h,some_v g⟩) (by
      simp only [Rex.pop,bpop];rw [if_neg (by decide),genP_min,erased_v h,erased_v g]) rfl
  exact this
/-- from the model itself -/
theorem tgen_run {o : Oper} {v : Value} (hp0 : Rex.pop P (erased tm) o = genP P (erased tm) o) (hsel : ∀ cs b, o.op ≠ .select cs b) (ha : o.op.operands.toList.all (fun x => (er 3 (tev tm x)).isSome) = true) (hc : o.op.operands.toList.all (fun x => isClean (erased tm x)) = true)
    (hv : prun P (execOp (erased tm) o) = some (.value v)) (hi : injOk 3 v = true) (hcv : isClean v = true) : tgen P tm o = some (inj 3 v):=by
  refine tgen_of ha ?_ hi
  rw [hp0]
  unfold genP
  split
  · rename_i cs b e;exact absurd e (hsel _ _)
  · rw [if_pos hc,hv]
    simp only
    rw [if_pos hcv]
theorem prun_bind {α β : Type} {s : Sem α} {f : α → Sem β} : prun P (s >>= f) = (prun P s).bind fun a=>prun P (f a):=by
  induction s with
  | pure a=>rfl
  | program k ih=>exact ih _
  | mark m k ih=>exact ih
  | _=>rfl
theorem prun_pure {α : Type} {a : α} : prun P (pure a : Sem α) = some a:=rfl
theorem prun_under {t : TypeId} {d : TypeDesc} (h : P.underlying t = some d) : prun P (underlying t) = some d:=by
  unfold underlying
  rw [prun_bind]
  show prun P (match P.underlying t with | some d => pure d | none => stuck "no such type") = some d
  rw [h]
  rfl
/-- a float as a whole number; nothing if it draws -/
def f2i (s : FloatKind) (b : Nat) (d : IntKind) : Option Int :=
  match (s.decode b).toInt .zero with
  | some n=>if d.min ≤ n ∧ n ≤ d.max then some n else none
  | none=>none
def shI (op : BinOp) (k : IntKind) (a b : Int) : Option Int :=
  if b < 0 then none else match op with
  | .shl=>some (k.wrap (a * 2 ^ (min b.toNat k.bits)))
  | _=>some (a.fdiv (2 ^ (min b.toNat k.bits)))
end
end Go.Rex

namespace Go.Rex
open Go.RowKit
section
variable {C : Ctx} {P : Program} {Fz : Nat → Prop} {h h0 : List Blk} {L : Nat → LI} {s : TS} {tm : List Value}
variable {dst : Option Tmp} {ty : TypeId} {pos : String} {aft : Array Edge} {gd : Option (Nat × Bool)}
end
end Go.Rex

namespace Go.Rex
open Go.RowKit
section
variable {C : Ctx} {P : Program} {ops : Array Oper} {rest : List Oper} {tm tm2 : List TV} {hp hp2 : List TB} {Q : TS → Prop} {o : Oper}
variable {dst : Option Tmp} {ty : TypeId} {pos : String} {aft : Array Edge} {gd : Option (Nat × Bool)} {p q : TV} {ms : List Nat} {i : Nat} {np : List Nat} {c : Nat}
theorem stV {t : TypeId} {a x : Operand} {n ob : Nat} {row row2 l : List TV} (ha : tev tm a = .lptr n 0 ob) (hx : tev tm x = p) (hj : isJunk p = false) (hl : tcells p = l) (hb : hp[n]? = some (.var row)) (ht : okT P t = true) (hlen : l.length = P.cellsOf t) (hone : l.all tone = true) (hfit : Nat.ble (ob + l.length) row.length = true) (hv : tsplice row ob l = row2) :
    OpW C P { dst:=none,op:=.store t a x,type:=ty,pos:=pos,after:=aft,guard:=gd } ⟨tm,hp⟩ ⟨tm,hp.set n (.var row2)⟩:=by
  subst hl hv
  refine OpW.store (s:=⟨tm,hp⟩) ?_
  rw [show tev (TS.mk tm hp).tm a = _ from ha,show tev (TS.mk tm hp).tm x = p from hx]
  simp only [tstore]
  rw [if_pos ⟨hj,ht,hlen,hone⟩,hb]
  simp only
  rw [if_pos ⟨trivial,Nat.le_of_ble_eq_true hfit⟩]
theorem stR {α : Type} {f : α → List TV} {xs : List α} {y : α} {u : α} {t : TypeId} {a x : Operand} {n r ob es : Nat} {l : List TV} (ha : tev tm a = .lptr n r ob) (hx : tev tm x = p) (hj : isJunk p = false) (hl : tcells p = l) (hb : hp[n]? = some (.rows es (xs.map f))) (hr : xs[r]? = some u) (ht : okT P t = true) (hlen : l.length = P.cellsOf t) (hone : l.all tone = true)
    (hlf : l.all (lf 4) = true) (hfit : Nat.ble (ob + l.length) (f u).length = true) (hv : tsplice (f u) ob l = f y) :
    OpW C P { dst:=none,op:=.store t a x,type:=ty,pos:=pos,after:=aft,guard:=gd } ⟨tm,hp⟩ ⟨tm,hp.set n (.rows es ((xs.set r y).map f))⟩:=by
  subst hl
  refine OpW.store (s:=⟨tm,hp⟩) ?_
  rw [show tev (TS.mk tm hp).tm a = _ from ha,show tev (TS.mk tm hp).tm x = p from hx]
  simp only [tstore]
  rw [if_pos ⟨hj,ht,hlen,hone⟩,hb]
  simp only [List.getElem?_map,hr,Option.map_some]
  rw [if_pos ⟨Nat.le_of_ble_eq_true hfit,hlf⟩,hv,List.map_set]
theorem TO.sv {t : TypeId} {a x : Operand} {n ob : Nat} {row row2 l : List TV} (hw : twant ops tm { dst := none, op := .store t a x, type := ty, pos := pos, after := aft, guard := gd } = some true) (ha : tev tm a = .lptr n 0 ob) (hx : tev tm x = p) (hj : isJunk p = false) (hl : tcells p = l) (hb : hp[n]? = some (.var row)) (ht : okT P t = true) (hlen : l.length = P.cellsOf t) (hone : l.all tone = true) (hfit : Nat.ble (ob + l.length) row.length = true) (hv : tsplice row ob l = row2)
    (hh2 : hp.set n (.var row2) = hp2) (hq : TO C P ops rest ⟨tm,hp2⟩ Q) : TO C P ops ({ dst:=none,op:=.store t a x,type:=ty,pos:=pos,after:=aft,guard:=gd } :: rest) ⟨tm,hp⟩ Q:=by
  subst hh2;exact TO.w hw (stV ha hx hj hl hb ht hlen hone hfit hv) hq
theorem TD.sv {t : TypeId} {a x : Operand} {n ob : Nat} {row row2 l : List TV} (hw : twant ops tm { dst := none, op := .store t a x, type := ty, pos := pos, after := aft, guard := gd } = some true) (ha : tev tm a = .lptr n 0 ob) (hx : tev tm x = p) (hj : isJunk p = false) (hl : tcells p = l) (hb : hp[n]? = some (.var row)) (ht : okT P t = true) (hlen : l.length = P.cellsOf t) (hone : l.all tone = true) (hfit : Nat.ble (ob + l.length) row.length = true) (hv : tsplice row ob l = row2)
    (hnp : okW ops ms i ⟨tm,hp⟩ n np = true) (hh2 : hp.set n (.var row2) = hp2) (hq : TD C P ops ms rest (i + 1) (i :: np) 1 ⟨tm,hp2⟩ Q) : TD C P ops ms ({ dst:=none,op:=.store t a x,type:=ty,pos:=pos,after:=aft,guard:=gd } :: rest) i np c ⟨tm,hp⟩ Q:=by
  subst hh2;exact TD.wF (s:=⟨tm,hp⟩) hw ha (stV ha hx hj hl hb ht hlen hone hfit hv) hnp hq
theorem TD.sr {α : Type} (f : α → List TV) (xs : List α) (u y : α) {t : TypeId} {a x : Operand} {n r ob es : Nat} {l : List TV} (hr : xs[r]? = some u) (hw : twant ops tm { dst := none, op := .store t a x, type := ty, pos := pos, after := aft, guard := gd } = some true) (ha : tev tm a = .lptr n r ob) (hx : tev tm x = p) (hj : isJunk p = false) (hl : tcells p = l) (hb : hp[n]? = some (.rows es (xs.map f))) (ht : okT P t = true) (hlen : l.length = P.cellsOf t) (hone : l.all tone = true)
    (hlf : l.all (lf 4) = true) (hfit : Nat.ble (ob + l.length) (f u).length = true) (hv : tsplice (f u) ob l = f y) (hnp : okW ops ms i ⟨tm,hp⟩ n np = true) (hh2 : hp.set n (.rows es ((xs.set r y).map f)) = hp2) (hq : TD C P ops ms rest (i + 1) (i :: np) 1 ⟨tm,hp2⟩ Q) : TD C P ops ms ({ dst:=none,op:=.store t a x,type:=ty,pos:=pos,after:=aft,guard:=gd } :: rest) i np c ⟨tm,hp⟩ Q:=by
  subst hh2;exact TD.wF (s:=⟨tm,hp⟩) hw ha (stR ha hx hj hl hb hr ht hlen hone hlf hfit hv) hnp hq
end
section
variable {C : Ctx} {P : Program} {ops : Array Oper} {rest : List Oper} {tm tm2 : List TV} {hp hp2 : List TB} {Q : TS → Prop} {o : Oper}
variable {dst : Option Tmp} {ty : TypeId} {pos : String} {aft : Array Edge} {gd : Option (Nat × Bool)} {p q : TV} {ms : List Nat} {i : Nat} {np : List Nat} {c : Nat}
/-! ### arrays at any index -/
end
/-- what slots and operands are -/
theorem z1 : (∀ tm t, tev tm (.tmp t) = tnth tm t) ∧ (∀ tm k n, tev tm (.const (.int k n)) = .v (.int k n)) ∧ (∀ tm b, tev tm (.const (.bool b)) = .v (.bool b)) ∧ (∀ tm s, tev tm (.const (.string s)) = .v (.string s)) ∧ (∀ tm k b, tev tm (.const (.float k b)) = .v (.float k b)) ∧
    (∀ tm k a b,tev tm (.const (.complex k a b)) = .v (.complex k a b)) ∧ (∀ tm,tev tm (.const (.slice none 0 0)) = .v (.slice none 0 0)) ∧ (∀ tm,tev tm (.const .nilFunc) = .v .nilFunc) ∧ (∀ tm,tev tm (.const .nilIface) = .v .nilIface) ∧ (∀ tm,tev tm (.const (.pointer none)) = .v (.pointer none)) ∧
    (∀ tm f,tev tm (.func f) = .func f [] []) ∧ (∀ a l,tnth (a :: l) 0 = a) ∧ (∀ a l n,tnth (a :: l) (n + 1) = tnth l n) ∧ (∀ tm p,tput tm none p = tm) ∧ (∀ tm d p,tput tm (some d) p = tm.set d p) :=
  ⟨fun _ _=>rfl,fun _ _ _=>rfl,fun _ _=>rfl,fun _ _=>rfl,fun _ _ _=>rfl,fun _ _ _ _=>rfl,fun _=>rfl,fun _=>rfl,fun _=>rfl,fun _=>rfl,fun _ _=>rfl,fun _ _=>rfl,fun _ _ _=>rfl,fun _ _=>rfl,fun _ _ _=>rfl⟩
/-- operators on integers -/
theorem z2 : (∀ k a b, fastBin .add (.int k a) (.int k b) = some (.int k (k.wrap (a + b)))) ∧ (∀ k a b, fastBin .sub (.int k a) (.int k b) = some (.int k (k.wrap (a - b)))) ∧ (∀ k a b, fastBin .mul (.int k a) (.int k b) = some (.int k (k.wrap (a * b)))) ∧
    (∀ k a b,fastBin .lss (.int k a) (.int k b) = some (.bool (decide (a < b)))) ∧ (∀ k a b,fastBin .leq (.int k a) (.int k b) = some (.bool (decide (a ≤ b)))) ∧ (∀ k a b,fastBin .gtr (.int k a) (.int k b) = some (.bool (decide (a > b)))) ∧ (∀ k a b,fastBin .geq (.int k a) (.int k b) = some (.bool (decide (a ≥ b)))) ∧
    (∀ k a b,fastBin .eql (.int k a) (.int k b) = some (.bool (decide (a = b)))) ∧ (∀ k a b,fastBin .neq (.int k a) (.int k b) = some (.bool (decide (a ≠ b)))) ∧ (∀ k a b,fastBin .quo (.int k a) (.int k b) = if b = 0 then none else some (.int k (k.wrap (a.tdiv b)))) ∧ (∀ k a b,fastBin .rem (.int k a) (.int k b) = if b = 0 then none else some (.int k (a.tmod b))):=by
  refine ⟨?_,?_,?_,?_,?_,?_,?_,?_,?_,?_,?_⟩<;>(intro k a b;simp only [fastBin,if_true])
end Go.Rex

namespace Go.Rex
open Go.RowKit
section
variable {C : Ctx} {P : Program} {ops : Array Oper} {rest : List Oper} {tm tm2 : List TV} {hp hp2 : List TB} {Q : TS → Prop} {o : Oper}
variable {dst : Option Tmp} {ty : TypeId} {pos : String} {aft : Array Edge} {gd : Option (Nat × Bool)} {p q : TV} {ms : List Nat} {i : Nat} {np : List Nat} {c : Nat}
theorem TO.here {l : List Oper} {s : TS} (h : TO C P ops l s Q) : TO C P ops l s Q:=h
theorem TD.here {l : List Oper} {s : TS} (h : TD C P ops ms l i np c s Q) : TD C P ops ms l i np c s Q:=h
/-- a row of zeros -/
theorem mkG {α : Type} {f : α → List TV} {z0 : α} {xs : List α} {t e : TypeId} {x y : Operand} {k k' : IntKind} {n : Int} {z : List Value} {es by' : Nat} (hm : mkI by' n z0 = some xs) (hx : tev tm x = .v (.int k n)) (hy : tev tm y = .v (.int k' n)) (hs : sliceOf P t = some e) (hz : zeroC P e = some z) (hb : bytesT P e = by') (hne : z.length = es) (he : Nat.ble 1 es = true) (hf : z.map .v = f z0) :
    OpG C P { dst:=dst,op:=.makeSlice t x y,type:=ty,pos:=pos,after:=aft,guard:=gd } ⟨tm,hp⟩ ⟨tput tm dst (.lsl hp.length 0 xs.length),hp ++ [.rows es (xs.map f)]⟩:=by
  unfold mkI at hm
  split at hm
  · rename_i hc
    obtain rfl:=Option.some.inj hm
    have:=OpG.makeSlice (C:=C) (P:=P) (s:=⟨tm,hp⟩) (dst:=dst) (ty:=ty) (pos:=pos) (aft:=aft) (gd:=gd) (t:=t) (l:=x) (c:=y) (n:=n.toNat) (z:=z) (by
      rw [show tev (TS.mk tm hp).tm x = _ from hx,show tev (TS.mk tm hp).tm y = _ from hy]
      simp only [tmake,hs,hz,hb]
      rw [if_pos ⟨trivial,hc.1,hc.2.1,hc.2.2,fun h=>by rw [h] at hne;simp at hne;subst hne;simp [Nat.ble] at he⟩])
    rw [hne,hf] at this
    simpa using this
  · cases hm
theorem TO.mk {α : Type} (f : α → List TV) {z0 : α} {xs : List α} {t e : TypeId} {x y : Operand} {k k' : IntKind} {n : Int} {z : List Value} {es by' : Nat} (hm : mkI by' n z0 = some xs) (hw : twant ops tm { dst := dst, op := .makeSlice t x y, type := ty, pos := pos, after := aft, guard := gd } = some true) (hx : tev tm x = .v (.int k n)) (hy : tev tm y = .v (.int k' n)) (hs : sliceOf P t = some e) (hz : zeroC P e = some z) (hb : bytesT P e = by') (hne : z.length = es) (he : Nat.ble 1 es = true) (hf : z.map .v = f z0)
    (ht : tput tm dst (.lsl hp.length 0 xs.length) = tm2) (hh2 : hp ++ [.rows es (xs.map f)] = hp2) (hq : TO C P ops rest ⟨tm2,hp2⟩ Q) : TO C P ops ({ dst:=dst,op:=.makeSlice t x y,type:=ty,pos:=pos,after:=aft,guard:=gd } :: rest) ⟨tm,hp⟩ Q:=by
  subst ht hh2;exact TO.g hw (mkG hm hx hy hs hz hb hne he hf) hq
/-- a literal of one's own -/
theorem boG {α : Type} {f : α → List TV} {xs : List α} {t : TypeId} {n es : Nat} {ps : Array (Nat × Operand)} {l : List (Nat × TV)} {rows : List (List TV)} (hx : ps.toList.map (fun q => (q.1, tev tm q.2)) = l) (hv : tslice P t n l = some (es, rows)) (hr : rows = xs.map f) (hn : n = xs.length) :
    OpG C P { dst:=dst,op:=.buildSlice t n ps,type:=ty,pos:=pos,after:=aft,guard:=gd } ⟨tm,hp⟩ ⟨tput tm dst (.lsl hp.length 0 xs.length),hp ++ [.rows es (xs.map f)]⟩:=by
  subst hr hn
  exact OpG.buildOwn (s:=⟨tm,hp⟩) (by simp only [hx];exact hv)
theorem TO.bl {α : Type} (f : α → List TV) (xs : List α) {t : TypeId} {n es : Nat} {ps : Array (Nat × Operand)} {l : List (Nat × TV)} {rows : List (List TV)} (hw : twant ops tm { dst := dst, op := .buildSlice t n ps, type := ty, pos := pos, after := aft, guard := gd } = some true) (hx : ps.toList.map (fun q => (q.1, tev tm q.2)) = l) (hv : tslice P t n l = some (es, rows)) (hr : rows = xs.map f) (hn : n = xs.length)
    (ht : tput tm dst (.lsl hp.length 0 xs.length) = tm2) (hh2 : hp ++ [.rows es (xs.map f)] = hp2) (hq : TO C P ops rest ⟨tm2,hp2⟩ Q) : TO C P ops ({ dst:=dst,op:=.buildSlice t n ps,type:=ty,pos:=pos,after:=aft,guard:=gd } :: rest) ⟨tm,hp⟩ Q:=by
  subst ht hh2;exact TO.g hw (boG hx hv hr hn) hq
end
end Go.Rex

namespace Go.Rex
open Go.RowKit
theorem z3 : (∀ (α : Type) (a b : α) (l : List α), (a :: l).set 0 b = b :: l) ∧ (∀ (α : Type) (a b : α) (l : List α) (n : Nat), (a :: l).set (n + 1) b = a :: l.set n b) ∧ (∀ (α : Type) (a : α) (l : List α), (a :: l)[0]? = some a) ∧ (∀ (α : Type) (a : α) (l : List α) (n : Nat), (a :: l)[n + 1]? = l[n]?) ∧
    (∀ (α β : Type) (f : α → β) (a : α) (l : List α),(a :: l).map f = f a :: l.map f) ∧ (∀ (α β : Type) (f : α → β),([] : List α).map f = []) ∧ (∀ (α : Type) (a : α) (l m : List α),(a :: l) ++ m = a :: (l ++ m)) ∧ (∀ (α : Type) (l : List α),[] ++ l = l) ∧ (∀ (α : Type) (a : α) (l : List α),(a :: l).length = l.length + 1) ∧ (∀ (α : Type),([] : List α).length = 0) ∧
    (∀ (α : Type) (l : List α),l.drop 0 = l) ∧ (∀ (α : Type) (a : α) (l : List α) (n : Nat),(a :: l).drop (n + 1) = l.drop n) ∧ (∀ (α : Type) (n : Nat),([] : List α).drop n = []) ∧ (∀ (α : Type) (l : List α),l.take 0 = []) ∧ (∀ (α : Type) (a : α) (l : List α) (n : Nat),(a :: l).take (n + 1) = a :: l.take n) ∧ (∀ (α : Type) (n : Nat),([] : List α).take n = []) ∧
    (∀ (α β : Type) (f : α → β) (a : α),(some a).map f = some (f a)) ∧ (∀ (α β : Type) (f : α → β) (l : List α),(l.map f).length = l.length) :=
  ⟨fun _ _ _ _=>rfl,fun _ _ _ _ _=>rfl,fun _ _ _=>rfl,fun _ _ _ _=>rfl,fun _ _ _ _ _=>rfl,fun _ _ _=>rfl,fun _ _ _ _=>rfl,fun _ _=>rfl,fun _ _ _=>rfl,fun _=>rfl,fun _ _=>rfl,fun _ _ _ _=>rfl,fun _ n=>by cases n<;>rfl,fun _ _=>rfl,fun _ _ _ _=>rfl,fun _ n=>by cases n<;>rfl,fun _ _ _ _=>rfl,fun _ _ _ _=>List.length_map _⟩
theorem z4 : (∀ l, tcells (.agg l) = l) ∧ (∀ x, tcells (.v x) = [.v x]) ∧ (∀ a b, tcells (.list a b) = [.list a b]) ∧ (∀ a b c, tcells (.func a b c) = [.func a b c]) ∧ (∀ v a b, tcells (.fptr v a b) = [.fptr v a b]) ∧ (∀ a b c, tcells (.lptr a b c) = [.lptr a b c]) ∧ (∀ a b c, tcells (.lsl a b c) = [.lsl a b c]) ∧
    (∀ l,isJunk (.agg l) = false) ∧ (∀ x,isJunk (.v x) = false) ∧ (∀ a b,isJunk (.list a b) = false) ∧ (∀ a b c,isJunk (.func a b c) = false) ∧ (∀ v a b,isJunk (.fptr v a b) = false) ∧ (∀ a b c,isJunk (.lptr a b c) = false) ∧ (∀ a b c,isJunk (.lsl a b c) = false) ∧
    (∀ a b,tpick (.v (.bool true)) a b = some a) ∧ (∀ a b,tpick (.v (.bool false)) a b = some b) ∧ (∀ ops tm dst op ty pos aft,twant ops tm { dst:=dst,op:=op,type:=ty,pos:=pos,after:=aft,guard:=none } = some true) ∧ (∀ (c : List TV) o l,tsplice c o l = c.take o ++ l ++ c.drop (o + l.length)) ∧
    (∀ tm,tput tm none = fun _=>tm) :=
  ⟨fun _=>rfl,fun _=>rfl,fun _ _=>rfl,fun _ _ _=>rfl,fun _ _ _=>rfl,fun _ _ _=>rfl,fun _ _ _=>rfl,fun _=>rfl,fun _=>rfl,fun _ _=>rfl,fun _ _ _=>rfl,fun _ _ _=>rfl,fun _ _ _=>rfl,fun _ _ _=>rfl,fun _ _=>rfl,fun _ _=>rfl,fun _ _ _ _ _ _ _=>rfl,fun _ _ _=>rfl,fun _=>rfl⟩
end Go.Rex
namespace Go.Rex
theorem z5 : (∀ r,tidx r 0 = r[0]?) ∧ (∀ r,tidx r 1 = r[1]?) ∧ (∀ r,tidx r 2 = r[2]?) ∧ (∀ r,tidx r 3 = r[3]?) ∧ (∀ r,tidx r 4 = r[4]?) ∧ (∀ r,tidx r 5 = r[5]?) ∧ (∀ r,tidx r 6 = r[6]?) ∧ (∀ r,tidx r 7 = r[7]?) ∧ (∀ r,tidx r 8 = r[8]?) ∧ (∀ r,tidx r 9 = r[9]?):=by
  refine ⟨?_,?_,?_,?_,?_,?_,?_,?_,?_,?_⟩<;>(intro r;rfl)
example : (0 : Int) < ((2 : Nat) : Int):=by simp only [Int.cast_ofNat_Int,Int.reduceLT]
end Go.Rex
namespace Go.Rex
theorem tml {α β : Type} {f : α → β} {xs : List α} : (xs.map f).take xs.length = xs.map f:=List.take_of_length_le (by simp)
end Go.Rex

namespace Go.Rex
open Go.RowKit
section
variable {C : Ctx} {P : Program} {ops : Array Oper} {rest : List Oper} {tm tm2 : List TV} {hp hp2 : List TB} {Q : TS → Prop} {o : Oper}
variable {dst : Option Tmp} {ty : TypeId} {pos : String} {aft : Array Edge} {gd : Option (Nat × Bool)} {p q : TV} {ms : List Nat} {i : Nat} {np : List Nat} {c : Nat}
theorem TX.unroll {b : Code} {s : TS} {Q : Exit → TS → Prop} (hx : TX C P b s (seqT (fun s=>TX C P (.loop b) s Q) Q)) : TX C P (.loop b) s Q:=by
  intro h0 Fz L tm h hs
  obtain ⟨K,e,⟨tm',df'⟩,h',w1,h1,h2,hd,s',F',L',q,g,hs'⟩:=hx h0 Fz L tm h hs
  obtain rfl : df' = []:=hd
  cases e with
  | normal =>
    obtain ⟨K2,e2,a2,h2',w2,k1,k2,kd,s3,F3,L3,q3,g3,hs3⟩:=q h0 F' L' tm' h' hs'
    refine ⟨max K K2 + 1,e2,a2,h2',wmin w1 w2,?_,wge_min h2 k2,kd,s3,F3,L3,q3,g.trans g3,hs3⟩
    simp only [exec]
    rw [exec_le (Nat.le_max_left K K2) h1]
    simp only
    rw [exec_le (Nat.le_max_right K K2) k1]
    rfl
  | _=>exact ⟨K + 1,_,_,h',w1,by simp only [exec,h1],h2,rfl,s',F',L',q,g,hs'⟩
theorem TX.vt {α : Type} (f : α → List TV) (t es : Nat) {b : Code} {Q : Exit → TS → Prop} (ht : tnth tm t = .v (.slice none 0 0)) (h1 : tm.set t (.lsl hp.length 0 ([] : List α).length) = tm2) (h2 : hp ++ [.rows es (([] : List α).map f)] = hp2) (hq : TX C P b ⟨tm2,hp2⟩ Q) : TX C P b ⟨tm,hp⟩ Q:=by
  subst h1 h2
  exact TX.weak (Wk.nil t es ht) hq
theorem TX.here {b : Code} {s : TS} {Q : Exit → TS → Prop} (h : TX C P b s Q) : TX C P b s Q:=h
theorem tmlc {α β : Type} {f : α → β} {xs : List α} {n : Nat} (h : xs.length = n) : (xs.map f).take n = xs.map f:=by subst h;exact tml
/-! ### functions of the runtime -/
def extF (P : Program) (g : FuncId) : Option (Array Value → Sem Value) :=
  match P.funcs[g]? with
  | some fd => if fd.body.isNone = true ∧ (fd.name == "runtime.NumGoroutine") = false ∧ (Extern.findNext fd).isNone = true then Extern.find fd else none
  | none=>none
/-! ### floats -/
variable {x y : Operand} {t u : TypeId}
def fcmp (op : BinOp) (k : FloatKind) (a b : Nat) : Bool :=
  let c:=k.format.order a b
  match op with
  | .eql=>c == some .eq
  | .neq=>c != some .eq
  | .lss=>c == some .lt
  | .leq=>c == some .lt || c == some .eq
  | .gtr=>c == some .gt
  | _=>c == some .gt || c == some .eq
def farith (op : BinOp) (k : FloatKind) (a b : Nat) : Option Nat :=
  match op with
  | .add=>k.format.add a b
  | .sub=>k.format.sub a b
  | .mul=>k.format.mul a b
  | _=>k.format.div a b
end
end Go.Rex

namespace Go.Rex
open Go.RowKit
section
variable {P : Program} {tm : List TV} {hp : List TB}
variable {dst : Option Tmp} {ty : TypeId} {pos : String} {aft : Array Edge} {gd : Option (Nat × Bool)} {x y : Operand} {t u : TypeId}
/-! ### complex numbers -/
/-! ### structures that are equal -/
theorem prun_isAgg {g : Bool} (h : aggB P t = some g) : prun P (isAgg t) = some g:=by
  unfold aggB at h
  unfold isAgg
  rw [prun_bind]
  split at h
  · rename_i hu;rw [prun_under hu];exact h
  · rename_i hu;rw [prun_under hu];exact h
  · rename_i d h1 h2 hu
    rw [prun_under hu,Option.bind_some]
    obtain rfl:=Option.some.inj h
    split
    · exact absurd rfl (h1 _)
    · exact absurd rfl (h2 _ _)
    · rfl
  · cases h
theorem part_atom {cs : Array Value} {off : Nat} {v : Value} (h : aggB P t = some false) (hg : cs[off]? = some v) : prun P (part t cs off) = some v:=by
  unfold part
  rw [prun_bind,prun_isAgg h,Option.bind_some]
  simp only [Bool.false_eq_true,if_false,hg]
  rfl
theorem eq_int {d : Nat} {k : IntKind} {a b : Int} (ht : P.underlying t = some (.int k)) : prun P (Op.equalIn (d + 1) t (.int k a) (.int k b)) = some (a == b):=by
  unfold Op.equalIn
  rw [prun_bind,prun_under ht]
  simp
  rfl
/-- field by field -/
inductive EqF (P : Program) (d : Nat) (X Y : Array Value) : List Field → List Bool → Prop
  | nil : EqF P d X Y [] []
  | cons {f : Field} {fs : List Field} {b : Bool} {bs : List Bool} {u v : Value} (hn : f.name ≠ "_") (hu : prun P (part f.type X f.offset) = some u) (hv : prun P (part f.type Y f.offset) = some v) (he : prun P (Op.equalIn d f.type u v) = some b) (hr : EqF P d X Y fs bs) : EqF P d X Y (f :: fs) (b :: bs)
theorem eq_loop {d : Nat} {X Y : Array Value} : ∀ (fs : List Field) (bs : List Bool), EqF P d X Y fs bs →
    prun P (forIn fs ((none, ()) : Option Bool × Unit) fun f _ => if f.name ≠ "_" then do
      if !(← Op.equalIn d f.type (← part f.type X f.offset) (← part f.type Y f.offset)) then pure (.done (some false,())) else pure (.yield (none,()))
      else pure (.yield (none,()))) = some (if bs.all id then (none,()) else (some false,()))
  | [],[],.nil=>rfl
  | f :: fs,b :: bs,.cons hn hu hv he hr=>by
    rw [List.forIn_cons,prun_bind]
    simp only [hn,ne_eq,not_false_eq_true,if_true]
    rw [prun_bind,hu,Option.bind_some,prun_bind,hv,Option.bind_some,prun_bind,he,Option.bind_some]
    cases b with
    | false=>rfl
    | true =>
      simp only [Bool.not_true,Bool.false_eq_true,if_false,prun_pure,Option.bind_some,List.all_cons,id,Bool.true_and]
      exact eq_loop fs bs hr
theorem eq_struct {d : Nat} {fields : Array Field} {X Y : Array Value} {bs : List Bool} (ht : P.underlying t = some (.struct fields)) (hs : P.stoodInHeld t = false) (hf : EqF P d X Y fields.toList bs) : prun P (Op.equalIn (d + 1) t (.agg X) (.agg Y)) = some (bs.all id):=by
  unfold Op.equalIn
  rw [prun_bind,prun_under ht]
  simp only [Option.bind_some]
  rw [prun_bind,show prun P program = some P from rfl,Option.bind_some]
  simp only [hs,Bool.false_eq_true,if_false]
  have:=eq_loop fields.toList bs hf
  rw [prun_bind,← Array.forIn_toList,this,Option.bind_some]
  cases bs.all id<;>rfl
theorem eq_guard {b : BinOp} {X Y : Array Value} (hg : P.eqGuardType P.depth t = false) : prun P (eqGuard b t x y (.agg X) (.agg Y)) = some ():=by
  unfold eqGuard
  cases b<;>first|rfl|(simp only [Bool.not_true,Bool.false_eq_true,if_false];rw [prun_bind,show prun P program = some P from rfl,Option.bind_some,prun_bind,show prun P program = some P from rfl,Option.bind_some];simp only [hg,Bool.not_false,if_true];rfl)
theorem eq_top {a b : Value} {r : Bool} (h : prun P (Op.equalIn (9999 + 1) t a b) = some r) : prun P (Op.equal t a b) = some r:=h
theorem pop_eqs {b : BinOp} {p q : TV} {X Y : Array Value} {r : Bool} (h : tev tm x = p) (g : tev tm y = q) (hX : er 3 p = some (.agg X)) (hY : er 3 q = some (.agg Y)) (cX : isClean (.agg X) = true) (cY : isClean (.agg Y) = true) (hn : tbin b p q = none) (hg : P.eqGuardType P.depth t = false)
    (he : prun P (Op.equal t (.agg X) (.agg Y)) = some r) (hb : b = .eql ∨ b = .neq) :
    tpop P hp tm { dst:=dst,op:=.binOp b t x y u,type:=ty,pos:=pos,after:=aft,guard:=gd } = some (.v (.bool (if b = .eql then r else !r))):=by
  have ex : erased tm x = .agg X:=by unfold erased;rw [h,hX];rfl
  have ey : erased tm y = .agg Y:=by unfold erased;rw [g,hY];rfl
  have sx : (er 3 (tev tm x)).isSome = true:=by rw [h,hX];rfl
  have sy : (er 3 (tev tm y)).isSome = true:=by rw [g,hY];rfl
  have h1 : tgen P tm { dst:=dst,op:=.binOp b t x y u,type:=ty,pos:=pos,after:=aft,guard:=gd } = some (inj 3 (.bool (if b = .eql then r else !r))):=by
    refine tgen_run ?_ (fun cs b e=>by cases e) (by simpa [Op.operands] using ⟨sx,sy⟩) (by simpa [Op.operands,ex,ey] using ⟨cX,cY⟩) ?_ rfl rfl
    · simp only [Rex.pop,ex,ey]
      rcases hb with rfl|rfl<;>rfl
    · show prun P ((eqGuard b t x y (erased tm x) (erased tm y) >>= fun _=>binOp b t (erased tm x) (erased tm y)) >>= fun r=>(pure (Next.value r) : Sem Next)) = _
      rw [prun_bind,ex,ey,prun_bind,eq_guard hg,Option.bind_some]
      rcases hb with rfl|rfl
      · simp only [binOp,if_true]
        rw [prun_bind,he]
        rfl
      · simp only [binOp]
        rw [prun_bind,he]
        rfl
  simp only [tpop,h,g,hn,orT]
  exact h1
theorem pop_eqs1 {b : BinOp} {p q : TV} {X Y : Array Value} {r : Bool} (h : tev tm x = p) (g : tev tm y = q) (hX : er 3 p = some (.agg X)) (hY : er 3 q = some (.agg Y)) (cX : isClean (.agg X) = true) (cY : isClean (.agg Y) = true) (hn : tbin b p q = none) (hg : P.eqGuardType P.depth t = false)
    (he : prun P (Op.equal t (.agg X) (.agg Y)) = some r) (hb : b = .eql) :
    tpop P hp tm { dst:=dst,op:=.binOp b t x y u,type:=ty,pos:=pos,after:=aft,guard:=gd } = some (.v (.bool r)):=by
  subst hb
  exact pop_eqs h g hX hY cX cY hn hg he (.inl rfl)
theorem pop_eqs2 {b : BinOp} {p q : TV} {X Y : Array Value} {r : Bool} (h : tev tm x = p) (g : tev tm y = q) (hX : er 3 p = some (.agg X)) (hY : er 3 q = some (.agg Y)) (cX : isClean (.agg X) = true) (cY : isClean (.agg Y) = true) (hn : tbin b p q = none) (hg : P.eqGuardType P.depth t = false)
    (he : prun P (Op.equal t (.agg X) (.agg Y)) = some r) (hb : b = .neq) :
    tpop P hp tm { dst:=dst,op:=.binOp b t x y u,type:=ty,pos:=pos,after:=aft,guard:=gd } = some (.v (.bool (!r))):=by
  subst hb
  exact pop_eqs h g hX hY cX cY hn hg he (.inr rfl)
end
end Go.Rex

namespace Go.Rex
open Go.RowKit
/-! ### short names for the walks -/
class Mv (p : Prop) (q : outParam Prop) : Prop where
  mv : q → p
theorem mv {p q : Prop} [i : Mv p q] (h : q) : p:=i.mv h
section
variable {C : Ctx} {P : Program} {s : TS} {Q : Exit → TS → Prop} {next : TS → Prop}
instance {x y : Code} : Mv (TX C P (.seq x y) s Q) (TX C P x s (seqT (fun s=>TX C P y s Q) Q)):=⟨TX.seq⟩
instance {id : Nat} {b : Code} : Mv (TX C P (.block id b) s Q) (TX C P b s (blockT id Q)):=⟨TX.block⟩
instance : Mv (TX C P .skip s Q) (Q .normal s):=⟨TX.skip⟩
instance {id : Nat} : Mv (TX C P (.exit id) s Q) (Q (.exit id) s):=⟨TX.exit⟩
instance : Mv (TX C P .ret s Q) (Q .ret s):=⟨TX.ret⟩
instance : Mv (seqT next Q .normal s) (next s):=⟨seqT_n⟩
instance {id : Nat} : Mv (seqT next Q (.exit id) s) (Q (.exit id) s):=⟨seqT_e⟩
instance : Mv (seqT next Q .ret s) (Q .ret s):=⟨seqT_r⟩
instance {id : Nat} : Mv (blockT id Q .normal s) (Q .normal s):=⟨blockT_n⟩
instance {id : Nat} : Mv (blockT id Q .ret s) (Q .ret s):=⟨blockT_r⟩
instance {id : Nat} : Mv (blockT id Q (.exit id) s) (Q .normal s):=⟨blockT_e⟩
end
theorem k1 {a : Bool} (h : a = true) : a = true:=h
theorem k2 {a : Option Bool} (h : a = some true) : a = some true:=h
def an {p q : Prop}:=@And.intro p q
def z6:=And.intro @List.toList_toArray.{0} <| And.intro @ite_true.{1} <| And.intro @ite_false.{1} <| And.intro @true_and <| And.intro @and_true <| And.intro @and_self <| And.intro @Bool.false_eq_true <| And.intro @decide_true @decide_false
def z7:=And.intro @List.getElem?_toArray.{0} <| And.intro @List.getElem?_cons_succ.{0} <| And.intro @List.getElem?_cons_zero.{0} @Option.bind_some.{0,0}
def zy:=And.intro z1 <| And.intro z2 z3
def zz:=And.intro z1 <| And.intro z2 <| And.intro z3 <| And.intro z4 z6
theorem wr {tm tm' : List TV} {hp hp' : List TB} (fl : List (Option Nat)) (hok : renOk fl = true) (hB : RB fl hp hp' fl) (hT : RNs fl tm tm':=by (repeat (first|exact RNs.nil|refine RNs.cons .junk ?_|refine RNs.cons (.keep rfl rfl) ?_|refine RNs.cons (.lsl rfl rfl) ?_|refine RNs.cons (.lsl rfl (by simp only [List.length_set])) ?_|refine RNs.cons (.lptr rfl) ?_|refine RNs.cons (.nil rfl) ?_|refine RNs.cons .nl ?_|refine RNs.cons (.tuple' ?_) ?_|refine RNs.cons (.agg' ?_) ?_))) : Wk ⟨tm,hp⟩ ⟨tm',hp'⟩:=Wk.ren fl hok hB hT
theorem rv {fl : List (Option Nat)} {hp : List TB} {n : Nat} {row row' : List TV} {hp' : List TB} {l : List (Option Nat)} (h : RB fl hp hp' l) (hb : hp[n]? = some (.var row)) (hr : RNs fl row row':=by (repeat (first|exact RNs.nil|refine RNs.cons .junk ?_|refine RNs.cons (.keep rfl rfl) ?_|refine RNs.cons (.lsl rfl rfl) ?_|refine RNs.cons (.lsl rfl (by simp only [List.length_set])) ?_|refine RNs.cons (.lptr rfl) ?_|refine RNs.cons (.nil rfl) ?_|refine RNs.cons .nl ?_|refine RNs.cons (.tuple' ?_) ?_|refine RNs.cons (.agg' ?_) ?_))) : RB fl hp (.var row' :: hp') (some n :: l):=.var h hb hr
/-! ### a slice of a whole array that is not written again -/
section
variable {C : Ctx} {P : Program} {ops : Array Oper} {rest : List Oper} {tm tm2 : List TV} {hp : List TB} {Q : TS → Prop}
variable {dst : Option Tmp} {ty : TypeId} {pos : String} {aft : Array Edge} {gd : Option (Nat × Bool)} {ms : List Nat} {i : Nat} {np : List Nat} {c : Nat}
/-! ### a literal as a list;a place of an array value -/
theorem bmG {α : Type} {f : α → List TV} {xs : List α} {t : TypeId} {n es : Nat} {ps : Array (Nat × Operand)} {l : List (Nat × TV)} {rows : List (List TV)} (hx : ps.toList.map (fun q => (q.1, tev tm q.2)) = l) (hv : tslice P t n l = some (es, rows)) (hr : rows = xs.map f) :
    OpG C P { dst:=dst,op:=.buildSlice t n ps,type:=ty,pos:=pos,after:=aft,guard:=gd } ⟨tm,hp⟩ ⟨tput tm dst (.list es (xs.map f)),hp⟩:=by
  subst hr
  exact OpG.buildSlice (s:=⟨tm,hp⟩) (by simp only [hx];exact hv)
theorem TO.bm {α : Type} (f : α → List TV) (xs : List α) {t : TypeId} {n es : Nat} {ps : Array (Nat × Operand)} {l : List (Nat × TV)} {rows : List (List TV)} (hw : twant ops tm { dst := dst, op := .buildSlice t n ps, type := ty, pos := pos, after := aft, guard := gd } = some true) (hx : ps.toList.map (fun q => (q.1, tev tm q.2)) = l) (hv : tslice P t n l = some (es, rows)) (hr : rows = xs.map f)
    (ht : tput tm dst (.list es (xs.map f)) = tm2) (hq : TO C P ops rest ⟨tm2,hp⟩ Q) : TO C P ops ({ dst:=dst,op:=.buildSlice t n ps,type:=ty,pos:=pos,after:=aft,guard:=gd } :: rest) ⟨tm,hp⟩ Q:=by
  subst ht;exact TO.g hw (bmG hx hv hr) hq
end
end Go.Rex

namespace Go.Rex
open Go.RowKit
/-! ### a list of one's own is frozen at a loop's end;a store at any index of an array of ints -/
section
variable {C : Ctx} {P : Program} {ops : Array Oper} {rest : List Oper} {tm tm2 : List TV} {hp hp2 : List TB} {Q : TS → Prop} {o : Oper}
variable {dst : Option Tmp} {ty : TypeId} {pos : String} {aft : Array Edge} {gd : Option (Nat × Bool)} {p q : TV} {ms : List Nat} {i : Nat} {np : List Nat} {c : Nat}
end
/-! ### arrays that are compared -/
theorem part_agg {P : Program} {t : TypeId} {cs : Array Value} {off n : Nat} {v : Value} (h : aggB P t = some true) (hs : prun P (sizeOf t) = some n) (hg : Value.agg (cs.extract off (off + n)) = v) : prun P (part t cs off) = some v:=by
  subst hg
  unfold part
  rw [prun_bind,prun_isAgg h,Option.bind_some]
  simp only [if_true]
  rw [prun_bind,hs,Option.bind_some]
  rfl
inductive EqI (P : Program) (d : Nat) (X Y : Array Value) (e n : Nat) : Nat → List Bool → Prop
  | nil (i : Nat) : EqI P d X Y e n i []
  | cons {i : Nat} {b : Bool} {bs : List Bool} {u v : Value} (hu : prun P (part e X (i * n)) = some u) (hv : prun P (part e Y (i * n)) = some v) (he : prun P (Op.equalIn d e u v) = some b) (hr : EqI P d X Y e n (i + 1) bs) : EqI P d X Y e n i (b :: bs)
theorem eqi_loop {P : Program} {d : Nat} {X Y : Array Value} {e n : Nat} : ∀ (bs : List Bool) (i : Nat), EqI P d X Y e n i bs →
    prun P (forIn (List.range' i bs.length 1) ((none,()) : Option Bool × Unit) fun i _=>do
      if !(← Op.equalIn d e (← part e X (i * n)) (← part e Y (i * n))) then pure (.done (some false,())) else pure (.yield (none,()))) = some (if bs.all id then (none,()) else (some false,()))
  | [],_,_=>rfl
  | b :: bs,i,.cons hu hv he hr=>by
    rw [List.length_cons,List.range'_succ,List.forIn_cons,prun_bind]
    rw [prun_bind,hu,Option.bind_some,prun_bind,hv,Option.bind_some,prun_bind,he,Option.bind_some]
    cases b with
    | false=>rfl
    | true =>
      simp only [Bool.not_true,Bool.false_eq_true,if_false,prun_pure,Option.bind_some,List.all_cons,id,Bool.true_and]
      exact eqi_loop bs (i + 1) hr
theorem eq_array {P : Program} {t : TypeId} {d len e n : Nat} {X Y : Array Value} {bs : List Bool} (ht : P.underlying t = some (.array len e)) (hs : prun P (sizeOf e) = some n) (hf : EqI P d X Y e n 0 bs) (hl : bs.length = len) : prun P (Op.equalIn (d + 1) t (.agg X) (.agg Y)) = some (bs.all id):=by
  subst hl
  unfold Op.equalIn
  rw [prun_bind,prun_under ht]
  simp only [Option.bind_some]
  rw [prun_bind,hs,Option.bind_some]
  simp only [Std.Legacy.Range.forIn_eq_forIn_range',Std.Legacy.Range.size,Nat.sub_zero,Nat.add_sub_cancel,Nat.div_one]
  rw [prun_bind,eqi_loop bs 0 hf,Option.bind_some]
  cases bs.all id<;>rfl
/-! ### a byte of a text -/
section
variable {P : Program} {tm : List TV} {hp : List TB} {dst : Option Tmp} {ty : TypeId} {pos : String} {aft : Array Edge} {gd : Option (Nat × Bool)}
end
end Go.Rex

namespace Go.Rex
open Go.RowKit
/-! ### code without ranges over functions: neither the marks nor the range around it matter -/
end Go.Rex

namespace Go.Rex
open Go.RowKit
/-! ### marks are kept by all that runs above them -/
def Keeps (h h' : List Blk) : Prop:=h.length ≤ h'.length ∧ ∀ m : Nat,h[m]? = some Blk.dfr → h'[m]? = some Blk.dfr
section
variable {P : Program} {C : Ctx}
structure CKeeps (C : Ctx) : Prop where
  call : ∀ {f args h v h' w},C.call f args h = some (v,h',w) → Keeps h h'
  round : ∀ {l args h v h' w},C.round l args h = some (v,h',w) → Keeps h h'
end
end Go.Rex

namespace Go.Rex
open Go.RowKit
/-! ### code with marks: what stands behind a range over a function -/
section
variable {Fz Fz' : Nat → Prop} {h0 h h' : List Blk} {L : Nat → LI} {s s' : TS} {tm : List Value}
end
section
variable {C : Ctx} {P : Program} {s s' : TS} {Q Q' : Exit → TS → Prop}
end
end Go.Rex

namespace Go.Rex
open Go.RowKit
/-! ### bodies of iterators: code that calls back,and owns nothing while it does -/
/-- what stands outside: 'R x Fz h': the state is x, what is frozen is Fz -/
structure Out (X : Type) where
  lo : Nat
  base : Nat
  R : X → (Nat → Prop) → List Blk → Prop
  hlo : lo ≤ base
  stay : ∀ {x : X} {Fz Fz' : Nat → Prop} {h h' : List Blk},R x Fz h → Ext h h' → Grow h Fz Fz' h h' → (∀ n,Fz' n → n < h'.length) → R x Fz' h'
section
variable {E X : Type} {C : Ctx} {P : Program} {O : Out X}
variable {tm tm' : List TV} {s s' : TS} {x : X} {Q Q' : Exit → List TV → X → Prop} {c : Code}
/-! ### a region with a call back -/
/-- the operation that calls back -/
structure Back (o : Oper) (f : Operand) (args : List Operand) (dst : Option Tmp) : Prop where
  eq : ∃ (tys : Array TypeId) (ty : TypeId) (pos : String) (aft : Array Edge) (gd : Option (Nat × Bool)),o = { dst:=dst,op:=.call { callee:=.value f,args:=⟨args⟩,argTypes:=tys },type:=ty,pos:=pos,after:=aft,guard:=gd }
section
variable {nexty : List TV → X → Prop}
end
/-! ### the contract of an iterator's body -/
end
end Go.Rex

namespace Go.Rex
open Go.RowKit
/-! ### which slots code writes -/
def odsts : List Oper → List Nat
  | []=>[]
  | o :: l=>match o.dst with
    | some d=>d :: odsts l
    | none=>odsts l
def cdsts : Code → List Nat
  | .seq x y=>cdsts x ++ cdsts y
  | .cond _ x y=>cdsts x ++ cdsts y
  | .block _ b=>cdsts b
  | .loop b=>cdsts b
  | .region _ ops _=>odsts ops.toList
  | _=>[]
section
variable {P : Program} {C : Ctx}
end
end Go.Rex

namespace Go.Rex
open Go.RowKit
/-! ### a range over a function,from outside -/
section
variable {Fz Fz' : Nat → Prop} {h0 h h' : List Blk} {L : Nat → LI} {s s' : TS} {tm : List Value}
end
section
variable {P : Program}
variable {s : TS} {Q : Exit → TS → Prop}
end
end Go.Rex

namespace Go.Rex
open Go.RowKit
section
variable {C : Ctx} {P : Program} {tm tm2 : List TV} {hp : List TB} {ops : Array Oper} {rest : List Oper} {Q : TS → Prop}
variable {dst : Option Tmp} {ty : TypeId} {pos : String} {aft : Array Edge} {gd : Option (Nat × Bool)} {x y : Operand} {t u : TypeId}
/-! ### further operations -/
/-- the product of complex numbers of two doubles each -/
def cmul (a b c d : Nat) : Option (Nat × Nat) :=
  (farith .mul .f64 a c).bind fun p=>(farith .mul .f64 b d).bind fun q=>(farith .sub .f64 p q).bind fun r=>(farith .mul .f64 a d).bind fun s=>(farith .mul .f64 b c).bind fun t=>(farith .add .f64 s t).map fun u=>(r,u)
/-! ### == nil on a slice -/
open Classical in
noncomputable def nilq {α β : Type} (xs : List α) (a b : Option β) : Option β:=if xs = [] then (if a = b then b else none) else b
end
end Go.Rex

namespace Go.Rex
open Go.RowKit
section
variable {C : Ctx} {P : Program} {Fz : Nat → Prop} {h h0 : List Blk} {L : Nat → LI} {s : TS} {tm : List Value}
variable {dst : Option Tmp} {ty : TypeId} {pos : String} {aft : Array Edge} {gd : Option (Nat × Bool)}

end

/-! ### as they are used -/
section
variable {C : Ctx} {P : Program} {ops : Array Oper} {rest : List Oper} {tm tm2 : List TV} {hp hp2 : List TB} {Q : TS → Prop} {o : Oper}
variable {dst : Option Tmp} {ty : TypeId} {pos : String} {aft : Array Edge} {gd : Option (Nat × Bool)} {p q : TV} {ms : List Nat} {i : Nat} {np : List Nat} {c : Nat}
end
section
variable {C : Ctx} {P : Program} {tm tm2 : List TV} {hp hp2 : List TB} {Q : Exit → TS → Prop} {c : Code}
end
end Go.Rex

namespace Go.Rex
open Go.RowKit

/-! ### an executor that knows what one function returns -/
def ctxO (P : Program) (g : FuncId) (res : List Blk → Value × List Blk) (k : Nat) : Nat → Ctx
  | 0=>⟨fun _ _ _=>none,fun _ _ _=>none⟩
  | d + 1=>⟨fun f args h=>if f = g then (match args with|[]=>some ((res h).1,(res h).2,none)|_=>none) else runCall (ctxO P g res k d) P k f args h,runRound (ctxO P g res k d) P k⟩
def ResOk (P : Program) (g : FuncId) (res : List Blk → Value × List Blk) : Prop :=
  ∀ (h : List Blk) (B lo : Nat) (D : Nat → Prop) (m : NMap) (w : World),Rel B lo D m h w → lo ≤ h.length → Calls P g ⟨[]⟩ w (Good B lo D m h w (res h).1 (res h).2)
theorem ctxO_ok {P : Program} (hm : P.follows .mixedOrders = true) {g : FuncId} {res : List Blk → Value × List Blk} (hres : ResOk P g res) (k : Nat) : ∀ d,CtxOk P (ctxO P g res k d)
  | 0=>⟨fun h=>by simp [ctxO] at h,fun h=>by simp [ctxO] at h⟩
  | d + 1 =>
    have hD : DrawSound P (ctxO P g res k d):=fun {_ _ _ _ _ _ _} hv {_ _ _ _ _ _ _ _ _} hr hlo hA hw hQ=>drawSound (ctxO_ok hm hres k d) hm hv hr hlo hA hw hQ
    ⟨fun {f args h v h' wr} hv {B lo D m w args'} hr hlo hw hargs=>by
      simp only [ctxO] at hv
      split at hv
      · rename_i hf
        subst hf
        split at hv
        · obtain ⟨rfl,rfl,rfl⟩ : (res h).1 = v ∧ (res h).2 = h' ∧ none = wr:=by simpa using hv
          obtain rfl : args' = []:=by have:=hargs.len;simpa using this
          exact hres _ _ _ _ _ _ hr hlo
        · cases hv
      · exact runCall_sound (ctxO_ok hm hres k d) hD hv hr hlo hw hargs,fun h=>runRound_sound (ctxO_ok hm hres k d) hD h⟩
def ecallO (P : Program) (g : FuncId) (res : List Blk → Value × List Blk) (k d : Nat) (f : FuncId) (args : List Value) (h : List Blk) : AOut:=(ctxO P g res k d).call f args h
theorem awT_of_ecallO {P : Program} (hm : P.follows .mixedOrders = true) {g : FuncId} {res : List Blk → Value × List Blk} (hres : ResOk P g res) {k d : Nat} {f : FuncId} (hv : isTrue (ecallO P g res k d f [] GH) = true) : AwT P f:=by
  intro w hgw hgs
  unfold isTrue at hv
  split at hv
  · rename_i h' hx
    refine ((ctxO_ok hm hres k d).call hx (Rel.start w hgw hgs) (Nat.le_refl _) (fun n h=>by cases h) VRs.nil).mono ?_
    rintro e w' ⟨v',m',rfl,hp,hvr⟩
    cases hvr
    exact ⟨rfl,hp.below⟩
  · cases hv
end Go.Rex

namespace Go.Rex
open Go.RowKit
/-! ### what an execution does not say to have written is as it was -/
def Olds (h h' : List Blk) (w : Option Nat) : Prop:=h.length ≤ h'.length ∧ ∀ m : Nat,m < h.length → wge w (m + 1) = true → h'[m]? = h[m]?
section
variable {P : Program} {C : Ctx}
structure COlds (C : Ctx) : Prop where
  call : ∀ {f args h v h' w},C.call f args h = some (v,h',w) → Olds h h' w
  round : ∀ {l args h v h' w},C.round l args h = some (v,h',w) → Olds h h' w
end
end Go.Rex

namespace Go.Rex
open Go.RowKit
section
variable {C : Ctx} {P : Program} {h0 h h' : List Blk} {Fz Fz' : Nat → Prop} {L L' : Nat → LI} {s s' : TS} {tm : List Value}
/-- own lists that no slot but those of the parameters need name: where the parameters stand -/
def stays (args : List TV) (c : Code) (tm : List TV) (n : Nat) : Bool:=(List.range args.length).any fun i=>match args[i]?,tm[i]? with
  | some (.lsl m 0 _),some (.lsl m' 0 _)=>m == n && m' == n && !(cdsts c).contains i
  | _,_=>false
end
end Go.Rex

namespace Go.Rex
open Go.RowKit
section
variable {C : Ctx} {P : Program} {h0 h h' : List Blk} {Fz Fz' : Nat → Prop} {L L' : Nat → LI} {s s' : TS} {tm : List Value} {dst : Option Tmp} {ty : TypeId} {pos : String} {aft : Array Edge} {gd : Option (Nat × Bool)}
variable {ops : Array Oper} {o : Oper} {rest : List Oper} {Q : TS → Prop} {ms : List Nat} {i : Nat} {np : List Nat} {c : Nat} {tv tv2 : List TV} {hp hp2 : List TB}
/-! ### a law: it may call f,which is true -/
end
end Go.Rex

namespace Go.Rex
open Go.RowKit
section
variable {C : Ctx} {P : Program} {s s' : TS} {dst : Option Tmp} {ty : TypeId} {pos : String} {aft : Array Edge} {gd : Option (Nat × Bool)}
/-- a list that was written has the length that it had -/
noncomputable def lenAs {α : Type} (a b : List α) : List α:=if b.length = a.length then b else a
/-- lists, in pairs: before and behind the call -/
inductive Pair : List TB → List TB → List TB → Prop
  | nil : Pair [] [] []
  | cons {es : Nat} {α : Type} {f : α → List TV} {a b : List α} {B B' B2 : List TB} (h : Pair B B' B2) : Pair (.rows es (a.map f) :: B) (.rows es (b.map f) :: B') (.rows es ((lenAs a b).map f) :: B2)
variable {ops : Array Oper} {o : Oper} {rest : List Oper} {Q : TS → Prop} {ms : List Nat} {i : Nat} {np : List Nat} {c : Nat} {tv tv2 : List TV} {hp hp2 : List TB}
end
end Go.Rex

namespace Go.Rex
/-! ### max and min of three -/
section
variable {P : Program} {tm : List TV} {hp : List TB} {dst : Option Tmp} {ty : TypeId} {pos : String} {aft : Array Edge} {gd : Option (Nat × Bool)} {x y z : Operand} {tys : List TypeId}
end
end Go.Rex

open Go Go.Rex Go.RowKit
namespace Go.Rex
/-! ### steps of a walk,as default arguments: what a printed proof says at each place is said once -/
theorem wA {A G H : Prop} (T : A) (h : A → H → G:=by (intro T g;(repeat (first|with_reducible refine mv ?_|with_reducible refine TO.nil ?_|((with_reducible first|apply TO.mv|apply TO.asg|apply TO.bin|apply TO.ld|apply TO.fa|apply TO.ia|apply TO.pk|apply TO.sv|apply TO.al|apply TO.bld|apply TO.ext|apply TO.mf );(repeat (focus (show _ = _;first|exact k1 rfl|exact k2 rfl|(simp only [zz,T,Nat.reduceAdd,Nat.reduceMul,Nat.reduceLeDiff,Nat.reduceEqDiff,tload,rowOf,partT,List.getElem?_map,tfieldAddr,tindexAddr,Nat.zero_add,tlen,tbuild,tfill,tfield]<;>exact rfl)|exact rfl)));(with_reducible apply TO.here))|((with_reducible apply TO.skip1);(repeat (focus (show _ = _;first|exact k1 rfl|exact k2 rfl|(simp only [zz,T,Nat.reduceAdd,Nat.reduceMul,Nat.reduceLeDiff,Nat.reduceEqDiff,twant,List.getElem?_toArray,Option.bind_some]<;>exact rfl)|exact rfl)));(with_reducible apply TO.here))|with_reducible refine TD.nil ?_|((with_reducible first|apply TD.mv|apply TD.asg|apply TD.bin|apply TD.ld|apply TD.fa|apply TD.ia|apply TD.pk|apply TD.sv|apply TD.al|apply TD.bld|apply TD.ext|apply TD.mf );(repeat (focus (show _ = _;first|exact k1 rfl|exact k2 rfl|(simp only [zz,T,Nat.reduceAdd,Nat.reduceMul,Nat.reduceLeDiff,Nat.reduceEqDiff,tload,rowOf,partT,List.getElem?_map,tfieldAddr,tindexAddr,Nat.zero_add,tlen,tbuild,tfill,tfield]<;>exact rfl)|exact rfl)));(with_reducible refine TD.here ?_))|((with_reducible apply TD.skip1);(repeat (focus (show _ = _;first|exact k1 rfl|exact k2 rfl|(simp only [zz,T,Nat.reduceAdd,Nat.reduceMul,Nat.reduceLeDiff,Nat.reduceEqDiff,twant,List.getElem?_toArray,Option.bind_some]<;>exact rfl)|exact rfl)));(with_reducible refine TD.here ?_))|((with_reducible apply TX.cond_true);(focus rfl);(focus (first|rfl|(simp only [z1,Bool.not_true,Bool.not_false,T];done))))|((with_reducible apply TX.cond_false);(focus rfl);(focus (first|rfl|(simp only [z1,Bool.not_true,Bool.not_false,T];done))))|((with_reducible apply TX.region);(focus (simp only [List.toList_toArray]<;>exact rfl));(focus rfl);(try dsimp only))|((with_reducible apply TX.drawn);(focus decide +kernel);(focus (simp only [List.toList_toArray]<;>exact rfl));(focus exact rfl);(try dsimp only))|fail));exact g)) (g : H) : G:=h T g
theorem wa_ {A G H : Prop} (T : A) (h : A → H → G:=by (intro T g;(repeat (first|with_reducible refine mv ?_|with_reducible refine TO.nil ?_|((with_reducible first|apply TO.mv|apply TO.asg|apply TO.bin|apply TO.fa|apply TO.ia|apply TO.pk|apply TO.sv|apply TO.al|apply TO.bld|apply TO.ext|apply TO.mf );(repeat (focus (show _ = _;first|exact k1 rfl|exact k2 rfl|(simp only [zz,T,Nat.reduceAdd,Nat.reduceMul,Nat.reduceLeDiff,Nat.reduceEqDiff,tload,rowOf,partT,List.getElem?_map,tfieldAddr,tindexAddr,Nat.zero_add,tlen,tbuild,tfill,tfield]<;>exact rfl)|exact rfl)));(with_reducible apply TO.here))|((with_reducible apply TO.skip1);(repeat (focus (show _ = _;first|exact k1 rfl|exact k2 rfl|(simp only [zz,T,Nat.reduceAdd,Nat.reduceMul,Nat.reduceLeDiff,Nat.reduceEqDiff,twant,List.getElem?_toArray,Option.bind_some]<;>exact rfl)|exact rfl)));(with_reducible apply TO.here))|with_reducible refine TD.nil ?_|((with_reducible first|apply TD.mv|apply TD.asg|apply TD.bin|apply TD.fa|apply TD.ia|apply TD.pk|apply TD.sv|apply TD.al|apply TD.bld|apply TD.ext|apply TD.mf );(repeat (focus (show _ = _;first|exact k1 rfl|exact k2 rfl|(simp only [zz,T,Nat.reduceAdd,Nat.reduceMul,Nat.reduceLeDiff,Nat.reduceEqDiff,tload,rowOf,partT,List.getElem?_map,tfieldAddr,tindexAddr,Nat.zero_add,tlen,tbuild,tfill,tfield]<;>exact rfl)|exact rfl)));(with_reducible refine TD.here ?_))|((with_reducible apply TD.skip1);(repeat (focus (show _ = _;first|exact k1 rfl|exact k2 rfl|(simp only [zz,T,Nat.reduceAdd,Nat.reduceMul,Nat.reduceLeDiff,Nat.reduceEqDiff,twant,List.getElem?_toArray,Option.bind_some]<;>exact rfl)|exact rfl)));(with_reducible refine TD.here ?_))|((with_reducible apply TX.cond_true);(focus rfl);(focus (first|rfl|(simp only [z1,Bool.not_true,Bool.not_false,T];done))))|((with_reducible apply TX.cond_false);(focus rfl);(focus (first|rfl|(simp only [z1,Bool.not_true,Bool.not_false,T];done))))|((with_reducible apply TX.region);(focus (simp only [List.toList_toArray]<;>exact rfl));(focus rfl);(try dsimp only))|((with_reducible apply TX.drawn);(focus decide +kernel);(focus (simp only [List.toList_toArray]<;>exact rfl));(focus exact rfl);(try dsimp only))|fail));exact g)) (g : H) : G:=h T g
theorem wB {A G H : Prop} (T : A) (h : A → H → G:=by (intro T g;(repeat (first|with_reducible refine mv ?_|with_reducible refine TO.nil ?_|((with_reducible first|apply TO.mv|apply TO.asg|apply TO.bin|apply TO.ld|apply TO.fa|apply TO.ia|apply TO.pk|apply TO.sv|apply TO.al|apply TO.bf|apply TO.bld|apply TO.ext|apply TO.mf );(repeat (focus (show _ = _;first|exact k1 rfl|exact k2 rfl|(simp only [zz,T,Nat.reduceAdd,Nat.reduceMul,Nat.reduceLeDiff,Nat.reduceEqDiff,tload,rowOf,partT,List.getElem?_map,tfieldAddr,tindexAddr,Nat.zero_add,tlen,tbuild,tfill,tfield]<;>exact rfl)|exact rfl)));(with_reducible apply TO.here))|((with_reducible apply TO.skip1);(repeat (focus (show _ = _;first|exact k1 rfl|exact k2 rfl|(simp only [zz,T,Nat.reduceAdd,Nat.reduceMul,Nat.reduceLeDiff,Nat.reduceEqDiff,twant,List.getElem?_toArray,Option.bind_some]<;>exact rfl)|exact rfl)));(with_reducible apply TO.here))|with_reducible refine TD.nil ?_|((with_reducible first|apply TD.mv|apply TD.asg|apply TD.bin|apply TD.ld|apply TD.fa|apply TD.ia|apply TD.pk|apply TD.sv|apply TD.al|apply TD.bld|apply TD.ext|apply TD.mf );(repeat (focus (show _ = _;first|exact k1 rfl|exact k2 rfl|(simp only [zz,T,Nat.reduceAdd,Nat.reduceMul,Nat.reduceLeDiff,Nat.reduceEqDiff,tload,rowOf,partT,List.getElem?_map,tfieldAddr,tindexAddr,Nat.zero_add,tlen,tbuild,tfill,tfield]<;>exact rfl)|exact rfl)));(with_reducible refine TD.here ?_))|((with_reducible apply TD.skip1);(repeat (focus (show _ = _;first|exact k1 rfl|exact k2 rfl|(simp only [zz,T,Nat.reduceAdd,Nat.reduceMul,Nat.reduceLeDiff,Nat.reduceEqDiff,twant,List.getElem?_toArray,Option.bind_some]<;>exact rfl)|exact rfl)));(with_reducible refine TD.here ?_))|((with_reducible apply TX.cond_true);(focus rfl);(focus (first|rfl|(simp only [z1,Bool.not_true,Bool.not_false,T];done))))|((with_reducible apply TX.cond_false);(focus rfl);(focus (first|rfl|(simp only [z1,Bool.not_true,Bool.not_false,T];done))))|((with_reducible apply TX.region);(focus (simp only [List.toList_toArray]<;>exact rfl));(focus rfl);(try dsimp only))|((with_reducible apply TX.drawn);(focus decide +kernel);(focus (simp only [List.toList_toArray]<;>exact rfl));(focus exact rfl);(try dsimp only))|fail));exact g)) (g : H) : G:=h T g
theorem wb_ {A G H : Prop} (T : A) (h : A → H → G:=by (intro T g;(repeat (first|with_reducible refine mv ?_|with_reducible refine TO.nil ?_|((with_reducible first|apply TO.mv|apply TO.asg|apply TO.bin|apply TO.fa|apply TO.ia|apply TO.pk|apply TO.sv|apply TO.al|apply TO.bf|apply TO.bld|apply TO.ext|apply TO.mf );(repeat (focus (show _ = _;first|exact k1 rfl|exact k2 rfl|(simp only [zz,T,Nat.reduceAdd,Nat.reduceMul,Nat.reduceLeDiff,Nat.reduceEqDiff,tload,rowOf,partT,List.getElem?_map,tfieldAddr,tindexAddr,Nat.zero_add,tlen,tbuild,tfill,tfield]<;>exact rfl)|exact rfl)));(with_reducible apply TO.here))|((with_reducible apply TO.skip1);(repeat (focus (show _ = _;first|exact k1 rfl|exact k2 rfl|(simp only [zz,T,Nat.reduceAdd,Nat.reduceMul,Nat.reduceLeDiff,Nat.reduceEqDiff,twant,List.getElem?_toArray,Option.bind_some]<;>exact rfl)|exact rfl)));(with_reducible apply TO.here))|with_reducible refine TD.nil ?_|((with_reducible first|apply TD.mv|apply TD.asg|apply TD.bin|apply TD.fa|apply TD.ia|apply TD.pk|apply TD.sv|apply TD.al|apply TD.bld|apply TD.ext|apply TD.mf );(repeat (focus (show _ = _;first|exact k1 rfl|exact k2 rfl|(simp only [zz,T,Nat.reduceAdd,Nat.reduceMul,Nat.reduceLeDiff,Nat.reduceEqDiff,tload,rowOf,partT,List.getElem?_map,tfieldAddr,tindexAddr,Nat.zero_add,tlen,tbuild,tfill,tfield]<;>exact rfl)|exact rfl)));(with_reducible refine TD.here ?_))|((with_reducible apply TD.skip1);(repeat (focus (show _ = _;first|exact k1 rfl|exact k2 rfl|(simp only [zz,T,Nat.reduceAdd,Nat.reduceMul,Nat.reduceLeDiff,Nat.reduceEqDiff,twant,List.getElem?_toArray,Option.bind_some]<;>exact rfl)|exact rfl)));(with_reducible refine TD.here ?_))|((with_reducible apply TX.cond_true);(focus rfl);(focus (first|rfl|(simp only [z1,Bool.not_true,Bool.not_false,T];done))))|((with_reducible apply TX.cond_false);(focus rfl);(focus (first|rfl|(simp only [z1,Bool.not_true,Bool.not_false,T];done))))|((with_reducible apply TX.region);(focus (simp only [List.toList_toArray]<;>exact rfl));(focus rfl);(try dsimp only))|((with_reducible apply TX.drawn);(focus decide +kernel);(focus (simp only [List.toList_toArray]<;>exact rfl));(focus exact rfl);(try dsimp only))|fail));exact g)) (g : H) : G:=h T g
theorem wC {A G H : Prop} (T : A) (h : A → H → G:=by (intro T g;(repeat (first|with_reducible refine mv ?_|with_reducible refine TO.nil ?_|((with_reducible first|apply TO.mv|apply TO.asg|apply TO.bin|apply TO.ld|apply TO.fa|apply TO.ia|apply TO.pk|apply TO.sv|apply TO.al|apply TO.len|apply TO.bld|apply TO.ext|apply TO.mf );(repeat (focus (show _ = _;first|exact k1 rfl|exact k2 rfl|(simp only [zz,T,Nat.reduceAdd,Nat.reduceMul,Nat.reduceLeDiff,Nat.reduceEqDiff,tload,rowOf,partT,List.getElem?_map,tfieldAddr,tindexAddr,Nat.zero_add,tlen,tbuild,tfill,tfield]<;>exact rfl)|exact rfl)));(with_reducible apply TO.here))|((with_reducible apply TO.skip1);(repeat (focus (show _ = _;first|exact k1 rfl|exact k2 rfl|(simp only [zz,T,Nat.reduceAdd,Nat.reduceMul,Nat.reduceLeDiff,Nat.reduceEqDiff,twant,List.getElem?_toArray,Option.bind_some]<;>exact rfl)|exact rfl)));(with_reducible apply TO.here))|with_reducible refine TD.nil ?_|((with_reducible first|apply TD.mv|apply TD.asg|apply TD.bin|apply TD.ld|apply TD.fa|apply TD.ia|apply TD.pk|apply TD.sv|apply TD.al|apply TD.len|apply TD.bld|apply TD.ext|apply TD.mf );(repeat (focus (show _ = _;first|exact k1 rfl|exact k2 rfl|(simp only [zz,T,Nat.reduceAdd,Nat.reduceMul,Nat.reduceLeDiff,Nat.reduceEqDiff,tload,rowOf,partT,List.getElem?_map,tfieldAddr,tindexAddr,Nat.zero_add,tlen,tbuild,tfill,tfield]<;>exact rfl)|exact rfl)));(with_reducible refine TD.here ?_))|((with_reducible apply TD.skip1);(repeat (focus (show _ = _;first|exact k1 rfl|exact k2 rfl|(simp only [zz,T,Nat.reduceAdd,Nat.reduceMul,Nat.reduceLeDiff,Nat.reduceEqDiff,twant,List.getElem?_toArray,Option.bind_some]<;>exact rfl)|exact rfl)));(with_reducible refine TD.here ?_))|((with_reducible apply TX.cond_true);(focus rfl);(focus (first|rfl|(simp only [z1,Bool.not_true,Bool.not_false,T];done))))|((with_reducible apply TX.cond_false);(focus rfl);(focus (first|rfl|(simp only [z1,Bool.not_true,Bool.not_false,T];done))))|((with_reducible apply TX.region);(focus (simp only [List.toList_toArray]<;>exact rfl));(focus rfl);(try dsimp only))|((with_reducible apply TX.drawn);(focus decide +kernel);(focus (simp only [List.toList_toArray]<;>exact rfl));(focus exact rfl);(try dsimp only))|fail));exact g)) (g : H) : G:=h T g
theorem wc_ {A G H : Prop} (T : A) (h : A → H → G:=by (intro T g;(repeat (first|with_reducible refine mv ?_|with_reducible refine TO.nil ?_|((with_reducible first|apply TO.mv|apply TO.asg|apply TO.bin|apply TO.fa|apply TO.ia|apply TO.pk|apply TO.sv|apply TO.al|apply TO.len|apply TO.bld|apply TO.ext|apply TO.mf );(repeat (focus (show _ = _;first|exact k1 rfl|exact k2 rfl|(simp only [zz,T,Nat.reduceAdd,Nat.reduceMul,Nat.reduceLeDiff,Nat.reduceEqDiff,tload,rowOf,partT,List.getElem?_map,tfieldAddr,tindexAddr,Nat.zero_add,tlen,tbuild,tfill,tfield]<;>exact rfl)|exact rfl)));(with_reducible apply TO.here))|((with_reducible apply TO.skip1);(repeat (focus (show _ = _;first|exact k1 rfl|exact k2 rfl|(simp only [zz,T,Nat.reduceAdd,Nat.reduceMul,Nat.reduceLeDiff,Nat.reduceEqDiff,twant,List.getElem?_toArray,Option.bind_some]<;>exact rfl)|exact rfl)));(with_reducible apply TO.here))|with_reducible refine TD.nil ?_|((with_reducible first|apply TD.mv|apply TD.asg|apply TD.bin|apply TD.fa|apply TD.ia|apply TD.pk|apply TD.sv|apply TD.al|apply TD.len|apply TD.bld|apply TD.ext|apply TD.mf );(repeat (focus (show _ = _;first|exact k1 rfl|exact k2 rfl|(simp only [zz,T,Nat.reduceAdd,Nat.reduceMul,Nat.reduceLeDiff,Nat.reduceEqDiff,tload,rowOf,partT,List.getElem?_map,tfieldAddr,tindexAddr,Nat.zero_add,tlen,tbuild,tfill,tfield]<;>exact rfl)|exact rfl)));(with_reducible refine TD.here ?_))|((with_reducible apply TD.skip1);(repeat (focus (show _ = _;first|exact k1 rfl|exact k2 rfl|(simp only [zz,T,Nat.reduceAdd,Nat.reduceMul,Nat.reduceLeDiff,Nat.reduceEqDiff,twant,List.getElem?_toArray,Option.bind_some]<;>exact rfl)|exact rfl)));(with_reducible refine TD.here ?_))|((with_reducible apply TX.cond_true);(focus rfl);(focus (first|rfl|(simp only [z1,Bool.not_true,Bool.not_false,T];done))))|((with_reducible apply TX.cond_false);(focus rfl);(focus (first|rfl|(simp only [z1,Bool.not_true,Bool.not_false,T];done))))|((with_reducible apply TX.region);(focus (simp only [List.toList_toArray]<;>exact rfl));(focus rfl);(try dsimp only))|((with_reducible apply TX.drawn);(focus decide +kernel);(focus (simp only [List.toList_toArray]<;>exact rfl));(focus exact rfl);(try dsimp only))|fail));exact g)) (g : H) : G:=h T g
theorem wD {A G H : Prop} (T : A) (h : A → H → G:=by (intro T g;(repeat (first|with_reducible refine mv ?_|with_reducible refine TO.nil ?_|((with_reducible first|apply TO.mv|apply TO.asg|apply TO.bin|apply TO.ld|apply TO.fa|apply TO.ia|apply TO.pk|apply TO.sv|apply TO.al|apply TO.bf|apply TO.len|apply TO.bld|apply TO.ext|apply TO.mf );(repeat (focus (show _ = _;first|exact k1 rfl|exact k2 rfl|(simp only [zz,T,Nat.reduceAdd,Nat.reduceMul,Nat.reduceLeDiff,Nat.reduceEqDiff,tload,rowOf,partT,List.getElem?_map,tfieldAddr,tindexAddr,Nat.zero_add,tlen,tbuild,tfill,tfield]<;>exact rfl)|exact rfl)));(with_reducible apply TO.here))|((with_reducible apply TO.skip1);(repeat (focus (show _ = _;first|exact k1 rfl|exact k2 rfl|(simp only [zz,T,Nat.reduceAdd,Nat.reduceMul,Nat.reduceLeDiff,Nat.reduceEqDiff,twant,List.getElem?_toArray,Option.bind_some]<;>exact rfl)|exact rfl)));(with_reducible apply TO.here))|with_reducible refine TD.nil ?_|((with_reducible first|apply TD.mv|apply TD.asg|apply TD.bin|apply TD.ld|apply TD.fa|apply TD.ia|apply TD.pk|apply TD.sv|apply TD.al|apply TD.len|apply TD.bld|apply TD.ext|apply TD.mf );(repeat (focus (show _ = _;first|exact k1 rfl|exact k2 rfl|(simp only [zz,T,Nat.reduceAdd,Nat.reduceMul,Nat.reduceLeDiff,Nat.reduceEqDiff,tload,rowOf,partT,List.getElem?_map,tfieldAddr,tindexAddr,Nat.zero_add,tlen,tbuild,tfill,tfield]<;>exact rfl)|exact rfl)));(with_reducible refine TD.here ?_))|((with_reducible apply TD.skip1);(repeat (focus (show _ = _;first|exact k1 rfl|exact k2 rfl|(simp only [zz,T,Nat.reduceAdd,Nat.reduceMul,Nat.reduceLeDiff,Nat.reduceEqDiff,twant,List.getElem?_toArray,Option.bind_some]<;>exact rfl)|exact rfl)));(with_reducible refine TD.here ?_))|((with_reducible apply TX.cond_true);(focus rfl);(focus (first|rfl|(simp only [z1,Bool.not_true,Bool.not_false,T];done))))|((with_reducible apply TX.cond_false);(focus rfl);(focus (first|rfl|(simp only [z1,Bool.not_true,Bool.not_false,T];done))))|((with_reducible apply TX.region);(focus (simp only [List.toList_toArray]<;>exact rfl));(focus rfl);(try dsimp only))|((with_reducible apply TX.drawn);(focus decide +kernel);(focus (simp only [List.toList_toArray]<;>exact rfl));(focus exact rfl);(try dsimp only))|fail));exact g)) (g : H) : G:=h T g
theorem we_ {A G H : Prop} (T : A) (h : A → H → G:=by (intro T g;(repeat (first|with_reducible refine mv ?_|with_reducible refine TO.nil ?_|((with_reducible first|apply TO.mv|apply TO.asg|apply TO.bin|apply TO.fa|apply TO.ia|apply TO.pk|apply TO.sv|apply TO.al|apply TO.bld|apply TO.ext|apply TO.bs|apply TO.mf );(repeat (focus (show _ = _;first|exact k1 rfl|exact k2 rfl|(simp only [zz,T,Nat.reduceAdd,Nat.reduceMul,Nat.reduceLeDiff,Nat.reduceEqDiff,tload,rowOf,partT,List.getElem?_map,tfieldAddr,tindexAddr,Nat.zero_add,tlen,tbuild,tfill,tfield,tslice,tparts]<;>exact rfl)|exact rfl)));(with_reducible apply TO.here))|((with_reducible apply TO.skip1);(repeat (focus (show _ = _;first|exact k1 rfl|exact k2 rfl|(simp only [zz,T,Nat.reduceAdd,Nat.reduceMul,Nat.reduceLeDiff,Nat.reduceEqDiff,twant,List.getElem?_toArray,Option.bind_some]<;>exact rfl)|exact rfl)));(with_reducible apply TO.here))|with_reducible refine TD.nil ?_|((with_reducible first|apply TD.mv|apply TD.asg|apply TD.bin|apply TD.fa|apply TD.ia|apply TD.pk|apply TD.sv|apply TD.al|apply TD.bld|apply TD.ext|apply TD.bs|apply TD.mf );(repeat (focus (show _ = _;first|exact k1 rfl|exact k2 rfl|(simp only [zz,T,Nat.reduceAdd,Nat.reduceMul,Nat.reduceLeDiff,Nat.reduceEqDiff,tload,rowOf,partT,List.getElem?_map,tfieldAddr,tindexAddr,Nat.zero_add,tlen,tbuild,tfill,tfield,tslice,tparts]<;>exact rfl)|exact rfl)));(with_reducible refine TD.here ?_))|((with_reducible apply TD.skip1);(repeat (focus (show _ = _;first|exact k1 rfl|exact k2 rfl|(simp only [zz,T,Nat.reduceAdd,Nat.reduceMul,Nat.reduceLeDiff,Nat.reduceEqDiff,twant,List.getElem?_toArray,Option.bind_some]<;>exact rfl)|exact rfl)));(with_reducible refine TD.here ?_))|((with_reducible apply TX.cond_true);(focus rfl);(focus (first|rfl|(simp only [z1,Bool.not_true,Bool.not_false,T];done))))|((with_reducible apply TX.cond_false);(focus rfl);(focus (first|rfl|(simp only [z1,Bool.not_true,Bool.not_false,T];done))))|((with_reducible apply TX.region);(focus (simp only [List.toList_toArray]<;>exact rfl));(focus rfl);(try dsimp only))|((with_reducible apply TX.drawn);(focus decide +kernel);(focus (simp only [List.toList_toArray]<;>exact rfl));(focus exact rfl);(try dsimp only))|fail));exact g)) (g : H) : G:=h T g
theorem wF {A G H : Prop} (T : A) (h : A → H → G:=by (intro T g;(repeat (first|with_reducible refine mv ?_|with_reducible refine TO.nil ?_|((with_reducible first|apply TO.mv|apply TO.asg|apply TO.bin|apply TO.ld|apply TO.fa|apply TO.ia|apply TO.pk|apply TO.sv|apply TO.al|apply TO.bf|apply TO.bld|apply TO.ext|apply TO.bs|apply TO.mf );(repeat (focus (show _ = _;first|exact k1 rfl|exact k2 rfl|(simp only [zz,T,Nat.reduceAdd,Nat.reduceMul,Nat.reduceLeDiff,Nat.reduceEqDiff,tload,rowOf,partT,List.getElem?_map,tfieldAddr,tindexAddr,Nat.zero_add,tlen,tbuild,tfill,tfield,tslice,tparts]<;>exact rfl)|exact rfl)));(with_reducible apply TO.here))|((with_reducible apply TO.skip1);(repeat (focus (show _ = _;first|exact k1 rfl|exact k2 rfl|(simp only [zz,T,Nat.reduceAdd,Nat.reduceMul,Nat.reduceLeDiff,Nat.reduceEqDiff,twant,List.getElem?_toArray,Option.bind_some]<;>exact rfl)|exact rfl)));(with_reducible apply TO.here))|with_reducible refine TD.nil ?_|((with_reducible first|apply TD.mv|apply TD.asg|apply TD.bin|apply TD.ld|apply TD.fa|apply TD.ia|apply TD.pk|apply TD.sv|apply TD.al|apply TD.bld|apply TD.ext|apply TD.bs|apply TD.mf );(repeat (focus (show _ = _;first|exact k1 rfl|exact k2 rfl|(simp only [zz,T,Nat.reduceAdd,Nat.reduceMul,Nat.reduceLeDiff,Nat.reduceEqDiff,tload,rowOf,partT,List.getElem?_map,tfieldAddr,tindexAddr,Nat.zero_add,tlen,tbuild,tfill,tfield,tslice,tparts]<;>exact rfl)|exact rfl)));(with_reducible refine TD.here ?_))|((with_reducible apply TD.skip1);(repeat (focus (show _ = _;first|exact k1 rfl|exact k2 rfl|(simp only [zz,T,Nat.reduceAdd,Nat.reduceMul,Nat.reduceLeDiff,Nat.reduceEqDiff,twant,List.getElem?_toArray,Option.bind_some]<;>exact rfl)|exact rfl)));(with_reducible refine TD.here ?_))|((with_reducible apply TX.cond_true);(focus rfl);(focus (first|rfl|(simp only [z1,Bool.not_true,Bool.not_false,T];done))))|((with_reducible apply TX.cond_false);(focus rfl);(focus (first|rfl|(simp only [z1,Bool.not_true,Bool.not_false,T];done))))|((with_reducible apply TX.region);(focus (simp only [List.toList_toArray]<;>exact rfl));(focus rfl);(try dsimp only))|((with_reducible apply TX.drawn);(focus decide +kernel);(focus (simp only [List.toList_toArray]<;>exact rfl));(focus exact rfl);(try dsimp only))|fail));exact g)) (g : H) : G:=h T g
theorem sd {A : Prop} {α : Type} {a b : α} (T : A) (h : A → a = b:=by (intro T;first|exact k1 rfl|exact k2 rfl|(simp only [zz,T,Nat.reduceAdd,Nat.reduceMul,Nat.reduceLeDiff,Nat.reduceEqDiff,shift,kill,killB,frz,frzB,view,tml,tmlc,List.length_set,tlen,tslice,tparts]<;>exact rfl)|exact rfl)) : a = b:=h T
theorem wn {A : Prop} {α : Type} {a b : α} (T : A) (h : A → a = b:=by (intro T;first|rfl|(simp only [twant,z1,z7,T]<;>rfl))) : a = b:=h T
theorem ry {A : Prop} {α : Type} {a b : α} (T : A) (h : A → a = b:=by (intro T;simp only [zy,T,tresAll,tres,tload,rowOf,partT];exact rfl)) : a = b:=h T
theorem wk_ {A : Prop} (T : A) {tm tm' : List TV} {hp hp' : List TB} (fl : List (Option Nat)) (hok : renOk fl = true) (hB : RB fl hp hp' fl) (hT : A → RNs fl tm tm':=by (intro T;(repeat (first|exact RNs.nil|refine RNs.cons .junk ?_|refine RNs.cons (.keep rfl rfl) ?_|refine RNs.cons (.lsl rfl rfl) ?_|refine RNs.cons (.lsl rfl (by simp only [List.length_set])) ?_|refine RNs.cons (.lptr rfl) ?_|refine RNs.cons (.nil rfl) ?_|refine RNs.cons .nl ?_|refine RNs.cons (.keep (by simp only [T]) rfl) ?_|refine RNs.cons (.tuple' ?_) ?_|refine RNs.cons (.agg' ?_) ?_)))) : Wk ⟨tm,hp⟩ ⟨tm',hp'⟩:=Wk.ren fl hok hB (hT T)
theorem ifs {α : Type} {b : Bool} {x y r : Option α} (h : (if b = true then x else y) = r) : (b = true ∧ x = r) ∨ (b = false ∧ y = r):=by cases b<;>simp_all
theorem bs {α β : Type} {x : Option α} {f : α → Option β} {r : β} (h : x.bind f = some r) : ∃ a,x = some a ∧ f a = some r:=Option.bind_eq_some_iff.1 h
theorem gx {α : Type} {xs : List α} {i : Int} {a : α} (f : α → List TV) (h : getI xs i = some a) : tidx (xs.map f) i = some (f a) ∧ (0 ≤ i ∧ i < xs.length) ∧ xs[i.toNat]? = some a:=And.intro (tidx_map (f:=f) h) (And.intro (getI_lt h) (getI_at h))
theorem lv {A : Prop} (T : A) {b : Bool} {G : Prop} (hr : some b = some true) (h : A → b = true → G:=by (intro T hb;first|(cases hb;done)|((first|refine ⟨.inl rfl,?_⟩|refine ⟨.inr rfl,?_⟩);first|(simp only [tresAll,tres,z1,hb,Option.map_some]<;>exact rfl)|(simp only [T] at hb;simp only [tresAll,tres,z1,hb,Option.map_some]<;>exact rfl)))) : G:=h T (Option.some.inj hr)
theorem vw {A : Prop} {α : Type} {a b : α} (T : A) (h : A → a = b:=by (intro T;simp only [view,z1,z3,List.toList_toArray,tml,tmlc,List.length_set,Nat.reduceEqDiff,if_false]<;>rfl)) : a = b:=h T
end Go.Rex

namespace Go.Rex
open Go.RowKit
/-! ### calls that are known: what they return is told by what they can reach -/
def al2 {α β : Type} (p : α → β → Bool) : List α → List β → Bool
  | [],[]=>true
  | a :: s,b :: t=>p a b && al2 p s t
  | _,_=>false
theorem al2_at {α β : Type} {p : α → β → Bool} : ∀ {s : List α} {t : List β},al2 p s t = true → t.length = s.length ∧ ∀ (i : Nat) a b,s[i]? = some a → t[i]? = some b → p a b = true
  | [],[],_=>⟨rfl,fun i a b h=>by simp at h⟩
  | [],_ :: _,hh=>by simp [al2] at hh
  | _ :: _,[],hh=>by simp [al2] at hh
  | a :: s,b :: t,hh=>by
    simp only [al2,Bool.and_eq_true] at hh
    obtain ⟨h1,h2⟩:=al2_at hh.2
    refine ⟨by simp [h1],fun i x y hx hy=>?_⟩
    cases i with
    | zero=>simp at hx hy;subst hx hy;exact hh.1
    | succ i=>exact h2 i x y (by simpa using hx) (by simpa using hy)
theorem al2_eq {α : Type} {p : α → α → Bool} (h : ∀ a b,p a b = true → a = b) {s t : List α} (hh : al2 p s t = true) : s = t:=by
  obtain ⟨h1,h2⟩:=al2_at hh
  apply List.ext_getElem?
  intro i
  cases hs : s[i]? with
  | none=>rw [List.getElem?_eq_none_iff] at hs;rw [eq_comm,List.getElem?_eq_none_iff];omega
  | some a =>
    have hi:=(List.getElem?_eq_some_iff.1 hs).1
    have ht : t[i]? = some t[i]:=List.getElem?_eq_getElem (by omega)
    rw [ht,h a _ (h2 i a _ hs ht)]
def addrM (σ : List Nat) : Addr → Addr → Bool
  | ⟨n,o,none⟩,⟨n',o',none⟩=>(match σ[n]? with|some k=>Nat.beq k n'|none=>false) && Nat.beq o o'
  | _,_=>false
/-- b is a with its names as σ has them -/
def mV (σ : List Nat) : Nat → Value → Value → Bool
  | 0,_,_=>false
  | d + 1,a,b=>match a,b with
    | .bool x,.bool y=>x == y
    | .int k x,.int k' y=>decide (k = k') && decide (x = y)
    | .float k x,.float k' y=>decide (k = k') && Nat.beq x y
    | .complex k x z,.complex k' y u=>decide (k = k') && (Nat.beq x y && Nat.beq z u)
    | .string ⟨⟨s⟩⟩,.string ⟨⟨t⟩⟩=>decide (s = t)
    | .pointer none,.pointer none=>true
    | .pointer (some x),.pointer (some y)=>addrM σ x y
    | .slice none l c,.slice none l' c'=>Nat.beq l l' && Nat.beq c c'
    | .slice (some x) l c,.slice (some y) l' c'=>addrM σ x y && (Nat.beq l l' && Nat.beq c c')
    | .map none,.map none=>true
    | .func (.func f) ⟨a⟩ ⟨b⟩,.func (.func g) ⟨a'⟩ ⟨b'⟩=>Nat.beq f g && (al2 (mV σ d) a a' && al2 (mV σ d) b b')
    | .nilFunc,.nilFunc=>true
    | .nilIface,.nilIface=>true
    | .iface t v,.iface t' v'=>Nat.beq t t' && mV σ d v v'
    | .agg ⟨a⟩,.agg ⟨a'⟩=>al2 (mV σ d) a a'
    | .tuple ⟨a⟩,.tuple ⟨a'⟩=>al2 (mV σ d) a a'
    | _,_=>false
def dS (σ : List Nat) (D : Nat → Prop) : Nat → Prop:=fun n=>∃ k,σ[n]? = some k ∧ D k
def mS (σ : List Nat) (m : NMap) : NMap:=fun n=>m (σ[n]?.getD 0)
theorem mV_vr {σ : List Nat} {D : Nat → Prop} {m : NMap} : ∀ (d : Nat) (a b b' : Value),mV σ d a b = true → VR D m b b' → VR (dS σ D) (mS σ m) a b':=by
  intro d
  induction d with
  | zero=>intro a b b' h;cases h
  | succ d ih =>
    intro a b b' h hr
    have hl : ∀ {s t t' : List Value},al2 (mV σ d) s t = true → VRs D m t t' → VRs (dS σ D) (mS σ m) s t':=by
      intro s t t' hh hs
      obtain ⟨h1,h2⟩:=al2_at hh
      refine ⟨hs.len.trans h1,fun i v v' hv hv'=>?_⟩
      have hi:=(List.getElem?_eq_some_iff.1 hv).1
      have ht : t[i]? = some t[i]:=List.getElem?_eq_getElem (by omega)
      exact ih v _ v' (h2 i v _ hv ht) (hs.at' i _ v' ht hv')
    have ha : ∀ {x y : Addr},addrM σ x y = true → ∃ n o k,x = ⟨n,o,none⟩ ∧ y = ⟨k,o,none⟩ ∧ σ[n]? = some k:=by
      intro x y hh
      obtain ⟨n,o,s⟩:=x
      obtain ⟨n',o',s'⟩:=y
      cases s<;>cases s'<;>simp only [addrM] at hh<;>try (cases hh;done)
      simp only [Bool.and_eq_true] at hh
      obtain ⟨h1,h2⟩:=hh
      have h2:=Nat.eq_of_beq_eq_true h2
      subst h2
      split at h1
      · rename_i k hk
        have h1:=Nat.eq_of_beq_eq_true h1
        subst h1
        exact ⟨n,o,k,rfl,rfl,hk⟩
      · cases h1
    have hms : ∀ {n k : Nat},σ[n]? = some k → mS σ m n = m k:=fun hk=>by unfold mS;rw [hk];rfl
    unfold mV at h
    split at h
    · cases hr;rw [eq_of_beq h];exact .bool _
    · simp only [Bool.and_eq_true,decide_eq_true_eq] at h;cases hr;rw [h.1,h.2];exact .int _ _
    · simp only [Bool.and_eq_true,decide_eq_true_eq] at h;cases hr;rw [h.1,Nat.eq_of_beq_eq_true h.2];exact .float _ _
    · simp only [Bool.and_eq_true,decide_eq_true_eq] at h;cases hr;rw [h.1,Nat.eq_of_beq_eq_true h.2.1,Nat.eq_of_beq_eq_true h.2.2];exact .complex _ _ _
    · simp only [decide_eq_true_eq] at h;cases hr;rw [h];exact .string _
    · cases hr;exact .nilPtr
    · obtain ⟨n,o,k,rfl,rfl,hk⟩:=ha h
      cases hr
      rename_i hD
      have:=VR.ptr (D:=dS σ D) (m:=mS σ m) n o ⟨k,hk,hD⟩
      rwa [hms hk] at this
    · simp only [Bool.and_eq_true] at h;cases hr;rw [Nat.eq_of_beq_eq_true h.1,Nat.eq_of_beq_eq_true h.2];exact .nilSlice _ _
    · simp only [Bool.and_eq_true] at h
      obtain ⟨n,o,k,rfl,rfl,hk⟩:=ha h.1
      have e1:=Nat.eq_of_beq_eq_true h.2.1
      have e2:=Nat.eq_of_beq_eq_true h.2.2
      subst e1 e2
      cases hr with
      | slice _ _ _ _ c' hD hlc hcc he =>
        have:=VR.slice (D:=dS σ D) (m:=mS σ m) n o _ _ c' ⟨k,hk,hD⟩ hlc hcc (by rw [hms hk];exact he)
        rwa [hms hk] at this
    · cases hr;exact .nilMap
    · simp only [Bool.and_eq_true] at h
      cases hr with
      | func _ _ _ a' b' la ha' lb hb' =>
        rw [Nat.eq_of_beq_eq_true h.1]
        have h1:=hl h.2.1 ⟨la,ha'⟩
        have h2:=hl h.2.2 ⟨lb,hb'⟩
        exact .func _ _ _ _ _ h1.len h1.at' h2.len h2.at'
    · cases hr;exact .nilFunc
    · cases hr;exact .nilIface
    · simp only [Bool.and_eq_true] at h
      cases hr with
      | iface _ _ v' hv=>rw [Nat.eq_of_beq_eq_true h.1];exact .iface _ _ _ (ih _ _ _ h.2 hv)
    · cases hr with
      | agg _ a' la ha'=>exact .agg' (hl h ⟨la,ha'⟩)
    · cases hr with
      | tuple _ a' la ha'=>exact .tuple' (hl h ⟨la,ha'⟩)
    · cases h
/-- a block with its names as σ has them -/
def mB (σ : List Nat) : Blk → Option Blk → Bool
  | .cells es c,some (.cells es' c')=>Nat.beq es es' && al2 (mV σ 60) c c'
  | _,_=>false
def mH (σ : List Nat) (h : List Blk) : List Nat → List Blk → Bool
  | [],[]=>true
  | n :: t,b :: s=>mB σ b h[n]? && mH σ h t s
  | _,_=>false
theorem mH_at {σ : List Nat} {h : List Blk} : ∀ {t : List Nat} {s : List Blk},mH σ h t s = true → s.length = t.length ∧ ∀ (i : Nat) b,s[i]? = some b → ∃ n,t[i]? = some n ∧ mB σ b h[n]? = true
  | [],[],_=>⟨rfl,fun i b h=>by simp at h⟩
  | [],_ :: _,hh=>by simp [mH] at hh
  | _ :: _,[],hh=>by simp [mH] at hh
  | n :: t,b :: s,hh=>by
    simp only [mH,Bool.and_eq_true] at hh
    obtain ⟨h1,h2⟩:=mH_at hh.2
    refine ⟨by simp [h1],fun i x hx=>?_⟩
    cases i with
    | zero=>simp at hx;subst hx;exact ⟨n,rfl,hh.1⟩
    | succ i=>exact h2 i x (by simpa using hx)
/-! the names,in the order in which they are met -/
def addN (σ : List Nat) : Option Addr → List Nat
  | some ⟨n,_,none⟩=>if σ.contains n then σ else σ ++ [n]
  | _=>σ
def namesV : Nat → List Nat → Value → List Nat
  | 0,σ,_=>σ
  | d + 1,σ,v=>match v with
    | .pointer a=>addN σ a
    | .slice a _ _=>addN σ a
    | .func _ ⟨a⟩ ⟨b⟩=>b.foldl (namesV d) (a.foldl (namesV d) σ)
    | .iface _ v=>namesV d σ v
    | .agg ⟨a⟩=>a.foldl (namesV d) σ
    | .tuple ⟨a⟩=>a.foldl (namesV d) σ
    | _=>σ
def reach (h : List Blk) : Nat → Nat → List Nat → List Nat
  | 0,_,σ=>σ
  | k + 1,i,σ=>match σ[i]? with
    | none=>σ
    | some n=>match h[n]? with
      | some (.cells _ c)=>reach h k (i + 1) (c.foldl (namesV 60) σ)
      | _=>reach h k (i + 1) σ
def namesOf (args : List Value) (h : List Blk) : List Nat:=reach h 1000 0 (args.foldl (namesV 60) (List.range NG))
structure Piece where
  f : FuncId
  args : List Value
  h : List Blk
  v : Value
def fits (p : Piece) (args : List Value) (h : List Blk) (σ : List Nat) : Bool:=al2 Nat.beq (List.range NG) (σ.take NG) && (al2 (mV σ 60) p.args args && mH σ h σ p.h)
def look : List Piece → FuncId → List Value → List Blk → Option Value
  | [],_,_,_=>none
  | p :: t,f,args,h=>match Nat.beq p.f f with
    | true=>(match fits p args h (namesOf args h) with
      | true=>some p.v
      | false=>look t f args h)
    | false=>look t f args h
def ctxT (P : Program) (tab : List Piece) (k : Nat) : Nat → Ctx
  | 0=>⟨fun _ _ _=>none,fun _ _ _=>none⟩
  | d + 1 => ⟨fun f args h => match look tab f args h with
      | some v=>some (v,h,none)
      | none=>runCall (ctxT P tab k d) P k f args h,runRound (ctxT P tab k d) P k⟩
/-- one call more is known: the function itself is run, what it calls may be known -/
def pieceRun (P : Program) (tab : List Piece) (k d : Nat) (p : Piece) : AOut:=runCall (ctxT P tab k d) P k p.f p.args p.h
end Go.Rex
