/- An executor of the program's functions on trees of values, proved sound. -/
import Derived.Test.YtpcjgdfcefidlaaRexG5
set_option linter.unusedSimpArgs false
set_option linter.unusedVariables false
set_option linter.defProp false
namespace Go.Rex
open Go.RowKit
section
variable {C : Ctx} {P : Program} {ops : Array Oper} {rest : List Oper} {tm tm2 : List TV} {hp hp2 : List TB} {Q : TS → Prop} {o : Oper}
variable {dst : Option Tmp} {ty : TypeId} {pos : String} {aft : Array Edge} {gd : Option (Nat × Bool)} {p q : TV} {ms : List Nat} {i : Nat} {np : List Nat} {c : Bool}

theorem TO.mv {x : Operand} (hw : twant ops tm { dst := dst, op := .move x, type := ty, pos := pos, after := aft, guard := gd } = some true) (hv : tev tm x = p) (ht : tput tm dst p = tm2) (hq : TO C P ops rest ⟨tm2, hp⟩ Q) : TO C P ops ({ dst := dst, op := .move x, type := ty, pos := pos, after := aft, guard := gd } :: rest) ⟨tm, hp⟩ Q :=
  TO.pop1 hw (by subst hv; rfl) ht hq
theorem TD.mv {x : Operand} (hw : twant ops tm { dst := dst, op := .move x, type := ty, pos := pos, after := aft, guard := gd } = some true) (hv : tev tm x = p) (ht : tput tm dst p = tm2) (hq : TD C P ops ms rest (i + 1) np c ⟨tm2, hp⟩ Q) : TD C P ops ms ({ dst := dst, op := .move x, type := ty, pos := pos, after := aft, guard := gd } :: rest) i np c ⟨tm, hp⟩ Q :=
  TD.pop1 hw (by subst hv; rfl) ht hq
theorem TO.asg {x : Operand} (hw : twant ops tm { dst := dst, op := .assign x, type := ty, pos := pos, after := aft, guard := gd } = some true) (hv : tev tm x = p) (ht : tput tm dst p = tm2) (hq : TO C P ops rest ⟨tm2, hp⟩ Q) : TO C P ops ({ dst := dst, op := .assign x, type := ty, pos := pos, after := aft, guard := gd } :: rest) ⟨tm, hp⟩ Q :=
  TO.pop1 hw (by subst hv; rfl) ht hq
theorem TD.asg {x : Operand} (hw : twant ops tm { dst := dst, op := .assign x, type := ty, pos := pos, after := aft, guard := gd } = some true) (hv : tev tm x = p) (ht : tput tm dst p = tm2) (hq : TD C P ops ms rest (i + 1) np c ⟨tm2, hp⟩ Q) : TD C P ops ms ({ dst := dst, op := .assign x, type := ty, pos := pos, after := aft, guard := gd } :: rest) i np c ⟨tm, hp⟩ Q :=
  TD.pop1 hw (by subst hv; rfl) ht hq
theorem TO.bin {b : BinOp} {t u : TypeId} {x y : Operand} {a d r : Value} (hw : twant ops tm { dst := dst, op := .binOp b t x y u, type := ty, pos := pos, after := aft, guard := gd } = some true) (hx : tev tm x = .v a) (hy : tev tm y = .v d) (hv : fastBin b a d = some r) (ht : tput tm dst (.v r) = tm2) (hq : TO C P ops rest ⟨tm2, hp⟩ Q) : TO C P ops ({ dst := dst, op := .binOp b t x y u, type := ty, pos := pos, after := aft, guard := gd } :: rest) ⟨tm, hp⟩ Q :=
  TO.pop1 hw (by simp only [tpop, hx, hy, tbin, hv, Option.map_some, orT]) ht hq
theorem TD.bin {b : BinOp} {t u : TypeId} {x y : Operand} {a d r : Value} (hw : twant ops tm { dst := dst, op := .binOp b t x y u, type := ty, pos := pos, after := aft, guard := gd } = some true) (hx : tev tm x = .v a) (hy : tev tm y = .v d) (hv : fastBin b a d = some r) (ht : tput tm dst (.v r) = tm2) (hq : TD C P ops ms rest (i + 1) np c ⟨tm2, hp⟩ Q) : TD C P ops ms ({ dst := dst, op := .binOp b t x y u, type := ty, pos := pos, after := aft, guard := gd } :: rest) i np c ⟨tm, hp⟩ Q :=
  TD.pop1 hw (by simp only [tpop, hx, hy, tbin, hv, Option.map_some, orT]) ht hq
theorem TO.ext {x : Operand} {n : Nat} {l : List TV} (hw : twant ops tm { dst := dst, op := .extract x n, type := ty, pos := pos, after := aft, guard := gd } = some true) (hx : tev tm x = .tuple l) (hv : l[n]? = some p) (ht : tput tm dst p = tm2) (hq : TO C P ops rest ⟨tm2, hp⟩ Q) : TO C P ops ({ dst := dst, op := .extract x n, type := ty, pos := pos, after := aft, guard := gd } :: rest) ⟨tm, hp⟩ Q :=
  TO.pop1 hw (by simp only [tpop, hx, hv]) ht hq
theorem TD.ext {x : Operand} {n : Nat} {l : List TV} (hw : twant ops tm { dst := dst, op := .extract x n, type := ty, pos := pos, after := aft, guard := gd } = some true) (hx : tev tm x = .tuple l) (hv : l[n]? = some p) (ht : tput tm dst p = tm2) (hq : TD C P ops ms rest (i + 1) np c ⟨tm2, hp⟩ Q) : TD C P ops ms ({ dst := dst, op := .extract x n, type := ty, pos := pos, after := aft, guard := gd } :: rest) i np c ⟨tm, hp⟩ Q :=
  TD.pop1 hw (by simp only [tpop, hx, hv]) ht hq
theorem TO.fa {t : TypeId} {x : Operand} {f : Nat} (hw : twant ops tm { dst := dst, op := .fieldAddr t x f, type := ty, pos := pos, after := aft, guard := gd } = some true) (hx : tev tm x = q) (hv : tfieldAddr P t q f = some p) (ht : tput tm dst p = tm2) (hq : TO C P ops rest ⟨tm2, hp⟩ Q) : TO C P ops ({ dst := dst, op := .fieldAddr t x f, type := ty, pos := pos, after := aft, guard := gd } :: rest) ⟨tm, hp⟩ Q :=
  TO.pop1 hw (by simp only [tpop, hx, hv]) ht hq
theorem TD.fa {t : TypeId} {x : Operand} {f : Nat} (hw : twant ops tm { dst := dst, op := .fieldAddr t x f, type := ty, pos := pos, after := aft, guard := gd } = some true) (hx : tev tm x = q) (hv : tfieldAddr P t q f = some p) (ht : tput tm dst p = tm2) (hq : TD C P ops ms rest (i + 1) np c ⟨tm2, hp⟩ Q) : TD C P ops ms ({ dst := dst, op := .fieldAddr t x f, type := ty, pos := pos, after := aft, guard := gd } :: rest) i np c ⟨tm, hp⟩ Q :=
  TD.pop1 hw (by simp only [tpop, hx, hv]) ht hq
theorem TO.ia {t : TypeId} {x y : Operand} {q2 : TV} (hw : twant ops tm { dst := dst, op := .indexAddr t x y, type := ty, pos := pos, after := aft, guard := gd } = some true) (hx : tev tm x = q) (hy : tev tm y = q2) (hv : tindexAddr P hp t q q2 = some p) (ht : tput tm dst p = tm2) (hq : TO C P ops rest ⟨tm2, hp⟩ Q) : TO C P ops ({ dst := dst, op := .indexAddr t x y, type := ty, pos := pos, after := aft, guard := gd } :: rest) ⟨tm, hp⟩ Q :=
  TO.pop1 hw (by simp only [tpop, hx, hy, hv]) ht hq
theorem TD.ia {t : TypeId} {x y : Operand} {q2 : TV} (hw : twant ops tm { dst := dst, op := .indexAddr t x y, type := ty, pos := pos, after := aft, guard := gd } = some true) (hx : tev tm x = q) (hy : tev tm y = q2) (hv : tindexAddr P hp t q q2 = some p) (ht : tput tm dst p = tm2) (hq : TD C P ops ms rest (i + 1) np c ⟨tm2, hp⟩ Q) : TD C P ops ms ({ dst := dst, op := .indexAddr t x y, type := ty, pos := pos, after := aft, guard := gd } :: rest) i np c ⟨tm, hp⟩ Q :=
  TD.pop1 hw (by simp only [tpop, hx, hy, hv]) ht hq
theorem TO.fld {t : TypeId} {x : Operand} {f : Nat} (hw : twant ops tm { dst := dst, op := .field t x f, type := ty, pos := pos, after := aft, guard := gd } = some true) (hx : tev tm x = q) (hv : tfield P t q f = some p) (ht : tput tm dst p = tm2) (hq : TO C P ops rest ⟨tm2, hp⟩ Q) : TO C P ops ({ dst := dst, op := .field t x f, type := ty, pos := pos, after := aft, guard := gd } :: rest) ⟨tm, hp⟩ Q :=
  TO.pop1 hw (by simp only [tpop, hx, hv]) ht hq
theorem TD.fld {t : TypeId} {x : Operand} {f : Nat} (hw : twant ops tm { dst := dst, op := .field t x f, type := ty, pos := pos, after := aft, guard := gd } = some true) (hx : tev tm x = q) (hv : tfield P t q f = some p) (ht : tput tm dst p = tm2) (hq : TD C P ops ms rest (i + 1) np c ⟨tm2, hp⟩ Q) : TD C P ops ms ({ dst := dst, op := .field t x f, type := ty, pos := pos, after := aft, guard := gd } :: rest) i np c ⟨tm, hp⟩ Q :=
  TD.pop1 hw (by simp only [tpop, hx, hv]) ht hq
theorem TO.pk {x y z : Operand} (hw : twant ops tm { dst := dst, op := .pick x y z, type := ty, pos := pos, after := aft, guard := gd } = some true) (hv : tpick (tev tm x) (tev tm y) (tev tm z) = some p) (ht : tput tm dst p = tm2) (hq : TO C P ops rest ⟨tm2, hp⟩ Q) : TO C P ops ({ dst := dst, op := .pick x y z, type := ty, pos := pos, after := aft, guard := gd } :: rest) ⟨tm, hp⟩ Q :=
  TO.pop1 hw (by simp only [tpop, hv]) ht hq
theorem TD.pk {x y z : Operand} (hw : twant ops tm { dst := dst, op := .pick x y z, type := ty, pos := pos, after := aft, guard := gd } = some true) (hv : tpick (tev tm x) (tev tm y) (tev tm z) = some p) (ht : tput tm dst p = tm2) (hq : TD C P ops ms rest (i + 1) np c ⟨tm2, hp⟩ Q) : TD C P ops ms ({ dst := dst, op := .pick x y z, type := ty, pos := pos, after := aft, guard := gd } :: rest) i np c ⟨tm, hp⟩ Q :=
  TD.pop1 hw (by simp only [tpop, hv]) ht hq
theorem TO.len {x : Operand} {t : TypeId} {ts : List TypeId} (hw : twant ops tm { dst := dst, op := .call { callee := .builtin .len, args := #[x], argTypes := ⟨t :: ts⟩ }, type := ty, pos := pos, after := aft, guard := gd } = some true) (hx : tev tm x = q) (hv : tlen P (some t) q = some p) (ht : tput tm dst p = tm2) (hq : TO C P ops rest ⟨tm2, hp⟩ Q) : TO C P ops ({ dst := dst, op := .call { callee := .builtin .len, args := #[x], argTypes := ⟨t :: ts⟩ }, type := ty, pos := pos, after := aft, guard := gd } :: rest) ⟨tm, hp⟩ Q :=
  TO.pop1 hw (by simp only [tpop, if_true, hx, List.getElem?_toArray, List.getElem?_cons_zero, hv, orT]) ht hq
theorem TD.len {x : Operand} {t : TypeId} {ts : List TypeId} (hw : twant ops tm { dst := dst, op := .call { callee := .builtin .len, args := #[x], argTypes := ⟨t :: ts⟩ }, type := ty, pos := pos, after := aft, guard := gd } = some true) (hx : tev tm x = q) (hv : tlen P (some t) q = some p) (ht : tput tm dst p = tm2) (hq : TD C P ops ms rest (i + 1) np c ⟨tm2, hp⟩ Q) : TD C P ops ms ({ dst := dst, op := .call { callee := .builtin .len, args := #[x], argTypes := ⟨t :: ts⟩ }, type := ty, pos := pos, after := aft, guard := gd } :: rest) i np c ⟨tm, hp⟩ Q :=
  TD.pop1 hw (by simp only [tpop, if_true, hx, List.getElem?_toArray, List.getElem?_cons_zero, hv, orT]) ht hq
theorem TO.bld {t : TypeId} {ps : Array (Nat × Operand)} {l : List (Nat × TV)} (hw : twant ops tm { dst := dst, op := .build t ps, type := ty, pos := pos, after := aft, guard := gd } = some true) (hx : ps.toList.map (fun q => (q.1, tev tm q.2)) = l) (hv : tbuild P t l = some p) (ht : tput tm dst p = tm2) (hq : TO C P ops rest ⟨tm2, hp⟩ Q) : TO C P ops ({ dst := dst, op := .build t ps, type := ty, pos := pos, after := aft, guard := gd } :: rest) ⟨tm, hp⟩ Q :=
  TO.pop1 hw (by simp only [tpop, hx, hv]) ht hq
theorem TD.bld {t : TypeId} {ps : Array (Nat × Operand)} {l : List (Nat × TV)} (hw : twant ops tm { dst := dst, op := .build t ps, type := ty, pos := pos, after := aft, guard := gd } = some true) (hx : ps.toList.map (fun q => (q.1, tev tm q.2)) = l) (hv : tbuild P t l = some p) (ht : tput tm dst p = tm2) (hq : TD C P ops ms rest (i + 1) np c ⟨tm2, hp⟩ Q) : TD C P ops ms ({ dst := dst, op := .build t ps, type := ty, pos := pos, after := aft, guard := gd } :: rest) i np c ⟨tm, hp⟩ Q :=
  TD.pop1 hw (by simp only [tpop, hx, hv]) ht hq
theorem TO.mf {f : FuncId} {a b : Array Operand} {l1 l2 : List TV} (hw : twant ops tm { dst := dst, op := .makeFunc (.func f) a b, type := ty, pos := pos, after := aft, guard := gd } = some true) (hx : a.toList.map (tev tm) = l1) (hy : b.toList.map (tev tm) = l2) (hv : (l1.all (lf 4) && l2.all (lf 4)) = true) (ht : tput tm dst (.func f l1 l2) = tm2) (hq : TO C P ops rest ⟨tm2, hp⟩ Q) : TO C P ops ({ dst := dst, op := .makeFunc (.func f) a b, type := ty, pos := pos, after := aft, guard := gd } :: rest) ⟨tm, hp⟩ Q :=
  TO.pop1 hw (by subst hx hy; simp only [tpop]; rw [if_pos]; simpa only [List.all_map, Function.comp_def] using hv) ht hq
theorem TD.mf {f : FuncId} {a b : Array Operand} {l1 l2 : List TV} (hw : twant ops tm { dst := dst, op := .makeFunc (.func f) a b, type := ty, pos := pos, after := aft, guard := gd } = some true) (hx : a.toList.map (tev tm) = l1) (hy : b.toList.map (tev tm) = l2) (hv : (l1.all (lf 4) && l2.all (lf 4)) = true) (ht : tput tm dst (.func f l1 l2) = tm2) (hq : TD C P ops ms rest (i + 1) np c ⟨tm2, hp⟩ Q) : TD C P ops ms ({ dst := dst, op := .makeFunc (.func f) a b, type := ty, pos := pos, after := aft, guard := gd } :: rest) i np c ⟨tm, hp⟩ Q :=
  TD.pop1 hw (by subst hx hy; simp only [tpop]; rw [if_pos]; simpa only [List.all_map, Function.comp_def] using hv) ht hq
theorem TO.ld {t : TypeId} {a : Operand} (hw : twant ops tm { dst := dst, op := .load t a, type := ty, pos := pos, after := aft, guard := gd } = some true) (hx : tev tm a = p) (hv : tload P hp t p = some q) (ht : tput tm dst q = tm2) (hh2 : hp = hp2) (hq : TO C P ops rest ⟨tm2, hp2⟩ Q) : TO C P ops ({ dst := dst, op := .load t a, type := ty, pos := pos, after := aft, guard := gd } :: rest) ⟨tm, hp⟩ Q := by
  subst ht hh2
  exact TO.g hw (OpG.load (by rw [show tev (TS.mk tm hp).tm a = p from hx]; exact hv)) hq
theorem TD.ld {t : TypeId} {a : Operand} (hw : twant ops tm { dst := dst, op := .load t a, type := ty, pos := pos, after := aft, guard := gd } = some true) (hx : tev tm a = p) (hv : tload P hp t p = some q) (ht : tput tm dst q = tm2) (hh2 : hp = hp2) (hq : TD C P ops ms rest (i + 1) (i :: np) false ⟨tm2, hp2⟩ Q) : TD C P ops ms ({ dst := dst, op := .load t a, type := ty, pos := pos, after := aft, guard := gd } :: rest) i np false ⟨tm, hp⟩ Q := by
  subst ht hh2
  exact TD.g hw (OpG.load (by rw [show tev (TS.mk tm hp).tm a = p from hx]; exact hv)) hq
theorem TD.ldw {t : TypeId} {a : Operand} (hw : twant ops tm { dst := dst, op := .load t a, type := ty, pos := pos, after := aft, guard := gd } = some true) (hx : tev tm a = p) (hv : tload P hp t p = some q) (hnp : np.all (fun j => (nthN ms i).testBit j) = true) (ht : tput tm dst q = tm2) (hh2 : hp = hp2) (hq : TD C P ops ms rest (i + 1) (i :: np) true ⟨tm2, hp2⟩ Q) : TD C P ops ms ({ dst := dst, op := .load t a, type := ty, pos := pos, after := aft, guard := gd } :: rest) i np c ⟨tm, hp⟩ Q := by
  subst ht hh2
  exact TD.w hw (OpG.toW (OpG.load (by rw [show tev (TS.mk tm hp).tm a = p from hx]; exact hv))) hnp hq
theorem TO.al {e : TypeId} {z : List Value} {zt : List TV} (hw : twant ops tm { dst := dst, op := .alloc e, type := ty, pos := pos, after := aft, guard := gd } = some true) (hv : zeroC P e = some z) (hz : z.map TV.v = zt) (ht : tput tm dst (.lptr hp.length 0 0) = tm2) (hh2 : (hp ++ [.var zt]) = hp2) (hq : TO C P ops rest ⟨tm2, hp2⟩ Q) : TO C P ops ({ dst := dst, op := .alloc e, type := ty, pos := pos, after := aft, guard := gd } :: rest) ⟨tm, hp⟩ Q := by
  subst ht hh2
  exact TO.g hw (by subst hz; exact OpG.alloc hv) hq
theorem TD.al {e : TypeId} {z : List Value} {zt : List TV} (hw : twant ops tm { dst := dst, op := .alloc e, type := ty, pos := pos, after := aft, guard := gd } = some true) (hv : zeroC P e = some z) (hz : z.map TV.v = zt) (ht : tput tm dst (.lptr hp.length 0 0) = tm2) (hh2 : (hp ++ [.var zt]) = hp2) (hq : TD C P ops ms rest (i + 1) (i :: np) false ⟨tm2, hp2⟩ Q) : TD C P ops ms ({ dst := dst, op := .alloc e, type := ty, pos := pos, after := aft, guard := gd } :: rest) i np false ⟨tm, hp⟩ Q := by
  subst ht hh2
  exact TD.g hw (by subst hz; exact OpG.alloc hv) hq
theorem TO.bx {e : TypeId} {x : Operand} {l : List TV} (hw : twant ops tm { dst := dst, op := .box e x, type := ty, pos := pos, after := aft, guard := gd } = some true) (hx : tev tm x = p) (hj : isJunk p = false) (hl : tcells p = l) (ht : tput tm dst (.lptr hp.length 0 0) = tm2) (hh2 : (hp ++ [.var l]) = hp2) (hq : TO C P ops rest ⟨tm2, hp2⟩ Q) : TO C P ops ({ dst := dst, op := .box e x, type := ty, pos := pos, after := aft, guard := gd } :: rest) ⟨tm, hp⟩ Q := by
  subst ht hh2
  exact TO.g hw (by subst hl; exact OpG.box hx hj) hq
theorem TD.bx {e : TypeId} {x : Operand} {l : List TV} (hw : twant ops tm { dst := dst, op := .box e x, type := ty, pos := pos, after := aft, guard := gd } = some true) (hx : tev tm x = p) (hj : isJunk p = false) (hl : tcells p = l) (ht : tput tm dst (.lptr hp.length 0 0) = tm2) (hh2 : (hp ++ [.var l]) = hp2) (hq : TD C P ops ms rest (i + 1) (i :: np) false ⟨tm2, hp2⟩ Q) : TD C P ops ms ({ dst := dst, op := .box e x, type := ty, pos := pos, after := aft, guard := gd } :: rest) i np false ⟨tm, hp⟩ Q := by
  subst ht hh2
  exact TD.g hw (by subst hl; exact OpG.box hx hj) hq
theorem TO.bf {e : TypeId} {x : Operand} {l : List TV} (hw : twant ops tm { dst := dst, op := .box e x, type := ty, pos := pos, after := aft, guard := gd } = some true) (hx : tev tm x = p) (hj : isJunk p = false) (hl : tcells p = l) (hlf : l.all (lf 4) = true) (ht : tput tm dst (.fptr true l 0) = tm2) (hh2 : hp = hp2) (hq : TO C P ops rest ⟨tm2, hp2⟩ Q) : TO C P ops ({ dst := dst, op := .box e x, type := ty, pos := pos, after := aft, guard := gd } :: rest) ⟨tm, hp⟩ Q := by
  subst ht hh2
  exact TO.g hw (by subst hl; exact OpG.boxF hx hj hlf) hq
theorem TD.bf {e : TypeId} {x : Operand} {l : List TV} (hw : twant ops tm { dst := dst, op := .box e x, type := ty, pos := pos, after := aft, guard := gd } = some true) (hx : tev tm x = p) (hj : isJunk p = false) (hl : tcells p = l) (hlf : l.all (lf 4) = true) (ht : tput tm dst (.fptr true l 0) = tm2) (hh2 : hp = hp2) (hq : TD C P ops ms rest (i + 1) (i :: np) false ⟨tm2, hp2⟩ Q) : TD C P ops ms ({ dst := dst, op := .box e x, type := ty, pos := pos, after := aft, guard := gd } :: rest) i np false ⟨tm, hp⟩ Q := by
  subst ht hh2
  exact TD.g hw (by subst hl; exact OpG.boxF hx hj hlf) hq
theorem TO.mks {t : TypeId} {x y : Operand} {n : Nat} {z : List Value} {q2 : TV} {zt : List TV} (hw : twant ops tm { dst := dst, op := .makeSlice t x y, type := ty, pos := pos, after := aft, guard := gd } = some true) (hx : tev tm x = q) (hy : tev tm y = q2) (hv : tmake P t q q2 = some (n, z)) (hz : z.map TV.v = zt) (ht : tput tm dst (.lsl hp.length 0 n) = tm2) (hh2 : (hp ++ [.rows z.length (List.replicate n zt)]) = hp2) (hq : TO C P ops rest ⟨tm2, hp2⟩ Q) : TO C P ops ({ dst := dst, op := .makeSlice t x y, type := ty, pos := pos, after := aft, guard := gd } :: rest) ⟨tm, hp⟩ Q := by
  subst ht hh2
  exact TO.g hw (by subst hz; exact OpG.makeSlice (s := ⟨tm, hp⟩) (by rw [show tev (TS.mk tm hp).tm x = q from hx, show tev (TS.mk tm hp).tm y = q2 from hy]; exact hv)) hq
theorem TD.mks {t : TypeId} {x y : Operand} {n : Nat} {z : List Value} {q2 : TV} {zt : List TV} (hw : twant ops tm { dst := dst, op := .makeSlice t x y, type := ty, pos := pos, after := aft, guard := gd } = some true) (hx : tev tm x = q) (hy : tev tm y = q2) (hv : tmake P t q q2 = some (n, z)) (hz : z.map TV.v = zt) (ht : tput tm dst (.lsl hp.length 0 n) = tm2) (hh2 : (hp ++ [.rows z.length (List.replicate n zt)]) = hp2) (hq : TD C P ops ms rest (i + 1) (i :: np) false ⟨tm2, hp2⟩ Q) : TD C P ops ms ({ dst := dst, op := .makeSlice t x y, type := ty, pos := pos, after := aft, guard := gd } :: rest) i np false ⟨tm, hp⟩ Q := by
  subst ht hh2
  exact TD.g hw (by subst hz; exact OpG.makeSlice (s := ⟨tm, hp⟩) (by rw [show tev (TS.mk tm hp).tm x = q from hx, show tev (TS.mk tm hp).tm y = q2 from hy]; exact hv)) hq
theorem TO.bs {t : TypeId} {n : Nat} {ps : Array (Nat × Operand)} {l : List (Nat × TV)} {es : Nat} {rows : List (List TV)} (hw : twant ops tm { dst := dst, op := .buildSlice t n ps, type := ty, pos := pos, after := aft, guard := gd } = some true) (hx : ps.toList.map (fun q => (q.1, tev tm q.2)) = l) (hv : tslice P t n l = some (es, rows)) (ht : tput tm dst (.list es rows) = tm2) (hh2 : hp = hp2) (hq : TO C P ops rest ⟨tm2, hp2⟩ Q) : TO C P ops ({ dst := dst, op := .buildSlice t n ps, type := ty, pos := pos, after := aft, guard := gd } :: rest) ⟨tm, hp⟩ Q := by
  subst ht hh2
  exact TO.g hw (OpG.buildSlice (s := ⟨tm, hp⟩) (by simp only [hx]; exact hv)) hq
theorem TD.bs {t : TypeId} {n : Nat} {ps : Array (Nat × Operand)} {l : List (Nat × TV)} {es : Nat} {rows : List (List TV)} (hw : twant ops tm { dst := dst, op := .buildSlice t n ps, type := ty, pos := pos, after := aft, guard := gd } = some true) (hx : ps.toList.map (fun q => (q.1, tev tm q.2)) = l) (hv : tslice P t n l = some (es, rows)) (ht : tput tm dst (.list es rows) = tm2) (hh2 : hp = hp2) (hq : TD C P ops ms rest (i + 1) (i :: np) false ⟨tm2, hp2⟩ Q) : TD C P ops ms ({ dst := dst, op := .buildSlice t n ps, type := ty, pos := pos, after := aft, guard := gd } :: rest) i np false ⟨tm, hp⟩ Q := by
  subst ht hh2
  exact TD.g hw (OpG.buildSlice (s := ⟨tm, hp⟩) (by simp only [hx]; exact hv)) hq
theorem TO.bo {t : TypeId} {n : Nat} {ps : Array (Nat × Operand)} {l : List (Nat × TV)} {es : Nat} {rows : List (List TV)} (hw : twant ops tm { dst := dst, op := .buildSlice t n ps, type := ty, pos := pos, after := aft, guard := gd } = some true) (hx : ps.toList.map (fun q => (q.1, tev tm q.2)) = l) (hv : tslice P t n l = some (es, rows)) (ht : tput tm dst (.lsl hp.length 0 n) = tm2) (hh2 : (hp ++ [.rows es rows]) = hp2) (hq : TO C P ops rest ⟨tm2, hp2⟩ Q) : TO C P ops ({ dst := dst, op := .buildSlice t n ps, type := ty, pos := pos, after := aft, guard := gd } :: rest) ⟨tm, hp⟩ Q := by
  subst ht hh2
  exact TO.g hw (OpG.buildOwn (s := ⟨tm, hp⟩) (by simp only [hx]; exact hv)) hq
theorem TD.bo {t : TypeId} {n : Nat} {ps : Array (Nat × Operand)} {l : List (Nat × TV)} {es : Nat} {rows : List (List TV)} (hw : twant ops tm { dst := dst, op := .buildSlice t n ps, type := ty, pos := pos, after := aft, guard := gd } = some true) (hx : ps.toList.map (fun q => (q.1, tev tm q.2)) = l) (hv : tslice P t n l = some (es, rows)) (ht : tput tm dst (.lsl hp.length 0 n) = tm2) (hh2 : (hp ++ [.rows es rows]) = hp2) (hq : TD C P ops ms rest (i + 1) (i :: np) false ⟨tm2, hp2⟩ Q) : TD C P ops ms ({ dst := dst, op := .buildSlice t n ps, type := ty, pos := pos, after := aft, guard := gd } :: rest) i np false ⟨tm, hp⟩ Q := by
  subst ht hh2
  exact TD.g hw (OpG.buildOwn (s := ⟨tm, hp⟩) (by simp only [hx]; exact hv)) hq
theorem TO.sl {t : TypeId} {x : Operand} {lo hi : Option Operand} {ql qh : Option TV} (hw : twant ops tm { dst := dst, op := .slice t x lo hi none, type := ty, pos := pos, after := aft, guard := gd } = some true) (hx : tev tm x = q) (hl : lo.map (tev tm) = ql) (hh : hi.map (tev tm) = qh) (hv : tsub P hp t q ql qh = some p) (ht : tput tm dst p = tm2) (hh2 : hp = hp2) (hq : TO C P ops rest ⟨tm2, hp2⟩ Q) : TO C P ops ({ dst := dst, op := .slice t x lo hi none, type := ty, pos := pos, after := aft, guard := gd } :: rest) ⟨tm, hp⟩ Q := by
  subst ht hh2
  exact TO.g hw (OpG.slice (s := ⟨tm, hp⟩) (by rw [show tev (TS.mk tm hp).tm x = q from hx, show lo.map (tev (TS.mk tm hp).tm) = ql from hl, show hi.map (tev (TS.mk tm hp).tm) = qh from hh]; exact hv)) hq
theorem TD.sl {t : TypeId} {x : Operand} {lo hi : Option Operand} {ql qh : Option TV} (hw : twant ops tm { dst := dst, op := .slice t x lo hi none, type := ty, pos := pos, after := aft, guard := gd } = some true) (hx : tev tm x = q) (hl : lo.map (tev tm) = ql) (hh : hi.map (tev tm) = qh) (hv : tsub P hp t q ql qh = some p) (ht : tput tm dst p = tm2) (hh2 : hp = hp2) (hq : TD C P ops ms rest (i + 1) (i :: np) false ⟨tm2, hp2⟩ Q) : TD C P ops ms ({ dst := dst, op := .slice t x lo hi none, type := ty, pos := pos, after := aft, guard := gd } :: rest) i np false ⟨tm, hp⟩ Q := by
  subst ht hh2
  exact TD.g hw (OpG.slice (s := ⟨tm, hp⟩) (by rw [show tev (TS.mk tm hp).tm x = q from hx, show lo.map (tev (TS.mk tm hp).tm) = ql from hl, show hi.map (tev (TS.mk tm hp).tm) = qh from hh]; exact hv)) hq
theorem TO.st {t : TypeId} {a x : Operand} (hw : twant ops tm { dst := none, op := .store t a x, type := ty, pos := pos, after := aft, guard := gd } = some true) (ha : tev tm a = q) (hx : tev tm x = p) (hv : tstore P hp t q p = some hp2) (hq : TO C P ops rest ⟨tm, hp2⟩ Q) : TO C P ops ({ dst := none, op := .store t a x, type := ty, pos := pos, after := aft, guard := gd } :: rest) ⟨tm, hp⟩ Q :=
  TO.w hw (OpW.store (s := ⟨tm, hp⟩) (by rw [show tev (TS.mk tm hp).tm a = q from ha, show tev (TS.mk tm hp).tm x = p from hx]; exact hv)) hq
theorem TD.st {t : TypeId} {a x : Operand} (hw : twant ops tm { dst := none, op := .store t a x, type := ty, pos := pos, after := aft, guard := gd } = some true) (ha : tev tm a = q) (hx : tev tm x = p) (hv : tstore P hp t q p = some hp2) (hnp : np.all (fun j => (nthN ms i).testBit j) = true) (hq : TD C P ops ms rest (i + 1) (i :: np) true ⟨tm, hp2⟩ Q) : TD C P ops ms ({ dst := none, op := .store t a x, type := ty, pos := pos, after := aft, guard := gd } :: rest) i np c ⟨tm, hp⟩ Q :=
  TD.w hw (OpW.store (s := ⟨tm, hp⟩) (by rw [show tev (TS.mk tm hp).tm a = q from ha, show tev (TS.mk tm hp).tm x = p from hx]; exact hv)) hnp hq
theorem appW (hsl0 : True) {α : Type} {x y : Operand} {t0 t1 e : TypeId} {tys : List TypeId} {n len es : Nat} {xs ys : List α} {f : α → List TV} {z : List Value} {new : List (List TV)} {xy : List α} (hx : tev tm x = .lsl n 0 len) (hb : hp[n]? = some (.rows es (xs.map f))) (hlen : len = xs.length) (hy : tev tm y = .list es new) (hnew : new = ys.map f) (hsl : sliceOf P t0 = some e) (hni : notInt P (some t1) = true) (hz : zeroC P e = some z) (hes : z.length = es) (hap : appI (bytesT P e) xs ys = some xy) (hff : ∀ a, (f a).length = es ∧ (f a).all tone = true ∧ (f a).all (lf 4) = true) : OpW C P { dst := dst, op := .call { callee := .builtin .append, args := #[x, y], argTypes := ⟨t0 :: t1 :: tys⟩ }, type := ty, pos := pos, after := aft, guard := gd } ⟨tm, hp⟩ ⟨tput (tm.map (kill n 4)) dst (.lsl n 0 xy.length), (hp.map (killB n)).set n (.rows es (xy.map f))⟩ := by
  unfold appI at hap
  split at hap
  · rename_i hl
    obtain rfl := Option.some.inj hap
    subst hnew
    have := OpW.append (C := C) (P := P) (s := ⟨tm, hp⟩) (dst := dst) (ty := ty) (pos := pos) (aft := aft) (gd := gd) (x := x) (y := y) (t0 := t0) (t1 := t1) (e := e) (tys := tys) (n := n) (len := len) (es := es) (rows := xs.map f) (new := ys.map f) (z := z) hx hb (by simp [hlen]) hy hsl hni hz hes (by simpa [limT] using hl)
      (fun r hr => by obtain ⟨a, _, rfl⟩ := List.mem_map.1 hr; exact (hff a).1) (fun r hr => by obtain ⟨a, _, rfl⟩ := List.mem_map.1 hr; exact (hff a).2.1) (fun r hr => by obtain ⟨a, _, rfl⟩ := List.mem_map.1 hr; exact (hff a).2.2)
    simpa using this
  · cases hap
theorem TO.ap {α : Type} {x y : Operand} {t0 t1 e : TypeId} {tys : List TypeId} {n len es : Nat} {xs ys : List α} {f : α → List TV} {z : List Value} {new : List (List TV)} {xy : List α} (hw : twant ops tm { dst := dst, op := .call { callee := .builtin .append, args := #[x, y], argTypes := ⟨t0 :: t1 :: tys⟩ }, type := ty, pos := pos, after := aft, guard := gd } = some true) (hx : tev tm x = .lsl n 0 len) (hb : hp[n]? = some (.rows es (xs.map f))) (hlen : len = xs.length) (hy : tev tm y = .list es new) (hnew : new = ys.map f) (hsl : sliceOf P t0 = some e) (hni : notInt P (some t1) = true) (hz : zeroC P e = some z) (hes : z.length = es) (hap : appI (bytesT P e) xs ys = some xy) (hff : ∀ a, (f a).length = es ∧ (f a).all tone = true ∧ (f a).all (lf 4) = true) (ht : tput (tm.map (kill n 4)) dst (.lsl n 0 xy.length) = tm2) (hh2 : (hp.map (killB n)).set n (.rows es (xy.map f)) = hp2) (hq : TO C P ops rest ⟨tm2, hp2⟩ Q) : TO C P ops ({ dst := dst, op := .call { callee := .builtin .append, args := #[x, y], argTypes := ⟨t0 :: t1 :: tys⟩ }, type := ty, pos := pos, after := aft, guard := gd } :: rest) ⟨tm, hp⟩ Q := by
  subst ht hh2
  exact TO.w hw (appW trivial hx hb hlen hy hnew hsl hni hz hes hap hff) hq
theorem TD.ap {α : Type} {x y : Operand} {t0 t1 e : TypeId} {tys : List TypeId} {n len es : Nat} {xs ys : List α} {f : α → List TV} {z : List Value} {new : List (List TV)} {xy : List α} (hw : twant ops tm { dst := dst, op := .call { callee := .builtin .append, args := #[x, y], argTypes := ⟨t0 :: t1 :: tys⟩ }, type := ty, pos := pos, after := aft, guard := gd } = some true) (hx : tev tm x = .lsl n 0 len) (hb : hp[n]? = some (.rows es (xs.map f))) (hlen : len = xs.length) (hy : tev tm y = .list es new) (hnew : new = ys.map f) (hsl : sliceOf P t0 = some e) (hni : notInt P (some t1) = true) (hz : zeroC P e = some z) (hes : z.length = es) (hap : appI (bytesT P e) xs ys = some xy) (hff : ∀ a, (f a).length = es ∧ (f a).all tone = true ∧ (f a).all (lf 4) = true) (hnp : np.all (fun j => (nthN ms i).testBit j) = true) (ht : tput (tm.map (kill n 4)) dst (.lsl n 0 xy.length) = tm2) (hh2 : (hp.map (killB n)).set n (.rows es (xy.map f)) = hp2) (hq : TD C P ops ms rest (i + 1) (i :: np) true ⟨tm2, hp2⟩ Q) : TD C P ops ms ({ dst := dst, op := .call { callee := .builtin .append, args := #[x, y], argTypes := ⟨t0 :: t1 :: tys⟩ }, type := ty, pos := pos, after := aft, guard := gd } :: rest) i np c ⟨tm, hp⟩ Q := by
  subst ht hh2
  exact TD.w hw (appW trivial hx hb hlen hy hnew hsl hni hz hes hap hff) hnp hq
theorem TO.cal {fo : Operand} {g : FuncId} {args : Array Operand} {tys : Array TypeId} {first caps as : List TV} {th : List TB} (hw : twant ops tm { dst := dst, op := .call { callee := .value fo, args := args, argTypes := tys }, type := ty, pos := pos, after := aft, guard := gd } = some true) (hf : tev tm fo = .func g first caps) (hg : goFn P g = true) (hsp : Spec C g as ⟨[p], th⟩) (has : first ++ (args.toList.map (tev tm) ++ caps) = as) (hl : as.all (lf 4) = true) (hth : th.all resTB = true) (ht : tput tm dst (shift hp.length 4 p) = tm2) (hh2 : hp ++ th = hp2) (hq : TO C P ops rest ⟨tm2, hp2⟩ Q) : TO C P ops ({ dst := dst, op := .call { callee := .value fo, args := args, argTypes := tys }, type := ty, pos := pos, after := aft, guard := gd } :: rest) ⟨tm, hp⟩ Q := by
  subst ht hh2
  exact TO.g hw (OpG.call (s := ⟨tm, hp⟩) hf hg has hl hsp hth) hq
theorem TD.cal {fo : Operand} {g : FuncId} {args : Array Operand} {tys : Array TypeId} {first caps as : List TV} {th : List TB} (hw : twant ops tm { dst := dst, op := .call { callee := .value fo, args := args, argTypes := tys }, type := ty, pos := pos, after := aft, guard := gd } = some true) (hf : tev tm fo = .func g first caps) (hg : goFn P g = true) (hsp : Spec C g as ⟨[p], th⟩) (has : first ++ (args.toList.map (tev tm) ++ caps) = as) (hl : as.all (lf 4) = true) (hth : th.all resTB = true) (ht : tput tm dst (shift hp.length 4 p) = tm2) (hh2 : hp ++ th = hp2) (hq : TD C P ops ms rest (i + 1) (i :: np) false ⟨tm2, hp2⟩ Q) : TD C P ops ms ({ dst := dst, op := .call { callee := .value fo, args := args, argTypes := tys }, type := ty, pos := pos, after := aft, guard := gd } :: rest) i np false ⟨tm, hp⟩ Q := by
  subst ht hh2
  exact TD.g hw (OpG.call (s := ⟨tm, hp⟩) hf hg has hl hsp hth) hq
theorem TD.calw {fo : Operand} {g : FuncId} {args : Array Operand} {tys : Array TypeId} {first caps as : List TV} {th : List TB} (hw : twant ops tm { dst := dst, op := .call { callee := .value fo, args := args, argTypes := tys }, type := ty, pos := pos, after := aft, guard := gd } = some true) (hf : tev tm fo = .func g first caps) (hg : goFn P g = true) (hsp : Spec C g as ⟨[p], th⟩) (has : first ++ (args.toList.map (tev tm) ++ caps) = as) (hl : as.all (lf 4) = true) (hth : th.all resTB = true) (hnp : np.all (fun j => (nthN ms i).testBit j) = true) (ht : tput tm dst (shift hp.length 4 p) = tm2) (hh2 : hp ++ th = hp2) (hq : TD C P ops ms rest (i + 1) (i :: np) true ⟨tm2, hp2⟩ Q) : TD C P ops ms ({ dst := dst, op := .call { callee := .value fo, args := args, argTypes := tys }, type := ty, pos := pos, after := aft, guard := gd } :: rest) i np c ⟨tm, hp⟩ Q := by
  subst ht hh2
  exact TD.w hw (OpG.toW (OpG.call (s := ⟨tm, hp⟩) hf hg has hl hsp hth)) hnp hq
theorem TO.lok {fo : Operand} {g : FuncId} {args : Array Operand} {tys : Array TypeId} {first caps as : List TV} {th : List TB} (hw : twant ops tm { dst := dst, op := .call { callee := .value fo, args := args, argTypes := tys }, type := ty, pos := pos, after := aft, guard := gd } = some true) (hf : tev tm fo = .func g first caps) (hg : goFn P g = true) (hsp : Spec C g as ⟨[p], th⟩) (has : first ++ ((args.toList.map (tev tm)).map (view hp 4) ++ caps) = as) (hth : th.all resTB = true) (hcp : cl 4 p = true) (hcl : th.all clTB = true) (ht : tput tm dst (shift hp.length 4 p) = tm2) (hh2 : hp ++ th = hp2) (hq : TO C P ops rest ⟨tm2, hp2⟩ Q) : TO C P ops ({ dst := dst, op := .call { callee := .value fo, args := args, argTypes := tys }, type := ty, pos := pos, after := aft, guard := gd } :: rest) ⟨tm, hp⟩ Q := by
  subst ht hh2
  exact TO.g hw (OpG.look (s := ⟨tm, hp⟩) hf hg has hsp hth hcp hcl) hq
theorem TD.lok {fo : Operand} {g : FuncId} {args : Array Operand} {tys : Array TypeId} {first caps as : List TV} {th : List TB} (hw : twant ops tm { dst := dst, op := .call { callee := .value fo, args := args, argTypes := tys }, type := ty, pos := pos, after := aft, guard := gd } = some true) (hf : tev tm fo = .func g first caps) (hg : goFn P g = true) (hsp : Spec C g as ⟨[p], th⟩) (has : first ++ ((args.toList.map (tev tm)).map (view hp 4) ++ caps) = as) (hth : th.all resTB = true) (hcp : cl 4 p = true) (hcl : th.all clTB = true) (ht : tput tm dst (shift hp.length 4 p) = tm2) (hh2 : hp ++ th = hp2) (hq : TD C P ops ms rest (i + 1) (i :: np) false ⟨tm2, hp2⟩ Q) : TD C P ops ms ({ dst := dst, op := .call { callee := .value fo, args := args, argTypes := tys }, type := ty, pos := pos, after := aft, guard := gd } :: rest) i np false ⟨tm, hp⟩ Q := by
  subst ht hh2
  exact TD.g hw (OpG.look (s := ⟨tm, hp⟩) hf hg has hsp hth hcp hcl) hq
theorem TO.frz (n : Nat) {l : List Oper} {b : TB} (hb : hp[n]? = some b) (hl : lfB b = true) (ht : tm.map (frz n b 4) = tm2) (hh2 : (hp.map (frzB n b)).set n .dead = hp2) (hq : TO C P ops l ⟨tm2, hp2⟩ Q) : TO C P ops l ⟨tm, hp⟩ Q := by
  subst ht hh2
  exact TO.weak (Wk.freeze n hb hl) hq
theorem TD.frz (n : Nat) {l : List Oper} {b : TB} (hb : hp[n]? = some b) (hl : lfB b = true) (ht : tm.map (frz n b 4) = tm2) (hh2 : (hp.map (frzB n b)).set n .dead = hp2) (hq : TD C P ops ms l i np c ⟨tm2, hp2⟩ Q) : TD C P ops ms l i np c ⟨tm, hp⟩ Q := by
  subst ht hh2
  exact TD.weak (Wk.freeze n hb hl) hq
end
end Go.Rex

namespace Go.Rex
open Go.RowKit
section
variable {P : Program} {tm : List TV} {hp : List TB}
variable {dst : Option Tmp} {ty : TypeId} {pos : String} {aft : Array Edge} {gd : Option (Nat × Bool)} {x y : Operand} {t u : TypeId} {tys : List TypeId}
/-! ### operations on values without names -/
theorem tgen_of {o : Oper} {v : Value} (ha : o.op.operands.toList.all (fun x => (er 3 (tev tm x)).isSome) = true) (hv : Rex.pop P (erased tm) o = some v) (hi : injOk 3 v = true) : tgen P tm o = some (inj 3 v) := by
  unfold tgen
  rw [if_pos ha, hv]
  simp only
  rw [if_pos hi]
theorem erased_v {a : Value} (h : tev tm x = .v a) : erased tm x = a := by unfold erased; rw [h]; rfl
theorem some_v {a : Value} (h : tev tm x = .v a) : (er 3 (tev tm x)).isSome = true := by rw [h]; rfl
theorem pop_not {b : Bool} (h : tev tm x = .v (.bool b)) : tpop P hp tm { dst := dst, op := .unOp .not t x, type := ty, pos := pos, after := aft, guard := gd } = some (.v (.bool (!b))) := by
  have : tgen P tm { dst := dst, op := .unOp .not t x, type := ty, pos := pos, after := aft, guard := gd } = some (inj 3 (.bool (!b))) :=
    tgen_of (by simp [Op.operands, some_v h]) (by simp only [Rex.pop, genP_not, erased_v h]) rfl
  exact this
theorem pop_neg {k : IntKind} {n : Int} (h : tev tm x = .v (.int k n)) : tpop P hp tm { dst := dst, op := .unOp .neg t x, type := ty, pos := pos, after := aft, guard := gd } = some (.v (.int k (k.wrap (0 - n)))) := by
  have : tgen P tm { dst := dst, op := .unOp .neg t x, type := ty, pos := pos, after := aft, guard := gd } = some (inj 3 (.int k (k.wrap (0 - n)))) :=
    tgen_of (by simp [Op.operands, some_v h]) (by simp only [Rex.pop, genP_neg, erased_v h]) rfl
  exact this
theorem pop_max {k k' : IntKind} {a b : Int} (h : tev tm x = .v (.int k a)) (g : tev tm y = .v (.int k' b)) : tpop P hp tm { dst := dst, op := .call { callee := .builtin .max, args := #[x, y], argTypes := ⟨tys⟩ }, type := ty, pos := pos, after := aft, guard := gd } = some (.v (.int k (if b > a then b else a))) := by
  have : tgen P tm { dst := dst, op := .call { callee := .builtin .max, args := #[x, y], argTypes := ⟨tys⟩ }, type := ty, pos := pos, after := aft, guard := gd } = some (inj 3 (.int k (if b > a then b else a))) :=
    tgen_of (by simpa [Op.operands, Call.operands] using ⟨some_v h, some_v g⟩) (by
      simp only [Rex.pop, bpop]; rw [if_neg (by decide), genP_max, erased_v h, erased_v g]) rfl
  exact this
/-- from the model itself -/
theorem tgen_run {o : Oper} {v : Value} (hp0 : Rex.pop P (erased tm) o = genP P (erased tm) o) (hsel : ∀ cs b, o.op ≠ .select cs b) (ha : o.op.operands.toList.all (fun x => (er 3 (tev tm x)).isSome) = true) (hc : o.op.operands.toList.all (fun x => isClean (erased tm x)) = true)
    (hv : prun P (execOp (erased tm) o) = some (.value v)) (hi : injOk 3 v = true) (hcv : isClean v = true) : tgen P tm o = some (inj 3 v) := by
  refine tgen_of ha ?_ hi
  rw [hp0]
  unfold genP
  split
  · rename_i cs b e; exact absurd e (hsel _ _)
  · rw [if_pos hc, hv]
    simp only
    rw [if_pos hcv]
theorem prun_bind {α β : Type} {s : Sem α} {f : α → Sem β} : prun P (s >>= f) = (prun P s).bind fun a => prun P (f a) := by
  induction s with
  | pure a => rfl
  | program k ih => exact ih _
  | mark m k ih => exact ih
  | _ => rfl
theorem prun_under {t : TypeId} {d : TypeDesc} (h : P.underlying t = some d) : prun P (underlying t) = some d := by
  unfold underlying
  rw [prun_bind]
  show prun P (match P.underlying t with | some d => pure d | none => stuck "no such type") = some d
  rw [h]
  rfl
theorem bin_ok {b : BinOp} {v w r : Value} (h : tev tm x = .v v) (g : tev tm y = .v w) (hf : fastBin b v w = none) (hc : isClean v = true) (hd : isClean w = true) (he : prun P (eqGuard b t x y v w) = some ()) (hw : prun P (binOp b t v w) = some r) (hi : injOk 3 r = true) (hcr : isClean r = true) :
    tpop P hp tm { dst := dst, op := .binOp b t x y u, type := ty, pos := pos, after := aft, guard := gd } = some (inj 3 r) := by
  have h1 : tgen P tm { dst := dst, op := .binOp b t x y u, type := ty, pos := pos, after := aft, guard := gd } = some (inj 3 r) := by
    refine tgen_run ?_ (fun cs b e => by cases e) (by simpa [Op.operands] using ⟨some_v h, some_v g⟩) (by simpa [Op.operands, erased_v h, erased_v g] using ⟨hc, hd⟩) ?_ hi hcr
    · simp only [Rex.pop, erased_v h, erased_v g, hf, orGen]
    · show prun P ((eqGuard b t x y (erased tm x) (erased tm y) >>= fun _ => binOp b t (erased tm x) (erased tm y)) >>= fun r => (pure (Next.value r) : Sem Next)) = _
      rw [prun_bind, erased_v h, erased_v g, prun_bind, he, Option.bind_some, hw]
      rfl
  simp only [tpop, h, g, tbin, hf, Option.map_none, orT]
  exact h1
theorem pop_beq {v w : Bool} (h : tev tm x = .v (.bool v)) (g : tev tm y = .v (.bool w)) (ht : P.underlying t = some .bool) : tpop P hp tm { dst := dst, op := .binOp .eql t x y u, type := ty, pos := pos, after := aft, guard := gd } = some (.v (.bool (v == w))) ∧ tpop P hp tm { dst := dst, op := .binOp .neq t x y u, type := ty, pos := pos, after := aft, guard := gd } = some (.v (.bool (!(v == w)))) := by
  have he : prun P (Op.equal t (.bool v) (.bool w)) = some (v == w) := by
    show prun P (Op.equalIn _ t _ _) = _
    unfold Op.maxDepth Op.equalIn
    rw [prun_bind, prun_under ht]
    rfl
  constructor
  · refine bin_ok (r := .bool (v == w)) h g rfl rfl rfl ?_ ?_ rfl rfl
    · rfl
    · simp only [binOp]; rw [prun_bind, he]; rfl
  · refine bin_ok (r := .bool (!(v == w))) h g rfl rfl rfl ?_ ?_ rfl rfl
    · rfl
    · simp only [binOp]; rw [prun_bind, he]; rfl
end
end Go.Rex

namespace Go.Rex
open Go.RowKit
section
variable {C : Ctx} {P : Program} {ops : Array Oper} {rest : List Oper} {tm tm2 : List TV} {hp hp2 : List TB} {Q : TS → Prop} {o : Oper}
variable {dst : Option Tmp} {ty : TypeId} {pos : String} {aft : Array Edge} {gd : Option (Nat × Bool)} {p q : TV} {ms : List Nat} {i : Nat} {np : List Nat} {c : Bool}
theorem stV {t : TypeId} {a x : Operand} {n ob : Nat} {row row2 l : List TV} (ha : tev tm a = .lptr n 0 ob) (hx : tev tm x = p) (hj : isJunk p = false) (hl : tcells p = l) (hb : hp[n]? = some (.var row)) (ht : okT P t = true) (hlen : l.length = P.cellsOf t) (hone : l.all tone = true) (hfit : Nat.ble (ob + l.length) row.length = true) (hv : tsplice row ob l = row2) :
    OpW C P { dst := none, op := .store t a x, type := ty, pos := pos, after := aft, guard := gd } ⟨tm, hp⟩ ⟨tm, hp.set n (.var row2)⟩ := by
  subst hl hv
  refine OpW.store (s := ⟨tm, hp⟩) ?_
  rw [show tev (TS.mk tm hp).tm a = _ from ha, show tev (TS.mk tm hp).tm x = p from hx]
  simp only [tstore]
  rw [if_pos ⟨hj, ht, hlen, hone⟩, hb]
  simp only
  rw [if_pos ⟨trivial, Nat.le_of_ble_eq_true hfit⟩]
theorem stR {α : Type} {f : α → List TV} {xs : List α} {y : α} {u : α} {t : TypeId} {a x : Operand} {n r ob es : Nat} {l : List TV} (ha : tev tm a = .lptr n r ob) (hx : tev tm x = p) (hj : isJunk p = false) (hl : tcells p = l) (hb : hp[n]? = some (.rows es (xs.map f))) (hr : xs[r]? = some u) (ht : okT P t = true) (hlen : l.length = P.cellsOf t) (hone : l.all tone = true)
    (hlf : l.all (lf 4) = true) (hfit : Nat.ble (ob + l.length) (f u).length = true) (hv : tsplice (f u) ob l = f y) :
    OpW C P { dst := none, op := .store t a x, type := ty, pos := pos, after := aft, guard := gd } ⟨tm, hp⟩ ⟨tm, hp.set n (.rows es ((xs.set r y).map f))⟩ := by
  subst hl
  refine OpW.store (s := ⟨tm, hp⟩) ?_
  rw [show tev (TS.mk tm hp).tm a = _ from ha, show tev (TS.mk tm hp).tm x = p from hx]
  simp only [tstore]
  rw [if_pos ⟨hj, ht, hlen, hone⟩, hb]
  simp only [List.getElem?_map, hr, Option.map_some]
  rw [if_pos ⟨Nat.le_of_ble_eq_true hfit, hlf⟩, hv, List.map_set]
theorem TO.sv {t : TypeId} {a x : Operand} {n ob : Nat} {row row2 l : List TV} (hw : twant ops tm { dst := none, op := .store t a x, type := ty, pos := pos, after := aft, guard := gd } = some true) (ha : tev tm a = .lptr n 0 ob) (hx : tev tm x = p) (hj : isJunk p = false) (hl : tcells p = l) (hb : hp[n]? = some (.var row)) (ht : okT P t = true) (hlen : l.length = P.cellsOf t) (hone : l.all tone = true) (hfit : Nat.ble (ob + l.length) row.length = true) (hv : tsplice row ob l = row2)
    (hh2 : hp.set n (.var row2) = hp2) (hq : TO C P ops rest ⟨tm, hp2⟩ Q) : TO C P ops ({ dst := none, op := .store t a x, type := ty, pos := pos, after := aft, guard := gd } :: rest) ⟨tm, hp⟩ Q := by
  subst hh2; exact TO.w hw (stV ha hx hj hl hb ht hlen hone hfit hv) hq
theorem TD.sv {t : TypeId} {a x : Operand} {n ob : Nat} {row row2 l : List TV} (hw : twant ops tm { dst := none, op := .store t a x, type := ty, pos := pos, after := aft, guard := gd } = some true) (ha : tev tm a = .lptr n 0 ob) (hx : tev tm x = p) (hj : isJunk p = false) (hl : tcells p = l) (hb : hp[n]? = some (.var row)) (ht : okT P t = true) (hlen : l.length = P.cellsOf t) (hone : l.all tone = true) (hfit : Nat.ble (ob + l.length) row.length = true) (hv : tsplice row ob l = row2)
    (hnp : np.all (fun j => (nthN ms i).testBit j) = true) (hh2 : hp.set n (.var row2) = hp2) (hq : TD C P ops ms rest (i + 1) (i :: np) true ⟨tm, hp2⟩ Q) : TD C P ops ms ({ dst := none, op := .store t a x, type := ty, pos := pos, after := aft, guard := gd } :: rest) i np c ⟨tm, hp⟩ Q := by
  subst hh2; exact TD.w hw (stV ha hx hj hl hb ht hlen hone hfit hv) hnp hq
theorem TO.sr {α : Type} (f : α → List TV) (xs : List α) (u y : α) {t : TypeId} {a x : Operand} {n r ob es : Nat} {l : List TV} (hr : xs[r]? = some u) (hw : twant ops tm { dst := none, op := .store t a x, type := ty, pos := pos, after := aft, guard := gd } = some true) (ha : tev tm a = .lptr n r ob) (hx : tev tm x = p) (hj : isJunk p = false) (hl : tcells p = l) (hb : hp[n]? = some (.rows es (xs.map f))) (ht : okT P t = true) (hlen : l.length = P.cellsOf t) (hone : l.all tone = true)
    (hlf : l.all (lf 4) = true) (hfit : Nat.ble (ob + l.length) (f u).length = true) (hv : tsplice (f u) ob l = f y) (hh2 : hp.set n (.rows es ((xs.set r y).map f)) = hp2) (hq : TO C P ops rest ⟨tm, hp2⟩ Q) : TO C P ops ({ dst := none, op := .store t a x, type := ty, pos := pos, after := aft, guard := gd } :: rest) ⟨tm, hp⟩ Q := by
  subst hh2; exact TO.w hw (stR ha hx hj hl hb hr ht hlen hone hlf hfit hv) hq
theorem TD.sr {α : Type} (f : α → List TV) (xs : List α) (u y : α) {t : TypeId} {a x : Operand} {n r ob es : Nat} {l : List TV} (hr : xs[r]? = some u) (hw : twant ops tm { dst := none, op := .store t a x, type := ty, pos := pos, after := aft, guard := gd } = some true) (ha : tev tm a = .lptr n r ob) (hx : tev tm x = p) (hj : isJunk p = false) (hl : tcells p = l) (hb : hp[n]? = some (.rows es (xs.map f))) (ht : okT P t = true) (hlen : l.length = P.cellsOf t) (hone : l.all tone = true)
    (hlf : l.all (lf 4) = true) (hfit : Nat.ble (ob + l.length) (f u).length = true) (hv : tsplice (f u) ob l = f y) (hnp : np.all (fun j => (nthN ms i).testBit j) = true) (hh2 : hp.set n (.rows es ((xs.set r y).map f)) = hp2) (hq : TD C P ops ms rest (i + 1) (i :: np) true ⟨tm, hp2⟩ Q) : TD C P ops ms ({ dst := none, op := .store t a x, type := ty, pos := pos, after := aft, guard := gd } :: rest) i np c ⟨tm, hp⟩ Q := by
  subst hh2; exact TD.w hw (stR ha hx hj hl hb hr ht hlen hone hlf hfit hv) hnp hq
end
section
variable {C : Ctx} {P : Program} {ops : Array Oper} {rest : List Oper} {tm tm2 : List TV} {hp hp2 : List TB} {Q : TS → Prop} {o : Oper}
variable {dst : Option Tmp} {ty : TypeId} {pos : String} {aft : Array Edge} {gd : Option (Nat × Bool)} {p q : TV} {ms : List Nat} {i : Nat} {np : List Nat} {c : Bool}
/-! ### arrays at any index -/
end
/-- what slots and operands are -/
theorem z1 : (∀ tm t, tev tm (.tmp t) = tnth tm t) ∧ (∀ tm k n, tev tm (.const (.int k n)) = .v (.int k n)) ∧ (∀ tm b, tev tm (.const (.bool b)) = .v (.bool b)) ∧ (∀ tm s, tev tm (.const (.string s)) = .v (.string s)) ∧ (∀ tm k b, tev tm (.const (.float k b)) = .v (.float k b)) ∧
    (∀ tm k a b, tev tm (.const (.complex k a b)) = .v (.complex k a b)) ∧ (∀ tm, tev tm (.const (.slice none 0 0)) = .v (.slice none 0 0)) ∧ (∀ tm, tev tm (.const .nilFunc) = .v .nilFunc) ∧ (∀ tm, tev tm (.const .nilIface) = .v .nilIface) ∧ (∀ tm, tev tm (.const (.pointer none)) = .v (.pointer none)) ∧
    (∀ tm f, tev tm (.func f) = .func f [] []) ∧ (∀ a l, tnth (a :: l) 0 = a) ∧ (∀ a l n, tnth (a :: l) (n + 1) = tnth l n) ∧ (∀ tm p, tput tm none p = tm) ∧ (∀ tm d p, tput tm (some d) p = tm.set d p) :=
  ⟨fun _ _ => rfl, fun _ _ _ => rfl, fun _ _ => rfl, fun _ _ => rfl, fun _ _ _ => rfl, fun _ _ _ _ => rfl, fun _ => rfl, fun _ => rfl, fun _ => rfl, fun _ => rfl, fun _ _ => rfl, fun _ _ => rfl, fun _ _ _ => rfl, fun _ _ => rfl, fun _ _ _ => rfl⟩
/-- operators on integers -/
theorem z2 : (∀ k a b, fastBin .add (.int k a) (.int k b) = some (.int k (k.wrap (a + b)))) ∧ (∀ k a b, fastBin .sub (.int k a) (.int k b) = some (.int k (k.wrap (a - b)))) ∧ (∀ k a b, fastBin .mul (.int k a) (.int k b) = some (.int k (k.wrap (a * b)))) ∧
    (∀ k a b, fastBin .lss (.int k a) (.int k b) = some (.bool (decide (a < b)))) ∧ (∀ k a b, fastBin .leq (.int k a) (.int k b) = some (.bool (decide (a ≤ b)))) ∧ (∀ k a b, fastBin .gtr (.int k a) (.int k b) = some (.bool (decide (a > b)))) ∧ (∀ k a b, fastBin .geq (.int k a) (.int k b) = some (.bool (decide (a ≥ b)))) ∧
    (∀ k a b, fastBin .eql (.int k a) (.int k b) = some (.bool (decide (a = b)))) ∧ (∀ k a b, fastBin .neq (.int k a) (.int k b) = some (.bool (decide (a ≠ b)))) ∧ (∀ k a b, fastBin .quo (.int k a) (.int k b) = if b = 0 then none else some (.int k (k.wrap (a.tdiv b)))) ∧ (∀ k a b, fastBin .rem (.int k a) (.int k b) = if b = 0 then none else some (.int k (a.tmod b))) := by
  refine ⟨?_, ?_, ?_, ?_, ?_, ?_, ?_, ?_, ?_, ?_, ?_⟩ <;> (intro k a b; simp only [fastBin, if_true])
end Go.Rex

namespace Go.Rex
open Go.RowKit
section
variable {C : Ctx} {P : Program} {ops : Array Oper} {rest : List Oper} {tm tm2 : List TV} {hp hp2 : List TB} {Q : TS → Prop} {o : Oper}
variable {dst : Option Tmp} {ty : TypeId} {pos : String} {aft : Array Edge} {gd : Option (Nat × Bool)} {p q : TV} {ms : List Nat} {i : Nat} {np : List Nat} {c : Bool}
theorem TO.here {l : List Oper} {s : TS} (h : TO C P ops l s Q) : TO C P ops l s Q := h
theorem TD.here {l : List Oper} {s : TS} (h : TD C P ops ms l i np c s Q) : TD C P ops ms l i np c s Q := h
theorem TO.vt {α : Type} (f : α → List TV) (t es : Nat) {l : List Oper} (ht : tnth tm t = .v (.slice none 0 0)) (h1 : tm.set t (.lsl hp.length 0 ([] : List α).length) = tm2) (h2 : hp ++ [.rows es (([] : List α).map f)] = hp2) (hq : TO C P ops l ⟨tm2, hp2⟩ Q) : TO C P ops l ⟨tm, hp⟩ Q := by
  subst h1 h2
  exact TO.weak (Wk.nil t es ht) hq
theorem TD.vt {α : Type} (f : α → List TV) (t es : Nat) {l : List Oper} (ht : tnth tm t = .v (.slice none 0 0)) (h1 : tm.set t (.lsl hp.length 0 ([] : List α).length) = tm2) (h2 : hp ++ [.rows es (([] : List α).map f)] = hp2) (hq : TD C P ops ms l i np c ⟨tm2, hp2⟩ Q) : TD C P ops ms l i np c ⟨tm, hp⟩ Q := by
  subst h1 h2
  exact TD.weak (Wk.nil t es ht) hq
/-- a row of zeros -/
theorem mkG {α : Type} {f : α → List TV} {z0 : α} {xs : List α} {t e : TypeId} {x y : Operand} {k k' : IntKind} {n : Int} {z : List Value} {es by' : Nat} (hm : mkI by' n z0 = some xs) (hx : tev tm x = .v (.int k n)) (hy : tev tm y = .v (.int k' n)) (hs : sliceOf P t = some e) (hz : zeroC P e = some z) (hb : bytesT P e = by') (hne : z.length = es) (he : Nat.ble 1 es = true) (hf : z.map .v = f z0) :
    OpG C P { dst := dst, op := .makeSlice t x y, type := ty, pos := pos, after := aft, guard := gd } ⟨tm, hp⟩ ⟨tput tm dst (.lsl hp.length 0 xs.length), hp ++ [.rows es (xs.map f)]⟩ := by
  unfold mkI at hm
  split at hm
  · rename_i hc
    obtain rfl := Option.some.inj hm
    have := OpG.makeSlice (C := C) (P := P) (s := ⟨tm, hp⟩) (dst := dst) (ty := ty) (pos := pos) (aft := aft) (gd := gd) (t := t) (l := x) (c := y) (n := n.toNat) (z := z) (by
      rw [show tev (TS.mk tm hp).tm x = _ from hx, show tev (TS.mk tm hp).tm y = _ from hy]
      simp only [tmake, hs, hz, hb]
      rw [if_pos ⟨trivial, hc.1, hc.2.1, hc.2.2, fun h => by rw [h] at hne; simp at hne; subst hne; simp [Nat.ble] at he⟩])
    rw [hne, hf] at this
    simpa using this
  · cases hm
theorem TO.mk {α : Type} (f : α → List TV) {z0 : α} {xs : List α} {t e : TypeId} {x y : Operand} {k k' : IntKind} {n : Int} {z : List Value} {es by' : Nat} (hm : mkI by' n z0 = some xs) (hw : twant ops tm { dst := dst, op := .makeSlice t x y, type := ty, pos := pos, after := aft, guard := gd } = some true) (hx : tev tm x = .v (.int k n)) (hy : tev tm y = .v (.int k' n)) (hs : sliceOf P t = some e) (hz : zeroC P e = some z) (hb : bytesT P e = by') (hne : z.length = es) (he : Nat.ble 1 es = true) (hf : z.map .v = f z0)
    (ht : tput tm dst (.lsl hp.length 0 xs.length) = tm2) (hh2 : hp ++ [.rows es (xs.map f)] = hp2) (hq : TO C P ops rest ⟨tm2, hp2⟩ Q) : TO C P ops ({ dst := dst, op := .makeSlice t x y, type := ty, pos := pos, after := aft, guard := gd } :: rest) ⟨tm, hp⟩ Q := by
  subst ht hh2; exact TO.g hw (mkG hm hx hy hs hz hb hne he hf) hq
theorem TD.mk {α : Type} (f : α → List TV) {z0 : α} {xs : List α} {t e : TypeId} {x y : Operand} {k k' : IntKind} {n : Int} {z : List Value} {es by' : Nat} (hm : mkI by' n z0 = some xs) (hw : twant ops tm { dst := dst, op := .makeSlice t x y, type := ty, pos := pos, after := aft, guard := gd } = some true) (hx : tev tm x = .v (.int k n)) (hy : tev tm y = .v (.int k' n)) (hs : sliceOf P t = some e) (hz : zeroC P e = some z) (hb : bytesT P e = by') (hne : z.length = es) (he : Nat.ble 1 es = true) (hf : z.map .v = f z0)
    (ht : tput tm dst (.lsl hp.length 0 xs.length) = tm2) (hh2 : hp ++ [.rows es (xs.map f)] = hp2) (hq : TD C P ops ms rest (i + 1) (i :: np) false ⟨tm2, hp2⟩ Q) : TD C P ops ms ({ dst := dst, op := .makeSlice t x y, type := ty, pos := pos, after := aft, guard := gd } :: rest) i np false ⟨tm, hp⟩ Q := by
  subst ht hh2; exact TD.g hw (mkG hm hx hy hs hz hb hne he hf) hq
/-- a literal of one's own -/
theorem boG {α : Type} {f : α → List TV} {xs : List α} {t : TypeId} {n es : Nat} {ps : Array (Nat × Operand)} {l : List (Nat × TV)} {rows : List (List TV)} (hx : ps.toList.map (fun q => (q.1, tev tm q.2)) = l) (hv : tslice P t n l = some (es, rows)) (hr : rows = xs.map f) (hn : n = xs.length) :
    OpG C P { dst := dst, op := .buildSlice t n ps, type := ty, pos := pos, after := aft, guard := gd } ⟨tm, hp⟩ ⟨tput tm dst (.lsl hp.length 0 xs.length), hp ++ [.rows es (xs.map f)]⟩ := by
  subst hr hn
  exact OpG.buildOwn (s := ⟨tm, hp⟩) (by simp only [hx]; exact hv)
theorem TO.bl {α : Type} (f : α → List TV) (xs : List α) {t : TypeId} {n es : Nat} {ps : Array (Nat × Operand)} {l : List (Nat × TV)} {rows : List (List TV)} (hw : twant ops tm { dst := dst, op := .buildSlice t n ps, type := ty, pos := pos, after := aft, guard := gd } = some true) (hx : ps.toList.map (fun q => (q.1, tev tm q.2)) = l) (hv : tslice P t n l = some (es, rows)) (hr : rows = xs.map f) (hn : n = xs.length)
    (ht : tput tm dst (.lsl hp.length 0 xs.length) = tm2) (hh2 : hp ++ [.rows es (xs.map f)] = hp2) (hq : TO C P ops rest ⟨tm2, hp2⟩ Q) : TO C P ops ({ dst := dst, op := .buildSlice t n ps, type := ty, pos := pos, after := aft, guard := gd } :: rest) ⟨tm, hp⟩ Q := by
  subst ht hh2; exact TO.g hw (boG hx hv hr hn) hq
theorem TD.bl {α : Type} (f : α → List TV) (xs : List α) {t : TypeId} {n es : Nat} {ps : Array (Nat × Operand)} {l : List (Nat × TV)} {rows : List (List TV)} (hw : twant ops tm { dst := dst, op := .buildSlice t n ps, type := ty, pos := pos, after := aft, guard := gd } = some true) (hx : ps.toList.map (fun q => (q.1, tev tm q.2)) = l) (hv : tslice P t n l = some (es, rows)) (hr : rows = xs.map f) (hn : n = xs.length)
    (ht : tput tm dst (.lsl hp.length 0 xs.length) = tm2) (hh2 : hp ++ [.rows es (xs.map f)] = hp2) (hq : TD C P ops ms rest (i + 1) (i :: np) false ⟨tm2, hp2⟩ Q) : TD C P ops ms ({ dst := dst, op := .buildSlice t n ps, type := ty, pos := pos, after := aft, guard := gd } :: rest) i np false ⟨tm, hp⟩ Q := by
  subst ht hh2; exact TD.g hw (boG hx hv hr hn) hq
/-- a part of a list -/
theorem sbG {α : Type} {f : α → List TV} {xs ys : List α} {t e : TypeId} {x : Operand} {lo hi : Option Operand} {ql qh : Option TV} {es : Nat} {l k : Int} (hs : subI xs l k = some ys) (hx : tev tm x = .list es (xs.map f)) (hl : lo.map (tev tm) = ql) (hh : hi.map (tev tm) = qh) (hso : sliceOf P t = some e) (ho : okT P e = true) (hes : P.cellsOf e = es)
    (hl' : (ql = none ∧ l = 0) ∨ ∃ k', ql = some (.v (.int k' l))) (hh' : (qh = none ∧ k = xs.length) ∨ ∃ k', qh = some (.v (.int k' k))) :
    OpG C P { dst := dst, op := .slice t x lo hi none, type := ty, pos := pos, after := aft, guard := gd } ⟨tm, hp⟩ ⟨tput tm dst (.list es (ys.map f)), hp⟩ := by
  unfold subI at hs
  split at hs
  · rename_i hc
    obtain rfl := Option.some.inj hs
    obtain ⟨c1, c2, c3, c4, c5⟩ := hc
    refine OpG.slice (s := ⟨tm, hp⟩) ?_
    rw [show tev (TS.mk tm hp).tm x = _ from hx, show lo.map (tev (TS.mk tm hp).tm) = ql from hl, show hi.map (tev (TS.mk tm hp).tm) = qh from hh]
    have b1 : tbnd ql 0 = some l.toNat := by
      rcases hl' with ⟨rfl, rfl⟩ | ⟨k', rfl⟩
      · rfl
      · simp only [tbnd]; rw [if_pos c1]
    have b2 : tbnd qh (xs.map f).length = some k.toNat := by
      rcases hh' with ⟨rfl, rfl⟩ | ⟨k', rfl⟩
      · simp [tbnd]
      · simp only [tbnd]; rw [if_pos (by omega)]
    simp only [tsub, hso, ho, if_true, b1, b2]
    rw [if_pos ⟨hes.symm, by simpa using c4, by omega, by simp; omega, by simp; omega⟩]
    simp [List.map_take, List.map_drop]
  · cases hs
theorem TO.sb {α : Type} (f : α → List TV) {xs ys : List α} {t e : TypeId} {x : Operand} {lo hi : Option Operand} {ql qh : Option TV} {es : Nat} {l k : Int} (hs : subI xs l k = some ys) (hw : twant ops tm { dst := dst, op := .slice t x lo hi none, type := ty, pos := pos, after := aft, guard := gd } = some true) (hx : tev tm x = .list es (xs.map f)) (hl : lo.map (tev tm) = ql) (hh : hi.map (tev tm) = qh) (hso : sliceOf P t = some e) (ho : okT P e = true) (hes : P.cellsOf e = es)
    (hl' : (ql = none ∧ l = 0) ∨ ∃ k', ql = some (.v (.int k' l))) (hh' : (qh = none ∧ k = xs.length) ∨ ∃ k', qh = some (.v (.int k' k))) (ht : tput tm dst (.list es (ys.map f)) = tm2) (hq : TO C P ops rest ⟨tm2, hp⟩ Q) : TO C P ops ({ dst := dst, op := .slice t x lo hi none, type := ty, pos := pos, after := aft, guard := gd } :: rest) ⟨tm, hp⟩ Q := by
  subst ht; exact TO.g hw (sbG hs hx hl hh hso ho hes hl' hh') hq
theorem TD.sb {α : Type} (f : α → List TV) {xs ys : List α} {t e : TypeId} {x : Operand} {lo hi : Option Operand} {ql qh : Option TV} {es : Nat} {l k : Int} (hs : subI xs l k = some ys) (hw : twant ops tm { dst := dst, op := .slice t x lo hi none, type := ty, pos := pos, after := aft, guard := gd } = some true) (hx : tev tm x = .list es (xs.map f)) (hl : lo.map (tev tm) = ql) (hh : hi.map (tev tm) = qh) (hso : sliceOf P t = some e) (ho : okT P e = true) (hes : P.cellsOf e = es)
    (hl' : (ql = none ∧ l = 0) ∨ ∃ k', ql = some (.v (.int k' l))) (hh' : (qh = none ∧ k = xs.length) ∨ ∃ k', qh = some (.v (.int k' k))) (ht : tput tm dst (.list es (ys.map f)) = tm2) (hq : TD C P ops ms rest (i + 1) (i :: np) false ⟨tm2, hp⟩ Q) : TD C P ops ms ({ dst := dst, op := .slice t x lo hi none, type := ty, pos := pos, after := aft, guard := gd } :: rest) i np false ⟨tm, hp⟩ Q := by
  subst ht; exact TD.g hw (sbG hs hx hl hh hso ho hes hl' hh') hq
end
end Go.Rex

namespace Go.Rex
open Go.RowKit
theorem z3 : (∀ (α : Type) (a b : α) (l : List α), (a :: l).set 0 b = b :: l) ∧ (∀ (α : Type) (a b : α) (l : List α) (n : Nat), (a :: l).set (n + 1) b = a :: l.set n b) ∧ (∀ (α : Type) (a : α) (l : List α), (a :: l)[0]? = some a) ∧ (∀ (α : Type) (a : α) (l : List α) (n : Nat), (a :: l)[n + 1]? = l[n]?) ∧
    (∀ (α β : Type) (f : α → β) (a : α) (l : List α), (a :: l).map f = f a :: l.map f) ∧ (∀ (α β : Type) (f : α → β), ([] : List α).map f = []) ∧ (∀ (α : Type) (a : α) (l m : List α), (a :: l) ++ m = a :: (l ++ m)) ∧ (∀ (α : Type) (l : List α), [] ++ l = l) ∧ (∀ (α : Type) (a : α) (l : List α), (a :: l).length = l.length + 1) ∧ (∀ (α : Type), ([] : List α).length = 0) ∧
    (∀ (α : Type) (l : List α), l.drop 0 = l) ∧ (∀ (α : Type) (a : α) (l : List α) (n : Nat), (a :: l).drop (n + 1) = l.drop n) ∧ (∀ (α : Type) (n : Nat), ([] : List α).drop n = []) ∧ (∀ (α : Type) (l : List α), l.take 0 = []) ∧ (∀ (α : Type) (a : α) (l : List α) (n : Nat), (a :: l).take (n + 1) = a :: l.take n) ∧ (∀ (α : Type) (n : Nat), ([] : List α).take n = []) ∧
    (∀ (α β : Type) (f : α → β) (a : α), (some a).map f = some (f a)) ∧ (∀ (α β : Type) (f : α → β) (l : List α), (l.map f).length = l.length) :=
  ⟨fun _ _ _ _ => rfl, fun _ _ _ _ _ => rfl, fun _ _ _ => rfl, fun _ _ _ _ => rfl, fun _ _ _ _ _ => rfl, fun _ _ _ => rfl, fun _ _ _ _ => rfl, fun _ _ => rfl, fun _ _ _ => rfl, fun _ => rfl, fun _ _ => rfl, fun _ _ _ _ => rfl, fun _ n => by cases n <;> rfl, fun _ _ => rfl, fun _ _ _ _ => rfl, fun _ n => by cases n <;> rfl, fun _ _ _ _ => rfl, fun _ _ _ _ => List.length_map _⟩
theorem z4 : (∀ l, tcells (.agg l) = l) ∧ (∀ x, tcells (.v x) = [.v x]) ∧ (∀ a b, tcells (.list a b) = [.list a b]) ∧ (∀ a b c, tcells (.func a b c) = [.func a b c]) ∧ (∀ v a b, tcells (.fptr v a b) = [.fptr v a b]) ∧ (∀ a b c, tcells (.lptr a b c) = [.lptr a b c]) ∧ (∀ a b c, tcells (.lsl a b c) = [.lsl a b c]) ∧
    (∀ l, isJunk (.agg l) = false) ∧ (∀ x, isJunk (.v x) = false) ∧ (∀ a b, isJunk (.list a b) = false) ∧ (∀ a b c, isJunk (.func a b c) = false) ∧ (∀ v a b, isJunk (.fptr v a b) = false) ∧ (∀ a b c, isJunk (.lptr a b c) = false) ∧ (∀ a b c, isJunk (.lsl a b c) = false) ∧
    (∀ a b, tpick (.v (.bool true)) a b = some a) ∧ (∀ a b, tpick (.v (.bool false)) a b = some b) ∧ (∀ ops tm dst op ty pos aft, twant ops tm { dst := dst, op := op, type := ty, pos := pos, after := aft, guard := none } = some true) ∧ (∀ (c : List TV) o l, tsplice c o l = c.take o ++ l ++ c.drop (o + l.length)) ∧
    (∀ tm, tput tm none = fun _ => tm) :=
  ⟨fun _ => rfl, fun _ => rfl, fun _ _ => rfl, fun _ _ _ => rfl, fun _ _ _ => rfl, fun _ _ _ => rfl, fun _ _ _ => rfl, fun _ => rfl, fun _ => rfl, fun _ _ => rfl, fun _ _ _ => rfl, fun _ _ _ => rfl, fun _ _ _ => rfl, fun _ _ _ => rfl, fun _ _ => rfl, fun _ _ => rfl, fun _ _ _ _ _ _ _ => rfl, fun _ _ _ => rfl, fun _ => rfl⟩
end Go.Rex
namespace Go.Rex
example : (0 : Int) < ((2 : Nat) : Int) := by simp only [Int.cast_ofNat_Int, Int.reduceLT]
end Go.Rex
namespace Go.Rex
theorem tml {α β : Type} {f : α → β} {xs : List α} : (xs.map f).take xs.length = xs.map f := List.take_of_length_le (by simp)
end Go.Rex

namespace Go.Rex
open Go.RowKit
section
variable {C : Ctx} {P : Program} {ops : Array Oper} {rest : List Oper} {tm tm2 : List TV} {hp hp2 : List TB} {Q : TS → Prop} {o : Oper}
variable {dst : Option Tmp} {ty : TypeId} {pos : String} {aft : Array Edge} {gd : Option (Nat × Bool)} {p q : TV} {ms : List Nat} {i : Nat} {np : List Nat} {c : Bool}
theorem TX.vt {α : Type} (f : α → List TV) (t es : Nat) {b : Code} {Q : Exit → TS → Prop} (ht : tnth tm t = .v (.slice none 0 0)) (h1 : tm.set t (.lsl hp.length 0 ([] : List α).length) = tm2) (h2 : hp ++ [.rows es (([] : List α).map f)] = hp2) (hq : TX C P b ⟨tm2, hp2⟩ Q) : TX C P b ⟨tm, hp⟩ Q := by
  subst h1 h2
  exact TX.weak (Wk.nil t es ht) hq
theorem TX.here {b : Code} {s : TS} {Q : Exit → TS → Prop} (h : TX C P b s Q) : TX C P b s Q := h
theorem tmlc {α β : Type} {f : α → β} {xs : List α} {n : Nat} (h : xs.length = n) : (xs.map f).take n = xs.map f := by subst h; exact tml
/-! ### functions of the runtime -/
def extF (P : Program) (g : FuncId) : Option (Array Value → Sem Value) :=
  match P.funcs[g]? with
  | some fd => if fd.body.isNone = true ∧ (fd.name == "runtime.NumGoroutine") = false ∧ (Extern.findNext fd).isNone = true then Extern.find fd else none
  | none => none
theorem extV_of {g : FuncId} {F : Array Value → Sem Value} {vals : List Value} {v : Value} (hF : extF P g = some F) (hc : vals.all isClean = true) (hv : prun P (F ⟨vals⟩) = some v) (hcv : isClean v = true) (h : List Blk) : goFn P g = false ∧ xslow P g vals h = some (v, h, none) := by
  unfold extF at hF
  split at hF
  · rename_i fd hfd
    split at hF
    · rename_i hcond
      obtain ⟨h1, h2, h3⟩ := hcond
      have hb : fd.body = none := by simpa using h1
      refine ⟨by simp [goFn, hfd, hb], ?_⟩
      have hcall : prun P (callFunc g ⟨vals⟩) = some (.value v) := by
        unfold callFunc
        rw [prun_bind]
        show prun P (match P.funcs[g]? with | none => _ | some fn => _) = _
        rw [hfd]
        simp only [h2, Bool.false_eq_true, if_false, h1, if_true]
        have hn : Extern.findNext fd = none := by simpa using h3
        rw [hn]
        rw [prun_bind]
        show prun P _ = _
        simp only [hF]
        show prun P (F ⟨vals⟩ >>= fun r => (pure (Next.value r) : Sem Next)) = _
        rw [prun_bind, hv]
        rfl
      simp only [xslow, hfd, hb, extV, hc, if_true, hcall, hcv, Option.map_some]
    · cases hF
  · cases hF
theorem extG {fo : Operand} {g : FuncId} {args : Array Operand} {tys : Array TypeId} {F : Array Value → Sem Value} {l : List TV} {vals : List Value} {v : Value} (hf : tev tm fo = .func g [] []) (hF : extF P g = some F) (hl : args.toList.map (tev tm) = l) (he : l.mapM (er 3) = some vals) (hc : vals.all isClean = true) (hv : prun P (F ⟨vals⟩) = some v) (hcv : isClean v = true) (hi : injOk 3 v = true) (hp1 : inj 3 v = p) :
    OpG C P { dst := dst, op := .call { callee := .value fo, args := args, argTypes := tys }, type := ty, pos := pos, after := aft, guard := gd } ⟨tm, hp⟩ ⟨tput tm dst p, hp⟩ := by
  subst hp1
  intro h0 Fz L vm h hs
  have hfv := tev_vl hs.tmr fo
  rw [show tev (TS.mk tm hp).tm fo = _ from hf] at hfv
  obtain ⟨f', c', hfe, vf, vc⟩ : ∃ f' c', ev vm fo = .func (.func g) ⟨f'⟩ ⟨c'⟩ ∧ VLs Fz h noL [] f' ∧ VLs Fz h noL [] c' := by
    generalize ev vm fo = y at *
    cases hfv with
    | func _ _ _ _ a' b' la ha lb hb => exact ⟨a', b', rfl, ⟨la, ha⟩, ⟨lb, hb⟩⟩
  have hf0 : f' = [] := by have := vf.len; simpa using this
  have hc0 : c' = [] := by have := vc.len; simpa using this
  subst hf0 hc0
  have hargs := args_vls hs.tmr args.toList
  rw [show args.toList.map (tev (TS.mk tm hp).tm) = l from hl] at hargs
  obtain ⟨q1, q2⟩ := mapM_some he
  have hve : args.toList.map (ev vm) = vals := by
    apply List.ext_getElem?
    intro j
    cases hx : (args.toList.map (ev vm))[j]? with
    | none =>
      rw [List.getElem?_eq_none_iff] at hx
      rw [eq_comm, List.getElem?_eq_none_iff]
      have := hargs.len
      omega
    | some x =>
      have hj := (List.getElem?_eq_some_iff.1 hx).1
      have hll := hargs.len
      have hp' : l[j]? = some l[j] := List.getElem?_eq_getElem (by omega)
      have hy : vals[j]? = some vals[j] := List.getElem?_eq_getElem (by omega)
      rw [hy, VL.er 3 (q2 j _ _ hp' hy) (hargs.at' j _ _ hp' hx)]
  obtain ⟨hg, hx⟩ := extV_of hF hc hv hcv h
  refine ⟨rfl, v, h, ?_, Ext.refl h, Fz, L, Grow.refl _ _, hs.put dst (VL.inj 3 hi)⟩
  simp only [xop, hop, bhop]
  rw [xcall_eq]
  simp only [hfe]
  rw [if_neg (by rw [hg]; exact Bool.false_ne_true)]
  simp only [List.nil_append, List.append_nil, hve]
  exact hx
theorem TO.ex {fo : Operand} {g : FuncId} {args : Array Operand} {tys : Array TypeId} {F : Array Value → Sem Value} {l : List TV} {vals : List Value} {v : Value} (hw : twant ops tm { dst := dst, op := .call { callee := .value fo, args := args, argTypes := tys }, type := ty, pos := pos, after := aft, guard := gd } = some true) (hf : tev tm fo = .func g [] []) (hF : extF P g = some F) (hl : args.toList.map (tev tm) = l) (he : l.mapM (er 3) = some vals) (hc : vals.all isClean = true) (hv : prun P (F ⟨vals⟩) = some v) (hcv : isClean v = true) (hi : injOk 3 v = true) (hp1 : inj 3 v = p)
    (ht : tput tm dst p = tm2) (hq : TO C P ops rest ⟨tm2, hp⟩ Q) : TO C P ops ({ dst := dst, op := .call { callee := .value fo, args := args, argTypes := tys }, type := ty, pos := pos, after := aft, guard := gd } :: rest) ⟨tm, hp⟩ Q := by
  subst ht; exact TO.g hw (extG hf hF hl he hc hv hcv hi hp1) hq
theorem TD.ex {fo : Operand} {g : FuncId} {args : Array Operand} {tys : Array TypeId} {F : Array Value → Sem Value} {l : List TV} {vals : List Value} {v : Value} (hw : twant ops tm { dst := dst, op := .call { callee := .value fo, args := args, argTypes := tys }, type := ty, pos := pos, after := aft, guard := gd } = some true) (hf : tev tm fo = .func g [] []) (hF : extF P g = some F) (hl : args.toList.map (tev tm) = l) (he : l.mapM (er 3) = some vals) (hc : vals.all isClean = true) (hv : prun P (F ⟨vals⟩) = some v) (hcv : isClean v = true) (hi : injOk 3 v = true) (hp1 : inj 3 v = p)
    (ht : tput tm dst p = tm2) (hq : TD C P ops ms rest (i + 1) (i :: np) false ⟨tm2, hp⟩ Q) : TD C P ops ms ({ dst := dst, op := .call { callee := .value fo, args := args, argTypes := tys }, type := ty, pos := pos, after := aft, guard := gd } :: rest) i np false ⟨tm, hp⟩ Q := by
  subst ht; exact TD.g hw (extG hf hF hl he hc hv hcv hi hp1) hq
/-! ### floats -/
variable {x y : Operand} {t u : TypeId}
end
end Go.Rex

namespace Go.Rex
open Go.RowKit
section
variable {P : Program} {tm : List TV} {hp : List TB}
variable {dst : Option Tmp} {ty : TypeId} {pos : String} {aft : Array Edge} {gd : Option (Nat × Bool)} {x y : Operand} {t u : TypeId}
/-! ### complex numbers -/
/-! ### structures that are equal -/
/-- field by field -/
inductive EqF (P : Program) (d : Nat) (X Y : Array Value) : List Field → List Bool → Prop
  | nil : EqF P d X Y [] []
  | cons {f : Field} {fs : List Field} {b : Bool} {bs : List Bool} {u v : Value} (hn : f.name ≠ "_") (hu : prun P (part f.type X f.offset) = some u) (hv : prun P (part f.type Y f.offset) = some v) (he : prun P (Op.equalIn d f.type u v) = some b) (hr : EqF P d X Y fs bs) : EqF P d X Y (f :: fs) (b :: bs)
end
end Go.Rex

namespace Go.Rex
open Go.RowKit
/-! ### short names for the walks -/
class Mv (p : Prop) (q : outParam Prop) : Prop where
  mv : q → p
theorem mv {p q : Prop} [i : Mv p q] (h : q) : p := i.mv h
section
variable {C : Ctx} {P : Program} {s : TS} {Q : Exit → TS → Prop} {next : TS → Prop}
instance {x y : Code} : Mv (TX C P (.seq x y) s Q) (TX C P x s (seqT (fun s => TX C P y s Q) Q)) := ⟨TX.seq⟩
instance {id : Nat} {b : Code} : Mv (TX C P (.block id b) s Q) (TX C P b s (blockT id Q)) := ⟨TX.block⟩
instance : Mv (TX C P .skip s Q) (Q .normal s) := ⟨TX.skip⟩
instance {id : Nat} : Mv (TX C P (.exit id) s Q) (Q (.exit id) s) := ⟨TX.exit⟩
instance : Mv (TX C P .ret s Q) (Q .ret s) := ⟨TX.ret⟩
instance : Mv (seqT next Q .normal s) (next s) := ⟨seqT_n⟩
instance {id : Nat} : Mv (seqT next Q (.exit id) s) (Q (.exit id) s) := ⟨seqT_e⟩
instance : Mv (seqT next Q .ret s) (Q .ret s) := ⟨seqT_r⟩
instance {id : Nat} : Mv (blockT id Q .normal s) (Q .normal s) := ⟨blockT_n⟩
instance {id : Nat} : Mv (blockT id Q .ret s) (Q .ret s) := ⟨blockT_r⟩
instance {id : Nat} : Mv (blockT id Q (.exit id) s) (Q .normal s) := ⟨blockT_e⟩
end
def m12 := @blockT_ne
theorem k1 {a : Bool} (h : a = true) : a = true := h
theorem k2 {a : Option Bool} (h : a = some true) : a = some true := h
def an {p q : Prop} := @And.intro p q
def z6 := And.intro @List.toList_toArray.{0} <| And.intro @ite_true.{1} <| And.intro @ite_false.{1} <| And.intro @true_and <| And.intro @and_true <| And.intro @and_self <| And.intro @Bool.false_eq_true <| And.intro @decide_true @decide_false
def zy := And.intro z1 <| And.intro z2 z3
def zz := And.intro z1 <| And.intro z2 <| And.intro z3 <| And.intro z4 z6
theorem wr {tm tm' : List TV} {hp hp' : List TB} (fl : List (Option Nat)) (hok : renOk fl = true) (hB : RB fl hp hp' fl) (hT : RNs fl tm tm' := by (repeat (first | exact RNs.nil | refine RNs.cons .junk ?_ | refine RNs.cons (.keep rfl rfl) ?_ | refine RNs.cons (.lsl rfl rfl) ?_ | refine RNs.cons (.lsl rfl (by simp only [List.length_set])) ?_ | refine RNs.cons (.lptr rfl) ?_ | refine RNs.cons (.nil rfl) ?_ | refine RNs.cons .nl ?_ | refine RNs.cons (.tuple' ?_) ?_ | refine RNs.cons (.agg' ?_) ?_))) : Wk ⟨tm, hp⟩ ⟨tm', hp'⟩ := Wk.ren fl hok hB hT
/-! ### a slice of a whole array that is not written again -/
section
variable {C : Ctx} {P : Program} {ops : Array Oper} {rest : List Oper} {tm tm2 : List TV} {hp : List TB} {Q : TS → Prop}
variable {dst : Option Tmp} {ty : TypeId} {pos : String} {aft : Array Edge} {gd : Option (Nat × Bool)} {ms : List Nat} {i : Nat} {np : List Nat} {c : Bool}
theorem OpG.sliceA {s : TS} {t e : TypeId} {x : Operand} {n o es : Nat} {row : List TV} {rows : List (List TV)} (hx : tev s.tm x = .fptr true row o) (ha : arrayOf P t = some (n, e)) (ho : okT P e = true) (hes : P.cellsOf e = es)
    (hw : (rows.all fun r => r.length == es) = true) (hf : rows.flatten = (row.drop o).take (n * es)) (hn : rows.length = n) (hle : o + n * es ≤ row.length) :
    OpG C P { dst := dst, op := .slice t x none none none, type := ty, pos := pos, after := aft, guard := gd } s ⟨tput s.tm dst (.list es rows), s.hp⟩ := by
  intro h0 Fz L tm h hs
  have hv := tev_vl hs.tmr x
  rw [hx] at hv
  generalize hq : ev tm x = v at hv
  have hu : P.underlying t = some (.array n e) := by
    unfold arrayOf at ha
    split at ha
    · rename_i hu; obtain ⟨rfl, rfl⟩ := Prod.mk.inj (Option.some.inj ha); exact hu
    · cases ha
  cases hv with
  | fptr _ _ _ _ nb base eb cs hn' hb hv hle' hh =>
    obtain rfl := hv rfl
    have hw' : ∀ r ∈ rows, r.length = es := fun r hr => by simpa using List.all_eq_true.1 hw r hr
    refine ⟨?_, .slice (some ⟨nb, base + o, none⟩) n n, h, ?_, Ext.refl _, Fz, L, Grow.refl _ _, ?_⟩
    · have e : Rex.pop P (ev tm) { dst := dst, op := .slice t x none none none, type := ty, pos := pos, after := aft, guard := gd } = genP P (ev tm) { dst := dst, op := .slice t x none none none, type := ty, pos := pos, after := aft, guard := gd } := rfl
      rw [e]
      unfold genP
      simp only
      rw [if_neg]
      have hcl : isClean (ev tm x) = false := by rw [hq]; rfl
      simp [Op.operands, hcl]
    · simp only [xop, hop, hq, Option.map_none, sliceV, hu, hb, bnd]
      rw [if_pos ⟨trivial, ho, Nat.zero_le _, Nat.le_refl _, .inl trivial⟩]
      simp
    · refine hs.put dst ?_
      subst hn
      refine .list L es rows nb (base + o) rows.length cs 0 hn' hb (.inr rfl) hw' (Nat.le_refl _) (by omega) fun j p y h1 h2 => ?_
      rw [hf, List.getElem?_take, List.getElem?_drop] at h1
      split at h1
      · exact hh (o + j) p y h1 (by rw [← Nat.add_assoc]; exact h2)
      · cases h1
theorem TO.sa {α : Type} (f : α → List TV) (xs : List α) {t e : TypeId} {x : Operand} {n o es : Nat} {row : List TV} (hw : twant ops tm { dst := dst, op := .slice t x none none none, type := ty, pos := pos, after := aft, guard := gd } = some true) (hx : tev tm x = .fptr true row o) (ha : arrayOf P t = some (n, e)) (ho : okT P e = true) (hes : P.cellsOf e = es)
    (hr : ((xs.map f).all fun r => r.length == es) = true) (hf : (xs.map f).flatten = (row.drop o).take (n * es)) (hn : (xs.map f).length = n) (hle : decide (o + n * es ≤ row.length) = true) (ht : tput tm dst (.list es (xs.map f)) = tm2) (hq : TO C P ops rest ⟨tm2, hp⟩ Q) : TO C P ops ({ dst := dst, op := .slice t x none none none, type := ty, pos := pos, after := aft, guard := gd } :: rest) ⟨tm, hp⟩ Q := by
  subst ht; exact TO.g hw (OpG.sliceA (s := ⟨tm, hp⟩) hx ha ho hes hr hf hn (of_decide_eq_true hle)) hq
theorem TD.sa {α : Type} (f : α → List TV) (xs : List α) {t e : TypeId} {x : Operand} {n o es : Nat} {row : List TV} (hw : twant ops tm { dst := dst, op := .slice t x none none none, type := ty, pos := pos, after := aft, guard := gd } = some true) (hx : tev tm x = .fptr true row o) (ha : arrayOf P t = some (n, e)) (ho : okT P e = true) (hes : P.cellsOf e = es)
    (hr : ((xs.map f).all fun r => r.length == es) = true) (hf : (xs.map f).flatten = (row.drop o).take (n * es)) (hn : (xs.map f).length = n) (hle : decide (o + n * es ≤ row.length) = true) (ht : tput tm dst (.list es (xs.map f)) = tm2) (hq : TD C P ops ms rest (i + 1) (i :: np) false ⟨tm2, hp⟩ Q) : TD C P ops ms ({ dst := dst, op := .slice t x none none none, type := ty, pos := pos, after := aft, guard := gd } :: rest) i np false ⟨tm, hp⟩ Q := by
  subst ht; exact TD.g hw (OpG.sliceA (s := ⟨tm, hp⟩) hx ha ho hes hr hf hn (of_decide_eq_true hle)) hq
/-! ### a literal as a list; a place of an array value -/
theorem bmG {α : Type} {f : α → List TV} {xs : List α} {t : TypeId} {n es : Nat} {ps : Array (Nat × Operand)} {l : List (Nat × TV)} {rows : List (List TV)} (hx : ps.toList.map (fun q => (q.1, tev tm q.2)) = l) (hv : tslice P t n l = some (es, rows)) (hr : rows = xs.map f) :
    OpG C P { dst := dst, op := .buildSlice t n ps, type := ty, pos := pos, after := aft, guard := gd } ⟨tm, hp⟩ ⟨tput tm dst (.list es (xs.map f)), hp⟩ := by
  subst hr
  exact OpG.buildSlice (s := ⟨tm, hp⟩) (by simp only [hx]; exact hv)
theorem TO.bm {α : Type} (f : α → List TV) (xs : List α) {t : TypeId} {n es : Nat} {ps : Array (Nat × Operand)} {l : List (Nat × TV)} {rows : List (List TV)} (hw : twant ops tm { dst := dst, op := .buildSlice t n ps, type := ty, pos := pos, after := aft, guard := gd } = some true) (hx : ps.toList.map (fun q => (q.1, tev tm q.2)) = l) (hv : tslice P t n l = some (es, rows)) (hr : rows = xs.map f)
    (ht : tput tm dst (.list es (xs.map f)) = tm2) (hq : TO C P ops rest ⟨tm2, hp⟩ Q) : TO C P ops ({ dst := dst, op := .buildSlice t n ps, type := ty, pos := pos, after := aft, guard := gd } :: rest) ⟨tm, hp⟩ Q := by
  subst ht; exact TO.g hw (bmG hx hv hr) hq
theorem TD.bm {α : Type} (f : α → List TV) (xs : List α) {t : TypeId} {n es : Nat} {ps : Array (Nat × Operand)} {l : List (Nat × TV)} {rows : List (List TV)} (hw : twant ops tm { dst := dst, op := .buildSlice t n ps, type := ty, pos := pos, after := aft, guard := gd } = some true) (hx : ps.toList.map (fun q => (q.1, tev tm q.2)) = l) (hv : tslice P t n l = some (es, rows)) (hr : rows = xs.map f)
    (ht : tput tm dst (.list es (xs.map f)) = tm2) (hq : TD C P ops ms rest (i + 1) (i :: np) false ⟨tm2, hp⟩ Q) : TD C P ops ms ({ dst := dst, op := .buildSlice t n ps, type := ty, pos := pos, after := aft, guard := gd } :: rest) i np false ⟨tm, hp⟩ Q := by
  subst ht; exact TD.g hw (bmG hx hv hr) hq
theorem ixlP {t : TypeId} {x y : Operand} {q q2 p : TV} (hx : tev tm x = q) (hy : tev tm y = q2) (hv : tindex P t q q2 = some p) : tpop P hp tm { dst := dst, op := .index t x y, type := ty, pos := pos, after := aft, guard := gd } = some p := by
  simp only [tpop, hx, hy, hv, orT]
theorem TO.ixl {t : TypeId} {x y : Operand} {q q2 p : TV} (hw : twant ops tm { dst := dst, op := .index t x y, type := ty, pos := pos, after := aft, guard := gd } = some true) (hx : tev tm x = q) (hy : tev tm y = q2) (hv : tindex P t q q2 = some p) (ht : tput tm dst p = tm2) (hq : TO C P ops rest ⟨tm2, hp⟩ Q) : TO C P ops ({ dst := dst, op := .index t x y, type := ty, pos := pos, after := aft, guard := gd } :: rest) ⟨tm, hp⟩ Q :=
  TO.pop1 hw (ixlP hx hy hv) ht hq
theorem TD.ixl {t : TypeId} {x y : Operand} {q q2 p : TV} (hw : twant ops tm { dst := dst, op := .index t x y, type := ty, pos := pos, after := aft, guard := gd } = some true) (hx : tev tm x = q) (hy : tev tm y = q2) (hv : tindex P t q q2 = some p) (ht : tput tm dst p = tm2) (hq : TD C P ops ms rest (i + 1) np c ⟨tm2, hp⟩ Q) : TD C P ops ms ({ dst := dst, op := .index t x y, type := ty, pos := pos, after := aft, guard := gd } :: rest) i np c ⟨tm, hp⟩ Q :=
  TD.pop1 hw (ixlP hx hy hv) ht hq
end
end Go.Rex

namespace Go.Rex
open Go.RowKit
/-! ### a list of one's own is frozen at a loop's end; a store at any index of an array of ints -/
theorem wf (n : Nat) {tm tm2 : List TV} {hp hp2 : List TB} {b : TB} {s : TS} (hb : hp[n]? = some b) (hl : lfB b = true) (ht : tm.map (frz n b 4) = tm2) (hh2 : (hp.map (frzB n b)).set n .dead = hp2) (hq : Wk ⟨tm2, hp2⟩ s) : Wk ⟨tm, hp⟩ s := by
  subst ht hh2
  exact Wk.trans (Wk.freeze (s := ⟨tm, hp⟩) n hb hl) hq
def updI (iv y : Int) : Nat → List Int → List Int
  | _, [] => []
  | j, a :: t => (if iv = (j : Int) then y else a) :: updI iv y (j + 1) t
theorem updI_none {iv y : Int} : ∀ (l : List Int) j, (∀ k, k < l.length → iv ≠ ((j + k : Nat) : Int)) → updI iv y j l = l
  | [], _, _ => rfl
  | a :: t, j, h => by
    rw [updI, if_neg (by have := h 0 (by simp); simpa using this), updI_none t (j + 1) (fun k hk => by
      have := h (k + 1) (by simp; omega)
      rwa [show j + (k + 1) = j + 1 + k by omega] at this)]
theorem updI_set {iv y : Int} : ∀ (l : List Int) j n, iv = ((j + n : Nat) : Int) → n < l.length → updI iv y j l = l.set n y
  | [], _, n, _, h => by simp at h
  | a :: t, j, 0, h, _ => by
    rw [updI, if_pos (by simpa using h), updI_none t (j + 1) (fun k _ => by omega)]
    rfl
  | a :: t, j, n + 1, h, hl => by
    rw [updI, if_neg (by omega), updI_set t (j + 1) n (by omega) (by simp at hl; omega)]
    rfl
theorem splice_set {row : List TV} {p : TV} : ∀ {n : Nat}, n < row.length → tsplice row n [p] = row.set n p := by
  intro n h
  unfold tsplice
  rw [List.set_eq_take_append_cons_drop, if_pos h]
  simp
section
variable {C : Ctx} {P : Program} {ops : Array Oper} {rest : List Oper} {tm tm2 : List TV} {hp hp2 : List TB} {Q : TS → Prop} {o : Oper}
variable {dst : Option Tmp} {ty : TypeId} {pos : String} {aft : Array Edge} {gd : Option (Nat × Bool)} {p q : TV} {ms : List Nat} {i : Nat} {np : List Nat} {c : Bool}
theorem sxV {kk : IntKind} {l : List Int} {iv y : Int} {row2 : List TV} {t : TypeId} {a x : Operand} {n es : Nat} {l0 : List Int} (hg : 0 ≤ iv ∧ iv < (l0.length : Int)) (hl0 : l0.length = l.length) (ha : tev tm a = .lptr n 0 (0 + iv.toNat * es)) (hx : tev tm x = .v (.int kk y)) (hes : es = 1) (hb : hp[n]? = some (.var (l.map fun z => .v (.int kk z)))) (ht : okT P t = true) (hc : P.cellsOf t = 1) (hv : (updI iv y 0 l).map (fun z => .v (.int kk z)) = row2) :
    OpW C P { dst := none, op := .store t a x, type := ty, pos := pos, after := aft, guard := gd } ⟨tm, hp⟩ ⟨tm, hp.set n (.var row2)⟩ := by
  subst hv hes
  obtain ⟨h1, h2⟩ := hg
  rw [hl0] at h2
  refine stV ha hx rfl rfl hb ht (by rw [hc]; rfl) rfl (Nat.ble_eq_true_of_le (by simp [tcells]; omega)) ?_
  rw [Nat.zero_add, Nat.mul_one, show tcells (TV.v (.int kk y)) = [.v (.int kk y)] from rfl, splice_set (by simp; omega), updI_set (n := iv.toNat) l 0 (by omega) (by omega), List.map_set]
theorem TO.sx (kk : IntKind) (l : List Int) {iv y : Int} {row2 : List TV} {t : TypeId} {a x : Operand} {n es : Nat} {l0 : List Int} (hg : 0 ≤ iv ∧ iv < (l0.length : Int)) (hl0 : l0.length = l.length) (hw : twant ops tm { dst := none, op := .store t a x, type := ty, pos := pos, after := aft, guard := gd } = some true) (ha : tev tm a = .lptr n 0 (0 + iv.toNat * es)) (hx : tev tm x = .v (.int kk y)) (hes : es = 1) (hb : hp[n]? = some (.var (l.map fun z => .v (.int kk z)))) (ht : okT P t = true) (hc : P.cellsOf t = 1) (hv : (updI iv y 0 l).map (fun z => .v (.int kk z)) = row2)
    (hh2 : hp.set n (.var row2) = hp2) (hq : TO C P ops rest ⟨tm, hp2⟩ Q) : TO C P ops ({ dst := none, op := .store t a x, type := ty, pos := pos, after := aft, guard := gd } :: rest) ⟨tm, hp⟩ Q := by
  subst hh2; exact TO.w hw (sxV hg hl0 ha hx hes hb ht hc hv) hq
theorem TD.sx (kk : IntKind) (l : List Int) {iv y : Int} {row2 : List TV} {t : TypeId} {a x : Operand} {n es : Nat} {l0 : List Int} (hg : 0 ≤ iv ∧ iv < (l0.length : Int)) (hl0 : l0.length = l.length) (hw : twant ops tm { dst := none, op := .store t a x, type := ty, pos := pos, after := aft, guard := gd } = some true) (ha : tev tm a = .lptr n 0 (0 + iv.toNat * es)) (hx : tev tm x = .v (.int kk y)) (hes : es = 1) (hb : hp[n]? = some (.var (l.map fun z => .v (.int kk z)))) (ht : okT P t = true) (hc : P.cellsOf t = 1) (hv : (updI iv y 0 l).map (fun z => .v (.int kk z)) = row2)
    (hnp : np.all (fun j => (nthN ms i).testBit j) = true) (hh2 : hp.set n (.var row2) = hp2) (hq : TD C P ops ms rest (i + 1) (i :: np) true ⟨tm, hp2⟩ Q) : TD C P ops ms ({ dst := none, op := .store t a x, type := ty, pos := pos, after := aft, guard := gd } :: rest) i np c ⟨tm, hp⟩ Q := by
  subst hh2; exact TD.w hw (sxV hg hl0 ha hx hes hb ht hc hv) hnp hq
end
/-! ### arrays that are compared -/
inductive EqI (P : Program) (d : Nat) (X Y : Array Value) (e n : Nat) : Nat → List Bool → Prop
  | nil (i : Nat) : EqI P d X Y e n i []
  | cons {i : Nat} {b : Bool} {bs : List Bool} {u v : Value} (hu : prun P (part e X (i * n)) = some u) (hv : prun P (part e Y (i * n)) = some v) (he : prun P (Op.equalIn d e u v) = some b) (hr : EqI P d X Y e n (i + 1) bs) : EqI P d X Y e n i (b :: bs)
/-! ### a byte of a text -/
section
variable {P : Program} {tm : List TV} {hp : List TB} {dst : Option Tmp} {ty : TypeId} {pos : String} {aft : Array Edge} {gd : Option (Nat × Bool)}
end
end Go.Rex

namespace Go.Rex
open Go.RowKit
/-! ### code without ranges over functions: neither the marks nor the range around it matter -/
def noRange : Code → Bool
  | .seq x y => noRange x && noRange y
  | .cond _ x y => noRange x && noRange y
  | .block _ b => noRange b
  | .loop b => noRange b
  | .rangeFunc .. => false
  | _ => true
theorem exec_plain {C : Ctx} {P : Program} {ro : Option Nat} : ∀ (k : Nat) (c : Code) (tm : List Value) (df : List Nat) (h : List Blk), noRange c = true →
    exec C P ro k c ⟨tm, df⟩ h = (exec C P none k c ⟨tm, []⟩ h).map fun r => (r.1, (⟨r.2.1.tm, df⟩ : AS), r.2.2.1, r.2.2.2)
  | 0, _, _, _, _, _ => rfl
  | k + 1, c, tm, df, h, hn => by
    cases c with
    | seq x y =>
      simp only [noRange, Bool.and_eq_true] at hn
      simp only [exec]
      rw [exec_plain k x tm df h hn.1]
      rcases hx : exec C P none k x ⟨tm, []⟩ h with _ | ⟨e, ⟨tm1, df1⟩, h1, w1⟩
      · rfl
      · have hd : df1 = [] := by
          have := exec_plain (C := C) (P := P) (ro := none) k x tm [] h hn.1
          rw [hx] at this
          simpa using this
        subst hd
        cases e with
        | normal =>
          simp only [Option.map_some]
          rw [exec_plain k y tm1 df h1 hn.2]
          cases exec C P none k y ⟨tm1, []⟩ h1 <;> rfl
        | _ => rfl
    | cond g x y =>
      simp only [noRange, Bool.and_eq_true] at hn
      simp only [exec]
      split
      · cases hv : ev tm g with
        | bool t =>
          cases t with
          | true => exact exec_plain k x tm df h hn.1
          | false => exact exec_plain k y tm df h hn.2
        | _ => rfl
      · rfl
    | block id b =>
      simp only [noRange] at hn
      simp only [exec]
      rw [exec_plain k b tm df h hn]
      rcases hx : exec C P none k b ⟨tm, []⟩ h with _ | ⟨e, ⟨tm1, df1⟩, h1, w1⟩
      · rfl
      · cases e with
        | exit id' =>
          simp only [Option.map_some]
          split <;> rfl
        | _ => rfl
    | loop b =>
      have hn' : noRange b = true := by simpa only [noRange] using hn
      simp only [exec]
      rw [exec_plain k b tm df h hn']
      rcases hx : exec C P none k b ⟨tm, []⟩ h with _ | ⟨e, ⟨tm1, df1⟩, h1, w1⟩
      · rfl
      · have hd : df1 = [] := by
          have := exec_plain (C := C) (P := P) (ro := none) k b tm [] h hn'
          rw [hx] at this
          simpa using this
        subst hd
        cases e with
        | normal =>
          simp only [Option.map_some]
          rw [exec_plain k (.loop b) tm1 df h1 hn]
          cases exec C P none k (.loop b) ⟨tm1, []⟩ h1 <;> rfl
        | _ => rfl
    | region id ops d =>
      simp only [exec, liftE]
      split
      · cases runDraw C P ops tm h <;> rfl
      · split
        · cases runOps C P ops ops.toList tm h <;> rfl
        · rfl
    | rangeFunc g ps a b => simp [noRange] at hn
    | _ => rfl
end Go.Rex

namespace Go.Rex
open Go.RowKit
/-! ### marks are kept by all that runs above them -/
def Keeps (h h' : List Blk) : Prop := h.length ≤ h'.length ∧ ∀ m : Nat, h[m]? = some Blk.dfr → h'[m]? = some Blk.dfr
theorem Keeps.refl (h : List Blk) : Keeps h h := ⟨Nat.le_refl _, fun _ h => h⟩
theorem Keeps.trans {a b c : List Blk} (x : Keeps a b) (y : Keeps b c) : Keeps a c := ⟨Nat.le_trans x.1 y.1, fun m h => y.2 m (x.2 m h)⟩
theorem Keeps.app (h t : List Blk) : Keeps h (h ++ t) := ⟨by simp, fun m hm => by rw [List.getElem?_append_left (List.getElem?_eq_some_iff.1 hm).1]; exact hm⟩
theorem Keeps.set {h : List Blk} {n : Nat} {b : Blk} (hn : h[n]? ≠ some Blk.dfr) : Keeps h (h.set n b) :=
  ⟨by simp, fun m hm => by rw [List.getElem?_set_ne]; exact hm; rintro rfl; exact hn hm⟩
theorem writeBlk_keeps {h h' : List Blk} {n o : Nat} {vs : List Value} (hw : writeBlk h n o vs = some h') : Keeps h h' := by
  unfold writeBlk at hw
  split at hw
  · rename_i es c hn
    split at hw
    · obtain rfl := Option.some.inj hw
      exact Keeps.set (by rw [hn]; simp)
    · cases hw
  · cases hw
section
variable {P : Program} {C : Ctx}
theorem storeV_keeps {t : TypeId} {h h' : List Blk} {n o : Nat} {v : Value} (hw : storeV P t h n o v = some h') : Keeps h h' := by
  unfold storeV at hw
  split at hw
  · split at hw
    · exact writeBlk_keeps hw
    · cases hw
  · cases hw
theorem appendV_keeps {tys : Array TypeId} {s x v : Value} {h h' : List Blk} {w : Option Nat} (hw : appendV P tys s x h = some (v, h', w)) : Keeps h h' := by
  unfold appendV at hw
  repeat' split at hw
  all_goals first
    | cases hw; done
    | (simp only [Option.some.injEq, Prod.mk.injEq] at hw; obtain ⟨-, rfl, -⟩ := hw; first | exact Keeps.refl _ | exact Keeps.app _ _ | skip)
    | (rw [Option.map_eq_some_iff] at hw; obtain ⟨a, ha, e⟩ := hw; simp only [Prod.mk.injEq] at e; obtain ⟨-, rfl, -⟩ := e; exact writeBlk_keeps ha)
  all_goals (rename_i hn _; exact (Keeps.set (by rw [hn]; simp)).trans (Keeps.app _ _))
theorem newH_keeps {r : Option (Value × List Blk)} {v : Value} {h h' : List Blk} {w : Option Nat} (hr : ∀ v h', r = some (v, h') → Keeps h h') (hw : newH r = some (v, h', w)) : Keeps h h' := by
  unfold newH at hw
  rw [Option.map_eq_some_iff] at hw
  obtain ⟨⟨v1, h1⟩, ha, e⟩ := hw
  simp only [Prod.mk.injEq] at e
  obtain ⟨-, rfl, -⟩ := e
  exact hr _ _ ha
theorem buildSliceV_keeps {t : TypeId} {len : Nat} {ps : Array (Nat × Value)} {h h' : List Blk} {v : Value} (hw : buildSliceV P t len ps h = some (v, h')) : Keeps h h' := by
  unfold buildSliceV at hw
  repeat' split at hw
  all_goals first
    | cases hw; done
    | skip
  rw [Option.bind_eq_some_iff] at hw
  obtain ⟨c, -, hw⟩ := hw
  split at hw
  · simp only [Option.some.injEq, Prod.mk.injEq] at hw
    obtain ⟨-, rfl⟩ := hw
    exact Keeps.app _ _
  · cases hw
theorem makeSliceV_keeps {t : TypeId} {l c v : Value} {h h' : List Blk} (hw : makeSliceV P t l c h = some (v, h')) : Keeps h h' := by
  unfold makeSliceV at hw
  repeat' split at hw
  all_goals first
    | cases hw; done
    | (simp only [Option.some.injEq, Prod.mk.injEq] at hw; obtain ⟨-, rfl⟩ := hw; exact Keeps.app _ _)
theorem hop_keeps {ρ : Operand → Value} {o : Oper} {h h' : List Blk} {v : Value} {w : Option Nat} (hw : hop P ρ o h = some (v, h', w)) : Keeps h h' := by
  unfold hop at hw
  split at hw
  · repeat' split at hw
    all_goals first
      | cases hw; done
      | (simp only [Option.some.injEq, Prod.mk.injEq] at hw; obtain ⟨-, rfl, -⟩ := hw; exact Keeps.app _ _)
  · simp only [Option.some.injEq, Prod.mk.injEq] at hw; obtain ⟨-, rfl, -⟩ := hw; exact Keeps.app _ _
  · exact newH_keeps (fun _ _ => buildSliceV_keeps) hw
  · exact newH_keeps (fun _ _ => makeSliceV_keeps) hw
  · split at hw
    · rw [Option.map_eq_some_iff] at hw; obtain ⟨a, ha, e⟩ := hw; simp only [Prod.mk.injEq] at e; obtain ⟨-, rfl, -⟩ := e; exact Keeps.refl _
    · cases hw
  · split at hw
    · rw [Option.map_eq_some_iff] at hw; obtain ⟨a, ha, e⟩ := hw; simp only [Prod.mk.injEq] at e; obtain ⟨-, rfl, -⟩ := e; exact storeV_keeps ha
    · cases hw
  · unfold bhop at hw
    repeat' split at hw
    all_goals first
      | cases hw; done
      | exact appendV_keeps hw
  · split at hw
    · rw [Option.map_eq_some_iff] at hw; obtain ⟨a, ha, e⟩ := hw; simp only [Prod.mk.injEq] at e; obtain ⟨-, rfl, -⟩ := e; exact Keeps.refl _
    · cases hw
  · rw [Option.map_eq_some_iff] at hw; obtain ⟨a, ha, e⟩ := hw; simp only [Prod.mk.injEq] at e; obtain ⟨-, rfl, -⟩ := e; exact Keeps.refl _
  · cases hw
structure CKeeps (C : Ctx) : Prop where
  call : ∀ {f args h v h' w}, C.call f args h = some (v, h', w) → Keeps h h'
  round : ∀ {l args h v h' w}, C.round l args h = some (v, h', w) → Keeps h h'
theorem xop_keeps (hC : CKeeps C) {ρ : Operand → Value} {o : Oper} {h h' : List Blk} {v : Value} {w : Option Nat} (hw : xop C P ρ o h = some (v, h', w)) : Keeps h h' := by
  unfold xop at hw
  split at hw
  · rename_i r hr
    obtain rfl := Option.some.inj hw
    exact hop_keeps hr
  · split at hw
    · unfold xcall at hw
      repeat' split at hw
      all_goals first
        | cases hw; done
        | exact hC.call hw
        | exact hC.round hw
        | (rw [Option.map_eq_some_iff] at hw; obtain ⟨a, ha, e⟩ := hw; simp only [Prod.mk.injEq] at e; obtain ⟨-, rfl, -⟩ := e; exact Keeps.refl _)
    · cases hw
theorem runOps_keeps (hC : CKeeps C) {ops : Array Oper} : ∀ (l : List Oper) {tm tm' : List Value} {h h' : List Blk} {w : Option Nat}, runOps C P ops l tm h = some (tm', h', w) → Keeps h h'
  | [], tm, tm', h, h', w, hw => by
    simp only [runOps, Option.some.injEq, Prod.mk.injEq] at hw
    obtain ⟨-, rfl, -⟩ := hw
    exact Keeps.refl _
  | o :: l, tm, tm', h, h', w, hw => by
    simp only [runOps] at hw
    split at hw
    · split at hw
      · exact runOps_keeps hC l hw
      · split at hw
        · rename_i hx
          rw [Option.map_eq_some_iff] at hw; obtain ⟨⟨a, b, c⟩, ha, e⟩ := hw; simp only [Prod.mk.injEq] at e; obtain ⟨-, rfl, -⟩ := e
          exact (xop_keeps hC hx).trans (runOps_keeps hC l ha)
        · cases hw
    · exact runOps_keeps hC l hw
theorem drawStep_keeps (hC : CKeeps C) {ops : Array Oper} {m i : Nat} {o : Oper} {s s' : Dr} (hw : drawStep C P ops m i o s = some s') : Keeps s.h s'.h := by
  unfold drawStep at hw
  split at hw
  · split at hw
    · obtain rfl := Option.some.inj hw; exact Keeps.refl _
    · unfold drawHeap at hw
      split at hw
      · rename_i hx
        split at hw
        · split at hw
          · obtain rfl := Option.some.inj hw; exact Keeps.refl _
          · obtain rfl := Option.some.inj hw; exact Keeps.app _ _
        · split at hw
          · obtain rfl := Option.some.inj hw; exact xop_keeps hC hx
          · cases hw
      · cases hw
  · obtain rfl := Option.some.inj hw; exact Keeps.refl _
theorem drawAll_keeps (hC : CKeeps C) {ops : Array Oper} {ms : List Nat} : ∀ (l : List Oper) {i : Nat} {s s' : Dr}, drawAll C P ops ms l i s = some s' → Keeps s.h s'.h
  | [], i, s, s', hw => by
    simp only [drawAll, Option.some.injEq] at hw
    subst hw
    exact Keeps.refl _
  | o :: l, i, s, s', hw => by
    simp only [drawAll] at hw
    split at hw
    · rename_i h1
      exact (drawStep_keeps hC h1).trans (drawAll_keeps hC l hw)
    · cases hw
theorem runDraw_keeps (hC : CKeeps C) {ops : Array Oper} {tm tm' : List Value} {h h' : List Blk} {w : Option Nat} (hw : runDraw C P ops tm h = some (tm', h', w)) : Keeps h h' := by
  unfold runDraw at hw
  split at hw
  · rw [Option.map_eq_some_iff] at hw; obtain ⟨a, ha, e⟩ := hw; simp only [Prod.mk.injEq] at e; obtain ⟨-, rfl, -⟩ := e
    exact drawAll_keeps hC _ ha
  · cases hw
theorem runRange_keeps (hC : CKeeps C) {ro : Option Nat} {g : Operand} {ps : Array Tmp} {as body : Code} {a a' : AS} {h h' : List Blk} {e : Exit} {w : Option Nat} (hw : runRange C P ro g ps as body a h = some (e, a', h', w)) :
    Keeps h h' ∧ ∀ d, d ∈ a'.df → d ∈ a.df ∨ h.length ≤ d := by
  unfold runRange at hw
  repeat' split at hw
  all_goals first
    | cases hw; done
    | skip
  rename_i h1 d mark hs _ v h2 w2 hc
  have hk : Keeps h h2 ∧ ∀ d, d ∈ mark → h.length ≤ d := by
    have k2 := (Keeps.app h1 _).trans (hC.call hc)
    unfold rangeStart at hs
    split at hs
    · simp only [Option.some.injEq, Prod.mk.injEq] at hs
      obtain ⟨rfl, -, rfl⟩ := hs
      exact ⟨(Keeps.app h _).trans k2, fun d hd => by simp at hd; omega⟩
    · split at hs
      · simp only [Option.some.injEq, Prod.mk.injEq] at hs
        obtain ⟨rfl, -, rfl⟩ := hs
        exact ⟨k2, fun d hd => by simp at hd⟩
      · cases hs
  unfold rangeEnd at hw
  split at hw
  · rename_i hl
    have k3 := hk.1.trans (Keeps.set (b := .dead) (by rw [hl]; simp))
    have hd : ∀ d, d ∈ mark ++ a.df → d ∈ a.df ∨ h.length ≤ d := fun d hd => by
      rcases List.mem_append.1 hd with x | x
      · exact .inr (hk.2 d x)
      · exact .inl x
    repeat' split at hw
    all_goals first
      | cases hw; done
      | (simp only [Option.some.injEq, Prod.mk.injEq] at hw; obtain ⟨-, rfl, rfl, -⟩ := hw; exact ⟨k3, hd⟩)
  · cases hw
theorem exec_keeps (hC : CKeeps C) {ro : Option Nat} : ∀ (k : Nat) (c : Code) {a a' : AS} {h h' : List Blk} {e : Exit} {w : Option Nat}, exec C P ro k c a h = some (e, a', h', w) → Keeps h h' ∧ ∀ d, d ∈ a'.df → d ∈ a.df ∨ h.length ≤ d
  | 0, _, _, _, _, _, _, _, hw => by simp [exec] at hw
  | k + 1, c, a, a', h, h', e, w, hw => by
    have two : ∀ {a1 : AS} {h1 : List Blk}, (Keeps h h1 ∧ ∀ d, d ∈ a1.df → d ∈ a.df ∨ h.length ≤ d) → (Keeps h1 h' ∧ ∀ d, d ∈ a'.df → d ∈ a1.df ∨ h1.length ≤ d) → Keeps h h' ∧ ∀ d, d ∈ a'.df → d ∈ a.df ∨ h.length ≤ d := by
      intro a1 h1 x y
      refine ⟨x.1.trans y.1, fun d hd => ?_⟩
      rcases y.2 d hd with z | z
      · exact x.2 d z
      · exact .inr (Nat.le_trans x.1.1 z)
    have stay : ∀ {a1 : AS} {h1 : List Blk}, a1 = a' → h1 = h' → a = a1 → h = h1 → Keeps h h' ∧ ∀ d, d ∈ a'.df → d ∈ a.df ∨ h.length ≤ d := by
      rintro a1 h1 rfl rfl rfl rfl
      exact ⟨Keeps.refl _, fun d hd => .inl hd⟩
    cases c with
    | skip => simp only [exec, Option.some.injEq, Prod.mk.injEq] at hw; exact stay hw.2.1 hw.2.2.1 rfl rfl
    | label _ => simp only [exec, Option.some.injEq, Prod.mk.injEq] at hw; exact stay hw.2.1 hw.2.2.1 rfl rfl
    | exit _ => simp only [exec, Option.some.injEq, Prod.mk.injEq] at hw; exact stay hw.2.1 hw.2.2.1 rfl rfl
    | ret => simp only [exec, Option.some.injEq, Prod.mk.injEq] at hw; exact stay hw.2.1 hw.2.2.1 rfl rfl
    | seq x y =>
      simp only [exec] at hw
      split at hw
      · cases hw
      · rename_i e1 a1 h1 w1 hx
        have i1 := exec_keeps hC k x hx
        split at hw
        · rw [Option.map_eq_some_iff] at hw; obtain ⟨⟨e2, a2, h2, w2⟩, ha, ee⟩ := hw; simp only [Prod.mk.injEq] at ee; obtain ⟨-, rfl, rfl, -⟩ := ee
          exact two i1 (exec_keeps hC k y ha)
        · simp only [Option.some.injEq, Prod.mk.injEq] at hw; obtain ⟨-, rfl, rfl, -⟩ := hw; exact i1
    | cond g x y =>
      simp only [exec] at hw
      repeat' split at hw
      all_goals first
        | cases hw; done
        | exact exec_keeps hC k _ hw
    | block id b =>
      simp only [exec] at hw
      split at hw
      · cases hw
      · rename_i e1 a1 h1 w1 hx
        have i1 := exec_keeps hC k b hx
        repeat' split at hw
        all_goals (simp only [Option.some.injEq, Prod.mk.injEq] at hw; obtain ⟨-, rfl, rfl, -⟩ := hw; exact i1)
    | loop b =>
      simp only [exec] at hw
      split at hw
      · cases hw
      · rename_i e1 a1 h1 w1 hx
        have i1 := exec_keeps hC k b hx
        split at hw
        · rw [Option.map_eq_some_iff] at hw; obtain ⟨⟨e2, a2, h2, w2⟩, ha, ee⟩ := hw; simp only [Prod.mk.injEq] at ee; obtain ⟨-, rfl, rfl, -⟩ := ee
          exact two i1 (exec_keeps hC k (.loop b) ha)
        · simp only [Option.some.injEq, Prod.mk.injEq] at hw; obtain ⟨-, rfl, rfl, -⟩ := hw; exact i1
    | region id ops d =>
      simp only [exec, liftE] at hw
      repeat' split at hw
      all_goals first
        | cases hw; done
        | skip
      all_goals (rw [Option.map_eq_some_iff] at hw; obtain ⟨⟨t2, h2, w2⟩, ha, ee⟩ := hw; simp only [Prod.mk.injEq] at ee; obtain ⟨-, rfl, rfl, -⟩ := ee; refine ⟨?_, fun d hd => .inl hd⟩; first | exact runDraw_keeps hC ha | exact runOps_keeps hC _ ha)
    | rangeFunc g ps as b => simp only [exec] at hw; exact runRange_keeps hC hw
    | _ => simp [exec] at hw
theorem takeDefers_above {lo : Nat} : ∀ (ds : List Nat) {h h' : List Blk} {w : Option Nat}, takeDefers ds h = some (h', w) → (∀ d, d ∈ ds → lo ≤ d) → h'.length = h.length ∧ ∀ m, m < lo → h'[m]? = h[m]?
  | [], h, h', w, hw, _ => by
    simp only [takeDefers, Option.some.injEq, Prod.mk.injEq] at hw
    obtain ⟨rfl, -⟩ := hw
    exact ⟨rfl, fun _ _ => rfl⟩
  | n :: ds, h, h', w, hw, hd => by
    simp only [takeDefers] at hw
    split at hw
    · rw [Option.map_eq_some_iff] at hw; obtain ⟨⟨h2, w2⟩, ha, ee⟩ := hw; simp only [Prod.mk.injEq] at ee; obtain ⟨rfl, -⟩ := ee
      obtain ⟨i1, i2⟩ := takeDefers_above ds ha (fun d h => hd d (List.mem_cons_of_mem _ h))
      refine ⟨by rw [i1]; simp, fun m hm => ?_⟩
      rw [i2 m hm, List.getElem?_set_ne]
      have := hd n List.mem_cons_self
      omega
    · cases hw
theorem runCall_keeps (hC : CKeeps C) {k : Nat} {f : FuncId} {args : List Value} {h h' : List Blk} {v : Value} {w : Option Nat} (hw : runCall C P k f args h = some (v, h', w)) : Keeps h h' := by
  unfold runCall at hw
  have key : ∀ {fd : Func} {a1 : AS} {h1 : List Blk} {w1 : Option Nat}, (Keeps h h1 ∧ ∀ d, d ∈ a1.df → d ∈ ([] : List Nat) ∨ h.length ≤ d) → runEnd P fd h.length h a1 h1 w1 = some (v, h', w) → Keeps h h' := by
    intro fd a1 h1 w1 x hr
    unfold runEnd at hr
    split at hr
    · rename_i h2 w2 ht
      obtain ⟨t1, t2⟩ := takeDefers_above (lo := h.length) _ ht (fun d hd => by rcases x.2 d hd with z | z; cases z; exact z)
      have k2 : Keeps h h2 := ⟨by rw [t1]; exact x.1.1, fun m hm => by rw [t2 m (List.getElem?_eq_some_iff.1 hm).1]; exact x.1.2 m hm⟩
      repeat' split at hr
      all_goals first
        | cases hr; done
        | (simp only [Option.some.injEq, Prod.mk.injEq] at hr; obtain ⟨-, rfl, -⟩ := hr; first | exact Keeps.refl _ | exact k2)
    · cases hr
  split at hw
  · cases hw
  · split at hw
    · cases hw
    · split at hw
      · rename_i hx
        have i1 := exec_keeps hC k _ hx
        split at hw
        · exact key i1 hw
        · exact key i1 hw
        · cases hw
      · cases hw
theorem runRound_keeps (hC : CKeeps C) {k l : Nat} {args : List Value} {h h' : List Blk} {v : Value} {w : Option Nat} (hw : runRound C P k l args h = some (v, h', w)) : Keeps h h' := by
  unfold runRound at hw
  have key : ∀ {j : Option Code} {h1 : List Blk} {w1 : Option Nat}, Keeps h h1 → roundEnd l j h1 w1 = some (v, h', w) → Keeps h h' := by
    intro j h1 w1 x hr
    unfold roundEnd at hr
    split at hr
    · rename_i hl
      simp only [Option.some.injEq, Prod.mk.injEq] at hr
      obtain ⟨-, rfl, -⟩ := hr
      exact x.trans (Keeps.set (by rw [hl]; simp))
    · cases hr
  split at hw
  · split at hw
    · split at hw
      · rename_i hx
        have i1 := (exec_keeps hC k _ hx).1
        split at hw
        · split at hw
          · rename_i hl
            have i2 : ∀ b, Keeps h (_ : List Blk) := fun b => i1.trans (Keeps.set (n := l) (b := b) (by rw [hl]; simp))
            split at hw
            · split at hw
              · rename_i hy
                have i3 := (i2 _).trans (exec_keeps hC k _ hy).1
                split at hw
                · exact key i3 hw
                · exact key i3 hw
                · exact key i3 hw
                · cases hw
              · cases hw
            · cases hw
          · cases hw
        · cases hw
      · cases hw
    · cases hw
  · cases hw
theorem ctx_keeps (k : Nat) : ∀ d, CKeeps (ctx P k d)
  | 0 => by
    refine ⟨fun h => ?_, fun h => ?_⟩
    · exact (nomatch (show none = some _ from h))
    · exact (nomatch (show none = some _ from h))
  | d + 1 => ⟨fun h => runCall_keeps (ctx_keeps k d) h, fun h => runRound_keeps (ctx_keeps k d) h⟩
theorem lim_keeps : CKeeps (lim P) := by
  refine ⟨fun h => ?_, fun h => ?_⟩
  · rw [lim_call] at h
    obtain ⟨N, hk⟩ := h
    exact (ctx_keeps N N).call (hk N N (Nat.le_refl _) (Nat.le_refl _))
  · rw [lim_round] at h
    obtain ⟨N, hk⟩ := h
    exact (ctx_keeps N N).round (hk N N (Nat.le_refl _) (Nat.le_refl _))
end
end Go.Rex

namespace Go.Rex
open Go.RowKit
/-! ### code with marks: what stands behind a range over a function -/
section
variable {Fz Fz' : Nat → Prop} {h0 h h' : List Blk} {L : Nat → LI} {s s' : TS} {tm : List Value}
theorem VL.cells {p : TV} {x : Value} (hp : VL Fz h L p x) (hF : ∀ n eb cs, Fz n → h[n]? = some (.cells eb cs) → Fz' n ∧ h'[n]? = some (.cells eb cs)) : VL Fz' h' L p x := by
  induction hp with
  | junk L x => exact .junk L x
  | v L x hx => exact .v L x hx
  | agg L l l' hl ha ih => exact .agg L l l' hl ih
  | tuple L l l' hl ha ih => exact .tuple L l l' hl ih
  | func L f a b a' b' la ha lb hb iha ihb => exact .func L f a b a' b' la iha lb ihb
  | nillist L es => exact .nillist L es
  | list L es rows n o c cs eb hn hb he hw hc hle ha ih => exact .list L es rows n o c cs eb (hF n _ _ hn hb).1 (hF n _ _ hn hb).2 he hw hc hle ih
  | fptr L vb row off n base es cs hn hb hv hle ha ih => exact .fptr L vb row off n base es cs (hF n _ _ hn hb).1 (hF n _ _ hn hb).2 hv hle ih
  | lptr L n r o nm ok hn => exact .lptr L n r o nm ok hn
  | lslnil L n ok hn => exact .lslnil L n ok hn
  | lsl L n o len nm ok hn hle => exact .lsl L n o len nm ok hn hle
theorem VLs.cells {l : List TV} {l' : List Value} (hs : VLs Fz h L l l') (hF : ∀ n eb cs, Fz n → h[n]? = some (.cells eb cs) → Fz' n ∧ h'[n]? = some (.cells eb cs)) : VLs Fz' h' L l l' :=
  ⟨hs.len, fun i p x hp hx => (hs.at' i p x hp hx).cells hF⟩
/-- a block without cells may be taken for dead -/
theorem St.unmark {m : Nat} (hs : St h0 Fz L s tm h) (hm : ∀ es cs, h[m]? ≠ some (.cells es cs)) (hlo : h0.length ≤ m) : St h0 (fun n => Fz n ∧ n ≠ m) L s tm (h.set m .dead) := by
  have hF : ∀ n eb cs, Fz n → h[n]? = some (.cells eb cs) → (Fz n ∧ n ≠ m) ∧ (h.set m .dead)[n]? = some (.cells eb cs) := fun n eb cs hf hn => by
    have hne : n ≠ m := by rintro rfl; exact hm eb cs hn
    exact ⟨⟨hf, hne⟩, by rw [List.getElem?_set_ne (Ne.symm hne)]; exact hn⟩
  have up : ∀ nm es cs, h[nm]? = some (Blk.cells es cs) → (h.set m .dead)[nm]? = some (Blk.cells es cs) := fun nm es cs hn => by
    have hne : nm ≠ m := by rintro rfl; exact hm es cs hn
    rw [List.getElem?_set_ne (Ne.symm hne)]; exact hn
  refine ⟨hs.tmr.cells hF, fun n b hb => ?_, hs.dom, hs.inj, fun n hn => by simpa using hs.fz n hn.1, ?_⟩
  · have h1 := hs.blk n b hb
    cases b with
    | dead => trivial
    | rows es rows =>
      obtain ⟨a1, a2, a3, a4, a5⟩ := h1
      refine ⟨a1, a2, a3, a4, ?_⟩
      rcases a5 with a5 | ⟨nm, cs, b1, b2, b3, b4, b5⟩
      · exact .inl a5
      · exact .inr ⟨nm, cs, b1, b2, fun hf => b3 hf.1, up nm _ _ b4, b5.cells hF⟩
    | var row =>
      obtain ⟨a1, nm, cs, b1, b2, b3, b4, b5⟩ := h1
      exact ⟨a1, nm, cs, b1, b2, fun hf => b3 hf.1, up nm _ _ b4, b5.cells hF⟩
  · obtain ⟨t, rfl⟩ := hs.ext
    exact ⟨t.set (m - h0.length) .dead, by rw [List.set_append_right _ _ hlo]⟩
/-- marks of one's own -/
def Mk (lo : Nat) (df : List Nat) (h : List Blk) : Prop := df.Nodup ∧ ∀ d, d ∈ df → lo ≤ d ∧ h[d]? = some Blk.dfr
theorem Mk.nil {lo : Nat} {h : List Blk} : Mk lo [] h := ⟨List.nodup_nil, fun d hd => by simp at hd⟩
theorem Mk.keeps {lo : Nat} {df : List Nat} (hm : Mk lo df h) (hk : Keeps h h') : Mk lo df h' := ⟨hm.1, fun d hd => ⟨(hm.2 d hd).1, hk.2 d (hm.2 d hd).2⟩⟩
theorem St.take : ∀ (df : List Nat) {Fz : Nat → Prop} {h : List Blk}, St h0 Fz L s tm h → Mk h0.length df h →
    ∃ h2 w, takeDefers df h = some (h2, w) ∧ wge w h0.length = true ∧ St h0 (fun n => Fz n ∧ n ∉ df) L s tm h2
  | [], Fz, h, hs, _ => by
    refine ⟨h, none, rfl, rfl, ?_⟩
    have e : (fun n => Fz n ∧ n ∉ ([] : List Nat)) = Fz := by funext n; simp
    rw [e]
    exact hs
  | d :: df, Fz, h, hs, hm => by
    obtain ⟨h1, h2⟩ := hm
    obtain ⟨k1, k2⟩ := List.nodup_cons.1 h1
    obtain ⟨m1, m2⟩ := h2 d List.mem_cons_self
    have hs1 := hs.unmark (m := d) (fun es cs => by rw [m2]; simp) m1
    obtain ⟨h3, w, t1, t2, t3⟩ := St.take df hs1 ⟨k2, fun e he => ⟨(h2 e (List.mem_cons_of_mem _ he)).1, by
      rw [List.getElem?_set_ne]
      · exact (h2 e (List.mem_cons_of_mem _ he)).2
      · rintro rfl; exact k1 he⟩⟩
    refine ⟨h3, wmin (some d) w, ?_, ?_, ?_⟩
    · simp only [takeDefers, m2, t1, Option.map_some]
    · exact wge_min (by simpa [wge] using m1) t2
    · have e : (fun n => (Fz n ∧ n ≠ d) ∧ n ∉ df) = (fun n => Fz n ∧ n ∉ d :: df) := by
        funext n
        simp [and_assoc]
      rw [← e]
      exact t3
end
section
variable {C : Ctx} {P : Program} {s s' : TS} {Q Q' : Exit → TS → Prop}
/-- code that may range over functions -/
def TM (C : Ctx) (P : Program) (c : Code) (s : TS) (Q : Exit → TS → Prop) : Prop :=
  ∀ h0 Fz L tm df h, St h0 Fz L s tm h → Mk h0.length df h → XP C P none h0.length c ⟨tm, df⟩ h (fun e a' h' => Mk h0.length a'.df h' ∧ ∃ s' Fz' L', Q e s' ∧ Grow h0 Fz Fz' h h' ∧ St h0 Fz' L' s' a'.tm h')
theorem TM.of (hC : CKeeps C) {c : Code} (hn : noRange c = true) (hx : TX C P c s Q) : TM C P c s Q := by
  intro h0 Fz L tm df h hs hm
  obtain ⟨K, e, a', h', wr, h1, h2, hd, r⟩ := hx h0 Fz L tm h hs
  have hp := exec_plain (C := C) (P := P) (ro := none) K c tm df h hn
  rw [h1, Option.map_some] at hp
  exact ⟨K, e, ⟨a'.tm, df⟩, h', wr, hp, h2, hm.keeps (exec_keeps hC K c h1).1, r⟩
theorem TM.mono {c : Code} (hx : TM C P c s Q) (hq : ∀ e s, Q e s → Q' e s) : TM C P c s Q' := by
  intro h0 Fz L tm df h hs hm
  refine (hx h0 Fz L tm df h hs hm).mono ?_
  rintro e a' h' ⟨hd, s', F', L', q, g, hs'⟩
  exact ⟨hd, s', F', L', hq _ _ q, g, hs'⟩
theorem TM.weak {c : Code} (hw : Wk s s') (hx : TM C P c s' Q) : TM C P c s Q := by
  intro h0 Fz L tm df h hs hm
  obtain ⟨F1, L1, g1, s1⟩ := hw h0 Fz L tm h hs
  refine (hx h0 F1 L1 tm df h s1 hm).mono ?_
  rintro e a' h' ⟨hd, s', F', L', q, g, hs'⟩
  exact ⟨hd, s', F', L', q, g1.trans g, hs'⟩
theorem TM.post {c : Code} (hx : TM C P c s (fun e s => ∃ s', Wk s s' ∧ Q e s')) : TM C P c s Q := by
  intro h0 Fz L tm df h hs hm
  refine (hx h0 Fz L tm df h hs hm).mono ?_
  rintro e a' h' ⟨hd, s', F', L', ⟨s2, w, q⟩, g, hs'⟩
  obtain ⟨F2, L2, g2, hs2⟩ := w h0 F' L' a'.tm h' hs'
  exact ⟨hd, s2, F2, L2, q, g.trans g2, hs2⟩
theorem TM.seq {x y : Code} (hx : TM C P x s (seqT (fun s => TM C P y s Q) Q)) : TM C P (.seq x y) s Q := by
  intro h0 Fz L tm df h hs hm
  refine XP.seq ((hx h0 Fz L tm df h hs hm).mono ?_)
  rintro e ⟨tm', df'⟩ h' ⟨hd, s', F', L', q, g, hs'⟩
  cases e with
  | normal =>
    refine seqQ_n ?_
    refine (q h0 F' L' tm' df' h' hs' hd).mono ?_
    rintro e a' h' ⟨hd, s', F', L', q, g', hs'⟩
    exact ⟨hd, s', F', L', q, g.trans g', hs'⟩
  | _ => exact ⟨hd, s', F', L', q, g, hs'⟩
theorem TM.block {id : Nat} {b : Code} (hx : TM C P b s (blockT id Q)) : TM C P (.block id b) s Q := by
  intro h0 Fz L tm df h hs hm
  refine XP.block ((hx h0 Fz L tm df h hs hm).mono ?_)
  rintro e ⟨tm', df'⟩ h' ⟨hd, s', F', L', q, g, hs'⟩
  cases e with
  | exit id' =>
    simp only [blockT] at q
    simp only [blockQ]
    split at q
    · rename_i hi; rw [if_pos hi]; exact ⟨hd, s', F', L', q, g, hs'⟩
    · rename_i hi; rw [if_neg hi]; exact ⟨hd, s', F', L', q, g, hs'⟩
  | _ => exact ⟨hd, s', F', L', q, g, hs'⟩
theorem TM.cond_true {c : Operand} {a b : Code} (ho : opndOk c = true) (hc : tev s.tm c = .v (.bool true)) (hx : TM C P a s Q) : TM C P (.cond c a b) s Q := by
  intro h0 Fz L tm df h hs hm
  have := tev_vl hs.tmr c
  rw [hc] at this
  have hb := this.bool_inv
  obtain ⟨K, e, a', h', w1, hx1, r⟩ := hx h0 Fz L tm df h hs hm
  exact ⟨K + 1, e, a', h', w1, by simp only [exec, ho, if_true, hb, hx1], r⟩
theorem TM.cond_false {c : Operand} {a b : Code} (ho : opndOk c = true) (hc : tev s.tm c = .v (.bool false)) (hx : TM C P b s Q) : TM C P (.cond c a b) s Q := by
  intro h0 Fz L tm df h hs hm
  have := tev_vl hs.tmr c
  rw [hc] at this
  have hb := this.bool_inv
  obtain ⟨K, e, a', h', w1, hx1, r⟩ := hx h0 Fz L tm df h hs hm
  exact ⟨K + 1, e, a', h', w1, by simp only [exec, ho, if_true, hb, hx1], r⟩
end
end Go.Rex
