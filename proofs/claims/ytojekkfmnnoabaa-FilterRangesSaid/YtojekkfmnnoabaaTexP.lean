/- An executor of the program's functions on trees of values, proved sound. -/
import Derived.Test.YtojekkfmnnoabaaTexO
set_option linter.unusedSimpArgs false
set_option linter.unusedVariables false
set_option linter.defProp false
namespace Go.Rex
open Go.RowKit
section
variable {C : Ctx} {P : Program} {ops : Array Oper} {rest : List Oper} {tm tm2 : List TV} {hp hp2 : List TB} {Q : TS → Prop} {o : Oper}
variable {dst : Option Tmp} {ty : TypeId} {pos : String} {aft : Array Edge} {gd : Option (Nat × Bool)} {p q : TV} {ms : List Nat} {i : Nat} {np : List Nat} {c : Bool}
theorem TO.here {l : List Oper} {s : TS} (h : TO C P ops l s Q) : TO C P ops l s Q := h
theorem TD.here {l : List Oper} {s : TS} (h : TD C P ops ms l i np c s Q) : TD C P ops ms l i np c s Q := h
theorem TO.vt {α : Type} (f : α → List TV) (t es : Nat) {l : List Oper} (ht : tnth tm t = .v (.slice none 0 0)) (h1 : tm.set t (.lsl hp.length 0 ([] : List α).length) = tm2) (h2 : hp ++ [.rows es (([] : List α).map f)] = hp2) (hq : TO C P ops l ⟨tm2, hp2⟩ Q) : TO C P ops l ⟨tm, hp⟩ Q := by
  subst h1 h2
  exact TO.weak (Wk.nil t es ht) hq
theorem TD.vt {α : Type} (f : α → List TV) (t es : Nat) {l : List Oper} (ht : tnth tm t = .v (.slice none 0 0)) (h1 : tm.set t (.lsl hp.length 0 ([] : List α).length) = tm2) (h2 : hp ++ [.rows es (([] : List α).map f)] = hp2) (hq : TD C P ops ms l i np c ⟨tm2, hp2⟩ Q) : TD C P ops ms l i np c ⟨tm, hp⟩ Q := by
  subst h1 h2
  exact TD.weak (Wk.nil t es ht) hq
/-- a row of zeros -/
theorem mkG {α : Type} {f : α → List TV} {z0 : α} {xs : List α} {t e : TypeId} {x y : Operand} {k k' : IntKind} {n : Int} {z : List Value} {es by' : Nat} (hm : mkI by' n z0 = some xs) (hx : tev tm x = .v (.int k n)) (hy : tev tm y = .v (.int k' n)) (hs : sliceOf P t = some e) (hz : zeroC P e = some z) (hb : bytesT P e = by') (hne : z.length = es) (he : Nat.ble 1 es = true) (hf : z.map .v = f z0) :
    OpG C P { dst := dst, op := .makeSlice t x y, type := ty, pos := pos, after := aft, guard := gd } ⟨tm, hp⟩ ⟨tput tm dst (.lsl hp.length 0 xs.length), hp ++ [.rows es (xs.map f)]⟩ := by
  unfold mkI at hm
  split at hm
  · rename_i hc
    obtain rfl := Option.some.inj hm
    have := OpG.makeSlice (C := C) (P := P) (s := ⟨tm, hp⟩) (dst := dst) (ty := ty) (pos := pos) (aft := aft) (gd := gd) (t := t) (l := x) (c := y) (n := n.toNat) (z := z) (by
      rw [show tev (TS.mk tm hp).tm x = _ from hx, show tev (TS.mk tm hp).tm y = _ from hy]
      simp only [tmake, hs, hz, hb]
      rw [if_pos ⟨trivial, hc.1, hc.2.1, hc.2.2, fun h => by rw [h] at hne; simp at hne; subst hne; simp [Nat.ble] at he⟩])
    rw [hne, hf] at this
    simpa using this
  · cases hm
theorem TO.mk {α : Type} (f : α → List TV) {z0 : α} {xs : List α} {t e : TypeId} {x y : Operand} {k k' : IntKind} {n : Int} {z : List Value} {es by' : Nat} (hm : mkI by' n z0 = some xs) (hw : twant ops tm { dst := dst, op := .makeSlice t x y, type := ty, pos := pos, after := aft, guard := gd } = some true) (hx : tev tm x = .v (.int k n)) (hy : tev tm y = .v (.int k' n)) (hs : sliceOf P t = some e) (hz : zeroC P e = some z) (hb : bytesT P e = by') (hne : z.length = es) (he : Nat.ble 1 es = true) (hf : z.map .v = f z0)
    (ht : tput tm dst (.lsl hp.length 0 xs.length) = tm2) (hh2 : hp ++ [.rows es (xs.map f)] = hp2) (hq : TO C P ops rest ⟨tm2, hp2⟩ Q) : TO C P ops ({ dst := dst, op := .makeSlice t x y, type := ty, pos := pos, after := aft, guard := gd } :: rest) ⟨tm, hp⟩ Q := by
  subst ht hh2; exact TO.g hw (mkG hm hx hy hs hz hb hne he hf) hq
theorem TD.mk {α : Type} (f : α → List TV) {z0 : α} {xs : List α} {t e : TypeId} {x y : Operand} {k k' : IntKind} {n : Int} {z : List Value} {es by' : Nat} (hm : mkI by' n z0 = some xs) (hw : twant ops tm { dst := dst, op := .makeSlice t x y, type := ty, pos := pos, after := aft, guard := gd } = some true) (hx : tev tm x = .v (.int k n)) (hy : tev tm y = .v (.int k' n)) (hs : sliceOf P t = some e) (hz : zeroC P e = some z) (hb : bytesT P e = by') (hne : z.length = es) (he : Nat.ble 1 es = true) (hf : z.map .v = f z0)
    (ht : tput tm dst (.lsl hp.length 0 xs.length) = tm2) (hh2 : hp ++ [.rows es (xs.map f)] = hp2) (hq : TD C P ops ms rest (i + 1) (i :: np) false ⟨tm2, hp2⟩ Q) : TD C P ops ms ({ dst := dst, op := .makeSlice t x y, type := ty, pos := pos, after := aft, guard := gd } :: rest) i np false ⟨tm, hp⟩ Q := by
  subst ht hh2; exact TD.g hw (mkG hm hx hy hs hz hb hne he hf) hq
/-- a literal of one's own -/
theorem boG {α : Type} {f : α → List TV} {xs : List α} {t : TypeId} {n es : Nat} {ps : Array (Nat × Operand)} {l : List (Nat × TV)} {rows : List (List TV)} (hx : ps.toList.map (fun q => (q.1, tev tm q.2)) = l) (hv : tslice P t n l = some (es, rows)) (hr : rows = xs.map f) (hn : n = xs.length) :
    OpG C P { dst := dst, op := .buildSlice t n ps, type := ty, pos := pos, after := aft, guard := gd } ⟨tm, hp⟩ ⟨tput tm dst (.lsl hp.length 0 xs.length), hp ++ [.rows es (xs.map f)]⟩ := by
  subst hr hn
  exact OpG.buildOwn (s := ⟨tm, hp⟩) (by simp only [hx]; exact hv)
theorem TO.bl {α : Type} (f : α → List TV) (xs : List α) {t : TypeId} {n es : Nat} {ps : Array (Nat × Operand)} {l : List (Nat × TV)} {rows : List (List TV)} (hw : twant ops tm { dst := dst, op := .buildSlice t n ps, type := ty, pos := pos, after := aft, guard := gd } = some true) (hx : ps.toList.map (fun q => (q.1, tev tm q.2)) = l) (hv : tslice P t n l = some (es, rows)) (hr : rows = xs.map f) (hn : n = xs.length)
    (ht : tput tm dst (.lsl hp.length 0 xs.length) = tm2) (hh2 : hp ++ [.rows es (xs.map f)] = hp2) (hq : TO C P ops rest ⟨tm2, hp2⟩ Q) : TO C P ops ({ dst := dst, op := .buildSlice t n ps, type := ty, pos := pos, after := aft, guard := gd } :: rest) ⟨tm, hp⟩ Q := by
  subst ht hh2; exact TO.g hw (boG hx hv hr hn) hq
theorem TD.bl {α : Type} (f : α → List TV) (xs : List α) {t : TypeId} {n es : Nat} {ps : Array (Nat × Operand)} {l : List (Nat × TV)} {rows : List (List TV)} (hw : twant ops tm { dst := dst, op := .buildSlice t n ps, type := ty, pos := pos, after := aft, guard := gd } = some true) (hx : ps.toList.map (fun q => (q.1, tev tm q.2)) = l) (hv : tslice P t n l = some (es, rows)) (hr : rows = xs.map f) (hn : n = xs.length)
    (ht : tput tm dst (.lsl hp.length 0 xs.length) = tm2) (hh2 : hp ++ [.rows es (xs.map f)] = hp2) (hq : TD C P ops ms rest (i + 1) (i :: np) false ⟨tm2, hp2⟩ Q) : TD C P ops ms ({ dst := dst, op := .buildSlice t n ps, type := ty, pos := pos, after := aft, guard := gd } :: rest) i np false ⟨tm, hp⟩ Q := by
  subst ht hh2; exact TD.g hw (boG hx hv hr hn) hq
/-- a part of a list -/
theorem sbG {α : Type} {f : α → List TV} {xs ys : List α} {t e : TypeId} {x : Operand} {lo hi : Option Operand} {ql qh : Option TV} {es : Nat} {l k : Int} (hs : subI xs l k = some ys) (hx : tev tm x = .list es (xs.map f)) (hl : lo.map (tev tm) = ql) (hh : hi.map (tev tm) = qh) (hso : sliceOf P t = some e) (ho : okT P e = true) (hes : P.cellsOf e = es)
    (hl' : (ql = none ∧ l = 0) ∨ ∃ k', ql = some (.v (.int k' l))) (hh' : (qh = none ∧ k = xs.length) ∨ ∃ k', qh = some (.v (.int k' k))) :
    OpG C P { dst := dst, op := .slice t x lo hi none, type := ty, pos := pos, after := aft, guard := gd } ⟨tm, hp⟩ ⟨tput tm dst (.list es (ys.map f)), hp⟩ := by
  unfold subI at hs
  split at hs
  · rename_i hc
    obtain rfl := Option.some.inj hs
    obtain ⟨c1, c2, c3, c4, c5⟩ := hc
    refine OpG.slice (s := ⟨tm, hp⟩) ?_
    rw [show tev (TS.mk tm hp).tm x = _ from hx, show lo.map (tev (TS.mk tm hp).tm) = ql from hl, show hi.map (tev (TS.mk tm hp).tm) = qh from hh]
    have b1 : tbnd ql 0 = some l.toNat := by
      rcases hl' with ⟨rfl, rfl⟩ | ⟨k', rfl⟩
      · rfl
      · simp only [tbnd]; rw [if_pos c1]
    have b2 : tbnd qh (xs.map f).length = some k.toNat := by
      rcases hh' with ⟨rfl, rfl⟩ | ⟨k', rfl⟩
      · simp [tbnd]
      · simp only [tbnd]; rw [if_pos (by omega)]
    simp only [tsub, hso, ho, if_true, b1, b2]
    rw [if_pos ⟨hes.symm, by simpa using c4, by omega, by simp; omega, by simp; omega⟩]
    simp [List.map_take, List.map_drop]
  · cases hs
theorem TO.sb {α : Type} (f : α → List TV) {xs ys : List α} {t e : TypeId} {x : Operand} {lo hi : Option Operand} {ql qh : Option TV} {es : Nat} {l k : Int} (hs : subI xs l k = some ys) (hw : twant ops tm { dst := dst, op := .slice t x lo hi none, type := ty, pos := pos, after := aft, guard := gd } = some true) (hx : tev tm x = .list es (xs.map f)) (hl : lo.map (tev tm) = ql) (hh : hi.map (tev tm) = qh) (hso : sliceOf P t = some e) (ho : okT P e = true) (hes : P.cellsOf e = es)
    (hl' : (ql = none ∧ l = 0) ∨ ∃ k', ql = some (.v (.int k' l))) (hh' : (qh = none ∧ k = xs.length) ∨ ∃ k', qh = some (.v (.int k' k))) (ht : tput tm dst (.list es (ys.map f)) = tm2) (hq : TO C P ops rest ⟨tm2, hp⟩ Q) : TO C P ops ({ dst := dst, op := .slice t x lo hi none, type := ty, pos := pos, after := aft, guard := gd } :: rest) ⟨tm, hp⟩ Q := by
  subst ht; exact TO.g hw (sbG hs hx hl hh hso ho hes hl' hh') hq
theorem TD.sb {α : Type} (f : α → List TV) {xs ys : List α} {t e : TypeId} {x : Operand} {lo hi : Option Operand} {ql qh : Option TV} {es : Nat} {l k : Int} (hs : subI xs l k = some ys) (hw : twant ops tm { dst := dst, op := .slice t x lo hi none, type := ty, pos := pos, after := aft, guard := gd } = some true) (hx : tev tm x = .list es (xs.map f)) (hl : lo.map (tev tm) = ql) (hh : hi.map (tev tm) = qh) (hso : sliceOf P t = some e) (ho : okT P e = true) (hes : P.cellsOf e = es)
    (hl' : (ql = none ∧ l = 0) ∨ ∃ k', ql = some (.v (.int k' l))) (hh' : (qh = none ∧ k = xs.length) ∨ ∃ k', qh = some (.v (.int k' k))) (ht : tput tm dst (.list es (ys.map f)) = tm2) (hq : TD C P ops ms rest (i + 1) (i :: np) false ⟨tm2, hp⟩ Q) : TD C P ops ms ({ dst := dst, op := .slice t x lo hi none, type := ty, pos := pos, after := aft, guard := gd } :: rest) i np false ⟨tm, hp⟩ Q := by
  subst ht; exact TD.g hw (sbG hs hx hl hh hso ho hes hl' hh') hq
/-- an address in an array -/
theorem iaA {α : Type} {xs : List α} {u : α} {t e : TypeId} {x y : Operand} {b n es : Nat} {k : IntKind} {iv : Int} (hg : getI xs iv = some u) (hx : tev tm x = .lptr b 0 0) (hy : tev tm y = .v (.int k iv)) (hso : sliceOf P t = none) (ha : arrayOf P t = some (n, e)) (hn : xs.length = n) (ho : okT P e = true) (hes : P.cellsOf e = es) :
    tpop P hp tm { dst := dst, op := .indexAddr t x y, type := ty, pos := pos, after := aft, guard := gd } = some (.lptr b 0 (0 + iv.toNat * es)) := by
  have h1 := getI_lt hg
  simp only [tpop, hx, hy, tindexAddr, hso, ha]
  rw [if_pos ⟨h1.1, by omega, ho⟩, hes]
end
end Go.Rex
