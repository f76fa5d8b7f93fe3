/- An executor of the program's functions on trees of values, proved sound. -/
import Derived.Test.YtojekkfmnnoabaaTexN
set_option linter.unusedSimpArgs false
set_option linter.unusedVariables false
set_option linter.defProp false
namespace Go.Rex
open Go.RowKit
section
variable {C : Ctx} {P : Program} {ops : Array Oper} {rest : List Oper} {tm tm2 : List TV} {hp hp2 : List TB} {Q : TS → Prop} {o : Oper}
variable {dst : Option Tmp} {ty : TypeId} {pos : String} {aft : Array Edge} {gd : Option (Nat × Bool)} {p q : TV} {ms : List Nat} {i : Nat} {np : List Nat} {c : Bool}
theorem stV {t : TypeId} {a x : Operand} {n ob : Nat} {row row2 l : List TV} (ha : tev tm a = .lptr n 0 ob) (hx : tev tm x = p) (hj : isJunk p = false) (hl : tcells p = l) (hb : hp[n]? = some (.var row)) (ht : okT P t = true) (hlen : l.length = P.cellsOf t) (hone : l.all tone = true) (hfit : Nat.ble (ob + l.length) row.length = true) (hv : tsplice row ob l = row2) :
    OpW C P { dst := none, op := .store t a x, type := ty, pos := pos, after := aft, guard := gd } ⟨tm, hp⟩ ⟨tm, hp.set n (.var row2)⟩ := by
  subst hl hv
  refine OpW.store (s := ⟨tm, hp⟩) ?_
  rw [show tev (TS.mk tm hp).tm a = _ from ha, show tev (TS.mk tm hp).tm x = p from hx]
  simp only [tstore]
  rw [if_pos ⟨hj, ht, hlen, hone⟩, hb]
  simp only
  rw [if_pos ⟨trivial, Nat.le_of_ble_eq_true hfit⟩]
theorem stR {α : Type} {f : α → List TV} {xs : List α} {y : α} {u : α} {t : TypeId} {a x : Operand} {n r ob es : Nat} {l : List TV} (ha : tev tm a = .lptr n r ob) (hx : tev tm x = p) (hj : isJunk p = false) (hl : tcells p = l) (hb : hp[n]? = some (.rows es (xs.map f))) (hr : xs[r]? = some u) (ht : okT P t = true) (hlen : l.length = P.cellsOf t) (hone : l.all tone = true)
    (hlf : l.all (lf 4) = true) (hfit : Nat.ble (ob + l.length) (f u).length = true) (hv : tsplice (f u) ob l = f y) :
    OpW C P { dst := none, op := .store t a x, type := ty, pos := pos, after := aft, guard := gd } ⟨tm, hp⟩ ⟨tm, hp.set n (.rows es ((xs.set r y).map f))⟩ := by
  subst hl
  refine OpW.store (s := ⟨tm, hp⟩) ?_
  rw [show tev (TS.mk tm hp).tm a = _ from ha, show tev (TS.mk tm hp).tm x = p from hx]
  simp only [tstore]
  rw [if_pos ⟨hj, ht, hlen, hone⟩, hb]
  simp only [List.getElem?_map, hr, Option.map_some]
  rw [if_pos ⟨Nat.le_of_ble_eq_true hfit, hlf⟩, hv, List.map_set]
theorem TO.sv {t : TypeId} {a x : Operand} {n ob : Nat} {row row2 l : List TV} (hw : twant ops tm { dst := none, op := .store t a x, type := ty, pos := pos, after := aft, guard := gd } = some true) (ha : tev tm a = .lptr n 0 ob) (hx : tev tm x = p) (hj : isJunk p = false) (hl : tcells p = l) (hb : hp[n]? = some (.var row)) (ht : okT P t = true) (hlen : l.length = P.cellsOf t) (hone : l.all tone = true) (hfit : Nat.ble (ob + l.length) row.length = true) (hv : tsplice row ob l = row2)
    (hh2 : hp.set n (.var row2) = hp2) (hq : TO C P ops rest ⟨tm, hp2⟩ Q) : TO C P ops ({ dst := none, op := .store t a x, type := ty, pos := pos, after := aft, guard := gd } :: rest) ⟨tm, hp⟩ Q := by
  subst hh2; exact TO.w hw (stV ha hx hj hl hb ht hlen hone hfit hv) hq
theorem TD.sv {t : TypeId} {a x : Operand} {n ob : Nat} {row row2 l : List TV} (hw : twant ops tm { dst := none, op := .store t a x, type := ty, pos := pos, after := aft, guard := gd } = some true) (ha : tev tm a = .lptr n 0 ob) (hx : tev tm x = p) (hj : isJunk p = false) (hl : tcells p = l) (hb : hp[n]? = some (.var row)) (ht : okT P t = true) (hlen : l.length = P.cellsOf t) (hone : l.all tone = true) (hfit : Nat.ble (ob + l.length) row.length = true) (hv : tsplice row ob l = row2)
    (hnp : np.all (fun j => (nthN ms i).testBit j) = true) (hh2 : hp.set n (.var row2) = hp2) (hq : TD C P ops ms rest (i + 1) (i :: np) true ⟨tm, hp2⟩ Q) : TD C P ops ms ({ dst := none, op := .store t a x, type := ty, pos := pos, after := aft, guard := gd } :: rest) i np c ⟨tm, hp⟩ Q := by
  subst hh2; exact TD.w hw (stV ha hx hj hl hb ht hlen hone hfit hv) hnp hq
theorem TO.sr {α : Type} (f : α → List TV) (xs : List α) (u y : α) {t : TypeId} {a x : Operand} {n r ob es : Nat} {l : List TV} (hr : xs[r]? = some u) (hw : twant ops tm { dst := none, op := .store t a x, type := ty, pos := pos, after := aft, guard := gd } = some true) (ha : tev tm a = .lptr n r ob) (hx : tev tm x = p) (hj : isJunk p = false) (hl : tcells p = l) (hb : hp[n]? = some (.rows es (xs.map f))) (ht : okT P t = true) (hlen : l.length = P.cellsOf t) (hone : l.all tone = true)
    (hlf : l.all (lf 4) = true) (hfit : Nat.ble (ob + l.length) (f u).length = true) (hv : tsplice (f u) ob l = f y) (hh2 : hp.set n (.rows es ((xs.set r y).map f)) = hp2) (hq : TO C P ops rest ⟨tm, hp2⟩ Q) : TO C P ops ({ dst := none, op := .store t a x, type := ty, pos := pos, after := aft, guard := gd } :: rest) ⟨tm, hp⟩ Q := by
  subst hh2; exact TO.w hw (stR ha hx hj hl hb hr ht hlen hone hlf hfit hv) hq
theorem TD.sr {α : Type} (f : α → List TV) (xs : List α) (u y : α) {t : TypeId} {a x : Operand} {n r ob es : Nat} {l : List TV} (hr : xs[r]? = some u) (hw : twant ops tm { dst := none, op := .store t a x, type := ty, pos := pos, after := aft, guard := gd } = some true) (ha : tev tm a = .lptr n r ob) (hx : tev tm x = p) (hj : isJunk p = false) (hl : tcells p = l) (hb : hp[n]? = some (.rows es (xs.map f))) (ht : okT P t = true) (hlen : l.length = P.cellsOf t) (hone : l.all tone = true)
    (hlf : l.all (lf 4) = true) (hfit : Nat.ble (ob + l.length) (f u).length = true) (hv : tsplice (f u) ob l = f y) (hnp : np.all (fun j => (nthN ms i).testBit j) = true) (hh2 : hp.set n (.rows es ((xs.set r y).map f)) = hp2) (hq : TD C P ops ms rest (i + 1) (i :: np) true ⟨tm, hp2⟩ Q) : TD C P ops ms ({ dst := none, op := .store t a x, type := ty, pos := pos, after := aft, guard := gd } :: rest) i np c ⟨tm, hp⟩ Q := by
  subst hh2; exact TD.w hw (stR ha hx hj hl hb hr ht hlen hone hlf hfit hv) hnp hq
end
section
variable {C : Ctx} {P : Program} {ops : Array Oper} {rest : List Oper} {tm tm2 : List TV} {hp hp2 : List TB} {Q : TS → Prop} {o : Oper}
variable {dst : Option Tmp} {ty : TypeId} {pos : String} {aft : Array Edge} {gd : Option (Nat × Bool)} {p q : TV} {ms : List Nat} {i : Nat} {np : List Nat} {c : Bool}
/-! ### arrays at any index -/
theorem flat_get {α : Type} {f : α → List TV} {xs : List α} {u : α} {es k : Nat} (hf : ∀ a, (f a).length = es) (hk : xs[k]? = some u) : (((xs.map f).flatten).drop (k * es)).take es = f u ∧ k * es + es ≤ (xs.map f).flatten.length := by
  have hw : ∀ r ∈ xs.map f, r.length = es := fun r hr => by obtain ⟨a, _, rfl⟩ := List.mem_map.1 hr; exact hf a
  have hr : (xs.map f)[k]? = some (f u) := by rw [List.getElem?_map, hk]; rfl
  constructor
  · apply List.ext_getElem?
    intro j
    rw [List.getElem?_take, List.getElem?_drop]
    split
    · rename_i hj; exact flat_at hw hr hj
    · rename_i hj
      rw [List.getElem?_eq_none (by rw [hf u]; omega)]
  · rw [flat_len hw, ← Nat.succ_mul]
    have := (List.getElem?_eq_some_iff.1 hr).1
    exact Nat.mul_le_mul_right _ this
theorem part_get {α : Type} {f : α → List TV} {xs : List α} {u : α} {es k : Nat} {t : TypeId} (hf : ∀ a, (f a).length = es) (hk : xs[k]? = some u) (hes : P.cellsOf t = es) (hp : (aggB P t = some true ∧ okT P t = true ∧ p = .agg (f u)) ∨ (aggB P t = some false ∧ es = 1 ∧ f u = [p])) : partT P t ((xs.map f).flatten) (k * es) = some p := by
  obtain ⟨h1, h2⟩ := flat_get hf hk
  unfold partT
  rcases hp with ⟨ha, ho, rfl⟩ | ⟨ha, h0, he⟩
  · rw [ha]
    simp only
    rw [hes, if_pos ⟨ho, h2⟩, h1]
  · rw [ha]
    simp only
    subst h0
    rw [he] at h1
    have : ((((xs.map f).flatten).drop (k * 1)).take 1)[0]? = some p := by rw [h1]; rfl
    rw [List.getElem?_take, if_pos (by omega), List.getElem?_drop] at this
    simpa using this
theorem ix_ok {α : Type} {f : α → List TV} {xs : List α} {u : α} {es n : Nat} {t e : TypeId} {x y : Operand} {k : IntKind} {iv : Int} {cells : List TV} (hg : getI xs iv = some u) (hx : tev tm x = .agg cells) (hc : cells = (xs.map f).flatten) (hy : tev tm y = .v (.int k iv)) (ha : arrayOf P t = some (n, e)) (hn : xs.length = n) (ho : okT P e = true) (hf : ∀ a, (f a).length = es) (hes : P.cellsOf e = es)
    (hp : (aggB P e = some true ∧ okT P e = true ∧ p = .agg (f u)) ∨ (aggB P e = some false ∧ es = 1 ∧ f u = [p])) : tpop P hp2 tm { dst := dst, op := .index t x y, type := ty, pos := pos, after := aft, guard := gd } = some p := by
  have h1 := getI_lt hg
  simp only [tpop, tindex, ha, hx, hy]
  rw [if_pos ⟨h1.1, by omega, ho⟩, hc, hes, part_get hf (getI_at hg) hes hp]
  rfl
theorem ldx_ok {α : Type} {f : α → List TV} {xs : List α} {u : α} {es b : Nat} {t : TypeId} {iv : Int} {row : List TV} (hg : getI xs iv = some u) (hb : hp[b]? = some (.var row)) (hc : row = (xs.map f).flatten) (hf : ∀ a, (f a).length = es) (hes : P.cellsOf t = es)
    (hpp : (aggB P t = some true ∧ okT P t = true ∧ p = .agg (f u)) ∨ (aggB P t = some false ∧ es = 1 ∧ f u = [p])) : tload P hp t (.lptr b 0 (0 + iv.toNat * es)) = some p := by
  simp only [tload, rowOf, hb, if_true, Nat.zero_add]
  rw [hc]
  exact part_get hf (getI_at hg) hes hpp
end
/-- what slots and operands are -/
theorem z1 : (∀ tm t, tev tm (.tmp t) = tnth tm t) ∧ (∀ tm k n, tev tm (.const (.int k n)) = .v (.int k n)) ∧ (∀ tm b, tev tm (.const (.bool b)) = .v (.bool b)) ∧ (∀ tm s, tev tm (.const (.string s)) = .v (.string s)) ∧ (∀ tm k b, tev tm (.const (.float k b)) = .v (.float k b)) ∧
    (∀ tm k a b, tev tm (.const (.complex k a b)) = .v (.complex k a b)) ∧ (∀ tm, tev tm (.const (.slice none 0 0)) = .v (.slice none 0 0)) ∧ (∀ tm, tev tm (.const .nilFunc) = .v .nilFunc) ∧ (∀ tm, tev tm (.const .nilIface) = .v .nilIface) ∧ (∀ tm, tev tm (.const (.pointer none)) = .v (.pointer none)) ∧
    (∀ tm f, tev tm (.func f) = .func f [] []) ∧ (∀ a l, tnth (a :: l) 0 = a) ∧ (∀ a l n, tnth (a :: l) (n + 1) = tnth l n) ∧ (∀ tm p, tput tm none p = tm) ∧ (∀ tm d p, tput tm (some d) p = tm.set d p) :=
  ⟨fun _ _ => rfl, fun _ _ _ => rfl, fun _ _ => rfl, fun _ _ => rfl, fun _ _ _ => rfl, fun _ _ _ _ => rfl, fun _ => rfl, fun _ => rfl, fun _ => rfl, fun _ => rfl, fun _ _ => rfl, fun _ _ => rfl, fun _ _ _ => rfl, fun _ _ => rfl, fun _ _ _ => rfl⟩
/-- operators on integers -/
theorem z2 : (∀ k a b, fastBin .add (.int k a) (.int k b) = some (.int k (k.wrap (a + b)))) ∧ (∀ k a b, fastBin .sub (.int k a) (.int k b) = some (.int k (k.wrap (a - b)))) ∧ (∀ k a b, fastBin .mul (.int k a) (.int k b) = some (.int k (k.wrap (a * b)))) ∧
    (∀ k a b, fastBin .lss (.int k a) (.int k b) = some (.bool (decide (a < b)))) ∧ (∀ k a b, fastBin .leq (.int k a) (.int k b) = some (.bool (decide (a ≤ b)))) ∧ (∀ k a b, fastBin .gtr (.int k a) (.int k b) = some (.bool (decide (a > b)))) ∧ (∀ k a b, fastBin .geq (.int k a) (.int k b) = some (.bool (decide (a ≥ b)))) ∧
    (∀ k a b, fastBin .eql (.int k a) (.int k b) = some (.bool (decide (a = b)))) ∧ (∀ k a b, fastBin .neq (.int k a) (.int k b) = some (.bool (decide (a ≠ b)))) ∧ (∀ k a b, fastBin .quo (.int k a) (.int k b) = if b = 0 then none else some (.int k (k.wrap (a.tdiv b)))) ∧ (∀ k a b, fastBin .rem (.int k a) (.int k b) = if b = 0 then none else some (.int k (a.tmod b))) := by
  refine ⟨?_, ?_, ?_, ?_, ?_, ?_, ?_, ?_, ?_, ?_, ?_⟩ <;> (intro k a b; simp only [fastBin, if_true])
end Go.Rex
