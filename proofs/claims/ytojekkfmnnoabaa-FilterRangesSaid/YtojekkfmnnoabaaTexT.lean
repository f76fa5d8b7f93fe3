/- An executor of the program's functions on trees of values, proved sound. -/
import Derived.Test.YtojekkfmnnoabaaTexS
set_option linter.unusedSimpArgs false
set_option linter.unusedVariables false
set_option linter.defProp false
namespace Go.Rex
open Go.RowKit
/-! ### short names for the walks -/
class Mv (p : Prop) (q : outParam Prop) : Prop where
  mv : q → p
theorem mv {p q : Prop} [i : Mv p q] (h : q) : p := i.mv h
section
variable {C : Ctx} {P : Program} {s : TS} {Q : Exit → TS → Prop} {next : TS → Prop}
instance {x y : Code} : Mv (TX C P (.seq x y) s Q) (TX C P x s (seqT (fun s => TX C P y s Q) Q)) := ⟨TX.seq⟩
instance {id : Nat} {b : Code} : Mv (TX C P (.block id b) s Q) (TX C P b s (blockT id Q)) := ⟨TX.block⟩
instance : Mv (TX C P .skip s Q) (Q .normal s) := ⟨TX.skip⟩
instance {id : Nat} : Mv (TX C P (.exit id) s Q) (Q (.exit id) s) := ⟨TX.exit⟩
instance : Mv (TX C P .ret s Q) (Q .ret s) := ⟨TX.ret⟩
instance : Mv (seqT next Q .normal s) (next s) := ⟨seqT_n⟩
instance {id : Nat} : Mv (seqT next Q (.exit id) s) (Q (.exit id) s) := ⟨seqT_e⟩
instance : Mv (seqT next Q .ret s) (Q .ret s) := ⟨seqT_r⟩
instance {id : Nat} : Mv (blockT id Q .normal s) (Q .normal s) := ⟨blockT_n⟩
instance {id : Nat} : Mv (blockT id Q .ret s) (Q .ret s) := ⟨blockT_r⟩
instance {id : Nat} : Mv (blockT id Q (.exit id) s) (Q .normal s) := ⟨blockT_e⟩
end
def m12 := @blockT_ne
theorem k1 {a : Bool} (h : a = true) : a = true := h
theorem k2 {a : Option Bool} (h : a = some true) : a = some true := h
def an {p q : Prop} := @And.intro p q
def z6 := And.intro @List.toList_toArray.{0} <| And.intro @ite_true.{1} <| And.intro @ite_false.{1} <| And.intro @true_and <| And.intro @and_true <| And.intro @and_self <| And.intro @Bool.false_eq_true <| And.intro @decide_true @decide_false
def zy := And.intro z1 <| And.intro z2 z3
def zz := And.intro z1 <| And.intro z2 <| And.intro z3 <| And.intro z4 z6
theorem wr {tm tm' : List TV} {hp hp' : List TB} (fl : List (Option Nat)) (hok : renOk fl = true) (hB : RB fl hp hp' fl) (hT : RNs fl tm tm' := by (repeat (first | exact RNs.nil | refine RNs.cons .junk ?_ | refine RNs.cons (.keep rfl rfl) ?_ | refine RNs.cons (.lsl rfl rfl) ?_ | refine RNs.cons (.lsl rfl (by simp only [List.length_set])) ?_ | refine RNs.cons (.lptr rfl) ?_ | refine RNs.cons (.nil rfl) ?_ | refine RNs.cons .nl ?_ | refine RNs.cons (.tuple' ?_) ?_ | refine RNs.cons (.agg' ?_) ?_))) : Wk ⟨tm, hp⟩ ⟨tm', hp'⟩ := Wk.ren fl hok hB hT
theorem rv {fl : List (Option Nat)} {hp : List TB} {n : Nat} {row row' : List TV} {hp' : List TB} {l : List (Option Nat)} (h : RB fl hp hp' l) (hb : hp[n]? = some (.var row)) (hr : RNs fl row row' := by (repeat (first | exact RNs.nil | refine RNs.cons .junk ?_ | refine RNs.cons (.keep rfl rfl) ?_ | refine RNs.cons (.lsl rfl rfl) ?_ | refine RNs.cons (.lsl rfl (by simp only [List.length_set])) ?_ | refine RNs.cons (.lptr rfl) ?_ | refine RNs.cons (.nil rfl) ?_ | refine RNs.cons .nl ?_ | refine RNs.cons (.tuple' ?_) ?_ | refine RNs.cons (.agg' ?_) ?_))) : RB fl hp (.var row' :: hp') (some n :: l) := .var h hb hr
/-! ### a slice of a whole array that is not written again -/
section
variable {C : Ctx} {P : Program} {ops : Array Oper} {rest : List Oper} {tm tm2 : List TV} {hp : List TB} {Q : TS → Prop}
variable {dst : Option Tmp} {ty : TypeId} {pos : String} {aft : Array Edge} {gd : Option (Nat × Bool)} {ms : List Nat} {i : Nat} {np : List Nat} {c : Bool}
theorem OpG.sliceA {s : TS} {t e : TypeId} {x : Operand} {n o es : Nat} {row : List TV} {rows : List (List TV)} (hx : tev s.tm x = .fptr true row o) (ha : arrayOf P t = some (n, e)) (ho : okT P e = true) (hes : P.cellsOf e = es)
    (hw : (rows.all fun r => r.length == es) = true) (hf : rows.flatten = (row.drop o).take (n * es)) (hn : rows.length = n) (hle : o + n * es ≤ row.length) :
    OpG C P { dst := dst, op := .slice t x none none none, type := ty, pos := pos, after := aft, guard := gd } s ⟨tput s.tm dst (.list es rows), s.hp⟩ := by
  intro h0 Fz L tm h hs
  have hv := tev_vl hs.tmr x
  rw [hx] at hv
  generalize hq : ev tm x = v at hv
  have hu : P.underlying t = some (.array n e) := by
    unfold arrayOf at ha
    split at ha
    · rename_i hu; obtain ⟨rfl, rfl⟩ := Prod.mk.inj (Option.some.inj ha); exact hu
    · cases ha
  cases hv with
  | fptr _ _ _ _ nb base eb cs hn' hb hv hle' hh =>
    obtain rfl := hv rfl
    have hw' : ∀ r ∈ rows, r.length = es := fun r hr => by simpa using List.all_eq_true.1 hw r hr
    refine ⟨?_, .slice (some ⟨nb, base + o, none⟩) n n, h, ?_, Ext.refl _, Fz, L, Grow.refl _ _, ?_⟩
    · have e : Rex.pop P (ev tm) { dst := dst, op := .slice t x none none none, type := ty, pos := pos, after := aft, guard := gd } = genP P (ev tm) { dst := dst, op := .slice t x none none none, type := ty, pos := pos, after := aft, guard := gd } := rfl
      rw [e]
      unfold genP
      simp only
      rw [if_neg]
      have hcl : isClean (ev tm x) = false := by rw [hq]; rfl
      simp [Op.operands, hcl]
    · simp only [xop, hop, hq, Option.map_none, sliceV, hu, hb, bnd]
      rw [if_pos ⟨trivial, ho, Nat.zero_le _, Nat.le_refl _, .inl trivial⟩]
      simp
    · refine hs.put dst ?_
      subst hn
      refine .list L es rows nb (base + o) rows.length cs 0 hn' hb (.inr rfl) hw' (Nat.le_refl _) (by omega) fun j p y h1 h2 => ?_
      rw [hf, List.getElem?_take, List.getElem?_drop] at h1
      split at h1
      · exact hh (o + j) p y h1 (by rw [← Nat.add_assoc]; exact h2)
      · cases h1
theorem TO.sa {α : Type} (f : α → List TV) (xs : List α) {t e : TypeId} {x : Operand} {n o es : Nat} {row : List TV} (hw : twant ops tm { dst := dst, op := .slice t x none none none, type := ty, pos := pos, after := aft, guard := gd } = some true) (hx : tev tm x = .fptr true row o) (ha : arrayOf P t = some (n, e)) (ho : okT P e = true) (hes : P.cellsOf e = es)
    (hr : ((xs.map f).all fun r => r.length == es) = true) (hf : (xs.map f).flatten = (row.drop o).take (n * es)) (hn : (xs.map f).length = n) (hle : decide (o + n * es ≤ row.length) = true) (ht : tput tm dst (.list es (xs.map f)) = tm2) (hq : TO C P ops rest ⟨tm2, hp⟩ Q) : TO C P ops ({ dst := dst, op := .slice t x none none none, type := ty, pos := pos, after := aft, guard := gd } :: rest) ⟨tm, hp⟩ Q := by
  subst ht; exact TO.g hw (OpG.sliceA (s := ⟨tm, hp⟩) hx ha ho hes hr hf hn (of_decide_eq_true hle)) hq
theorem TD.sa {α : Type} (f : α → List TV) (xs : List α) {t e : TypeId} {x : Operand} {n o es : Nat} {row : List TV} (hw : twant ops tm { dst := dst, op := .slice t x none none none, type := ty, pos := pos, after := aft, guard := gd } = some true) (hx : tev tm x = .fptr true row o) (ha : arrayOf P t = some (n, e)) (ho : okT P e = true) (hes : P.cellsOf e = es)
    (hr : ((xs.map f).all fun r => r.length == es) = true) (hf : (xs.map f).flatten = (row.drop o).take (n * es)) (hn : (xs.map f).length = n) (hle : decide (o + n * es ≤ row.length) = true) (ht : tput tm dst (.list es (xs.map f)) = tm2) (hq : TD C P ops ms rest (i + 1) (i :: np) false ⟨tm2, hp⟩ Q) : TD C P ops ms ({ dst := dst, op := .slice t x none none none, type := ty, pos := pos, after := aft, guard := gd } :: rest) i np false ⟨tm, hp⟩ Q := by
  subst ht; exact TD.g hw (OpG.sliceA (s := ⟨tm, hp⟩) hx ha ho hes hr hf hn (of_decide_eq_true hle)) hq
/-! ### a literal as a list; a place of an array value -/
theorem bmG {α : Type} {f : α → List TV} {xs : List α} {t : TypeId} {n es : Nat} {ps : Array (Nat × Operand)} {l : List (Nat × TV)} {rows : List (List TV)} (hx : ps.toList.map (fun q => (q.1, tev tm q.2)) = l) (hv : tslice P t n l = some (es, rows)) (hr : rows = xs.map f) :
    OpG C P { dst := dst, op := .buildSlice t n ps, type := ty, pos := pos, after := aft, guard := gd } ⟨tm, hp⟩ ⟨tput tm dst (.list es (xs.map f)), hp⟩ := by
  subst hr
  exact OpG.buildSlice (s := ⟨tm, hp⟩) (by simp only [hx]; exact hv)
theorem TO.bm {α : Type} (f : α → List TV) (xs : List α) {t : TypeId} {n es : Nat} {ps : Array (Nat × Operand)} {l : List (Nat × TV)} {rows : List (List TV)} (hw : twant ops tm { dst := dst, op := .buildSlice t n ps, type := ty, pos := pos, after := aft, guard := gd } = some true) (hx : ps.toList.map (fun q => (q.1, tev tm q.2)) = l) (hv : tslice P t n l = some (es, rows)) (hr : rows = xs.map f)
    (ht : tput tm dst (.list es (xs.map f)) = tm2) (hq : TO C P ops rest ⟨tm2, hp⟩ Q) : TO C P ops ({ dst := dst, op := .buildSlice t n ps, type := ty, pos := pos, after := aft, guard := gd } :: rest) ⟨tm, hp⟩ Q := by
  subst ht; exact TO.g hw (bmG hx hv hr) hq
theorem TD.bm {α : Type} (f : α → List TV) (xs : List α) {t : TypeId} {n es : Nat} {ps : Array (Nat × Operand)} {l : List (Nat × TV)} {rows : List (List TV)} (hw : twant ops tm { dst := dst, op := .buildSlice t n ps, type := ty, pos := pos, after := aft, guard := gd } = some true) (hx : ps.toList.map (fun q => (q.1, tev tm q.2)) = l) (hv : tslice P t n l = some (es, rows)) (hr : rows = xs.map f)
    (ht : tput tm dst (.list es (xs.map f)) = tm2) (hq : TD C P ops ms rest (i + 1) (i :: np) false ⟨tm2, hp⟩ Q) : TD C P ops ms ({ dst := dst, op := .buildSlice t n ps, type := ty, pos := pos, after := aft, guard := gd } :: rest) i np false ⟨tm, hp⟩ Q := by
  subst ht; exact TD.g hw (bmG hx hv hr) hq
theorem ixlP {t : TypeId} {x y : Operand} {q q2 p : TV} (hx : tev tm x = q) (hy : tev tm y = q2) (hv : tindex P t q q2 = some p) : tpop P hp tm { dst := dst, op := .index t x y, type := ty, pos := pos, after := aft, guard := gd } = some p := by
  simp only [tpop, hx, hy, hv, orT]
theorem TO.ixl {t : TypeId} {x y : Operand} {q q2 p : TV} (hw : twant ops tm { dst := dst, op := .index t x y, type := ty, pos := pos, after := aft, guard := gd } = some true) (hx : tev tm x = q) (hy : tev tm y = q2) (hv : tindex P t q q2 = some p) (ht : tput tm dst p = tm2) (hq : TO C P ops rest ⟨tm2, hp⟩ Q) : TO C P ops ({ dst := dst, op := .index t x y, type := ty, pos := pos, after := aft, guard := gd } :: rest) ⟨tm, hp⟩ Q :=
  TO.pop1 hw (ixlP hx hy hv) ht hq
theorem TD.ixl {t : TypeId} {x y : Operand} {q q2 p : TV} (hw : twant ops tm { dst := dst, op := .index t x y, type := ty, pos := pos, after := aft, guard := gd } = some true) (hx : tev tm x = q) (hy : tev tm y = q2) (hv : tindex P t q q2 = some p) (ht : tput tm dst p = tm2) (hq : TD C P ops ms rest (i + 1) np c ⟨tm2, hp⟩ Q) : TD C P ops ms ({ dst := dst, op := .index t x y, type := ty, pos := pos, after := aft, guard := gd } :: rest) i np c ⟨tm, hp⟩ Q :=
  TD.pop1 hw (ixlP hx hy hv) ht hq
end
end Go.Rex
