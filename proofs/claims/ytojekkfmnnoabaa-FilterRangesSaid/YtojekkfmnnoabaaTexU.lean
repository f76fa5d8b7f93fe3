/- An executor of the program's functions on trees of values, proved sound. -/
import Derived.Test.YtojekkfmnnoabaaTexT
set_option linter.unusedSimpArgs false
set_option linter.unusedVariables false
set_option linter.defProp false
namespace Go.Rex
open Go.RowKit
/-! ### a list of one's own is frozen at a loop's end; a store at any index of an array of ints -/
theorem wf (n : Nat) {tm tm2 : List TV} {hp hp2 : List TB} {b : TB} {s : TS} (hb : hp[n]? = some b) (hl : lfB b = true) (ht : tm.map (frz n b 4) = tm2) (hh2 : (hp.map (frzB n b)).set n .dead = hp2) (hq : Wk ⟨tm2, hp2⟩ s) : Wk ⟨tm, hp⟩ s := by
  subst ht hh2
  exact Wk.trans (Wk.freeze (s := ⟨tm, hp⟩) n hb hl) hq
def updI (iv y : Int) : Nat → List Int → List Int
  | _, [] => []
  | j, a :: t => (if iv = (j : Int) then y else a) :: updI iv y (j + 1) t
theorem updI_length (iv y : Int) : ∀ (l : List Int) j, (updI iv y j l).length = l.length
  | [], _ => rfl
  | a :: t, j => by simp [updI, updI_length iv y t (j + 1)]
theorem updI_none {iv y : Int} : ∀ (l : List Int) j, (∀ k, k < l.length → iv ≠ ((j + k : Nat) : Int)) → updI iv y j l = l
  | [], _, _ => rfl
  | a :: t, j, h => by
    rw [updI, if_neg (by have := h 0 (by simp); simpa using this), updI_none t (j + 1) (fun k hk => by
      have := h (k + 1) (by simp; omega)
      rwa [show j + (k + 1) = j + 1 + k by omega] at this)]
theorem updI_set {iv y : Int} : ∀ (l : List Int) j n, iv = ((j + n : Nat) : Int) → n < l.length → updI iv y j l = l.set n y
  | [], _, n, _, h => by simp at h
  | a :: t, j, 0, h, _ => by
    rw [updI, if_pos (by simpa using h), updI_none t (j + 1) (fun k _ => by omega)]
    rfl
  | a :: t, j, n + 1, h, hl => by
    rw [updI, if_neg (by omega), updI_set t (j + 1) n (by omega) (by simp at hl; omega)]
    rfl
theorem splice_set {row : List TV} {p : TV} : ∀ {n : Nat}, n < row.length → tsplice row n [p] = row.set n p := by
  intro n h
  unfold tsplice
  rw [List.set_eq_take_append_cons_drop, if_pos h]
  simp
theorem part_field {α : Type} {f : α → List TV} {xs : List α} {u : α} {es k fo : Nat} {P : Program} {p : TV} {t : TypeId} (hf : ∀ a, (f a).length = es) (hk : xs[k]? = some u) (hp : partT P t (f u) fo = some p) : partT P t ((xs.map f).flatten) (k * es + fo) = some p := by
  obtain ⟨h1, h2⟩ := flat_get hf hk
  unfold partT at hp ⊢
  split at hp
  · rename_i ha
    split at hp
    · rename_i hc
      obtain ⟨ho, hle⟩ := hc
      rw [hf] at hle
      obtain rfl := Option.some.inj hp
      rw [if_pos ⟨ho, by omega⟩, ← h1, List.drop_take, List.take_take, List.drop_drop, Nat.min_eq_left (by omega)]
    · cases hp
  · have hlt := (List.getElem?_eq_some_iff.1 hp).1
    rw [hf] at hlt
    rw [← h1, List.getElem?_take, if_pos hlt, List.getElem?_drop] at hp
    exact hp
  · cases hp
theorem ldf_ok {α : Type} {f : α → List TV} {xs : List α} {u : α} {es fo off : Nat} {P : Program} {hp : List TB} {p : TV} {t : TypeId} {iv : Int} {row : List TV} {vb : Bool} (hg : getI xs iv = some u) (hc : row = (xs.map f).flatten) (hf : ∀ a, (f a).length = es) (hoff : off = 0 + iv.toNat * es + fo) (hpp : partT P t (f u) fo = some p) : tload P hp t (.fptr vb row off) = some p := by
  subst hoff hc
  simp only [tload, rowOf, Nat.zero_add]
  exact part_field hf (getI_at hg) hpp
section
variable {C : Ctx} {P : Program} {ops : Array Oper} {rest : List Oper} {tm tm2 : List TV} {hp hp2 : List TB} {Q : TS → Prop} {o : Oper}
variable {dst : Option Tmp} {ty : TypeId} {pos : String} {aft : Array Edge} {gd : Option (Nat × Bool)} {p q : TV} {ms : List Nat} {i : Nat} {np : List Nat} {c : Bool}
theorem sxV {kk : IntKind} {l : List Int} {iv y : Int} {row2 : List TV} {t : TypeId} {a x : Operand} {n es : Nat} {l0 : List Int} (hg : 0 ≤ iv ∧ iv < (l0.length : Int)) (hl0 : l0.length = l.length) (ha : tev tm a = .lptr n 0 (0 + iv.toNat * es)) (hx : tev tm x = .v (.int kk y)) (hes : es = 1) (hb : hp[n]? = some (.var (l.map fun z => .v (.int kk z)))) (ht : okT P t = true) (hc : P.cellsOf t = 1) (hv : (updI iv y 0 l).map (fun z => .v (.int kk z)) = row2) :
    OpW C P { dst := none, op := .store t a x, type := ty, pos := pos, after := aft, guard := gd } ⟨tm, hp⟩ ⟨tm, hp.set n (.var row2)⟩ := by
  subst hv hes
  obtain ⟨h1, h2⟩ := hg
  rw [hl0] at h2
  refine stV ha hx rfl rfl hb ht (by rw [hc]; rfl) rfl (Nat.ble_eq_true_of_le (by simp [tcells]; omega)) ?_
  rw [Nat.zero_add, Nat.mul_one, show tcells (TV.v (.int kk y)) = [.v (.int kk y)] from rfl, splice_set (by simp; omega), updI_set (n := iv.toNat) l 0 (by omega) (by omega), List.map_set]
theorem TO.sx (kk : IntKind) (l : List Int) {iv y : Int} {row2 : List TV} {t : TypeId} {a x : Operand} {n es : Nat} {l0 : List Int} (hg : 0 ≤ iv ∧ iv < (l0.length : Int)) (hl0 : l0.length = l.length) (hw : twant ops tm { dst := none, op := .store t a x, type := ty, pos := pos, after := aft, guard := gd } = some true) (ha : tev tm a = .lptr n 0 (0 + iv.toNat * es)) (hx : tev tm x = .v (.int kk y)) (hes : es = 1) (hb : hp[n]? = some (.var (l.map fun z => .v (.int kk z)))) (ht : okT P t = true) (hc : P.cellsOf t = 1) (hv : (updI iv y 0 l).map (fun z => .v (.int kk z)) = row2)
    (hh2 : hp.set n (.var row2) = hp2) (hq : TO C P ops rest ⟨tm, hp2⟩ Q) : TO C P ops ({ dst := none, op := .store t a x, type := ty, pos := pos, after := aft, guard := gd } :: rest) ⟨tm, hp⟩ Q := by
  subst hh2; exact TO.w hw (sxV hg hl0 ha hx hes hb ht hc hv) hq
theorem TD.sx (kk : IntKind) (l : List Int) {iv y : Int} {row2 : List TV} {t : TypeId} {a x : Operand} {n es : Nat} {l0 : List Int} (hg : 0 ≤ iv ∧ iv < (l0.length : Int)) (hl0 : l0.length = l.length) (hw : twant ops tm { dst := none, op := .store t a x, type := ty, pos := pos, after := aft, guard := gd } = some true) (ha : tev tm a = .lptr n 0 (0 + iv.toNat * es)) (hx : tev tm x = .v (.int kk y)) (hes : es = 1) (hb : hp[n]? = some (.var (l.map fun z => .v (.int kk z)))) (ht : okT P t = true) (hc : P.cellsOf t = 1) (hv : (updI iv y 0 l).map (fun z => .v (.int kk z)) = row2)
    (hnp : np.all (fun j => (nthN ms i).testBit j) = true) (hh2 : hp.set n (.var row2) = hp2) (hq : TD C P ops ms rest (i + 1) (i :: np) true ⟨tm, hp2⟩ Q) : TD C P ops ms ({ dst := none, op := .store t a x, type := ty, pos := pos, after := aft, guard := gd } :: rest) i np c ⟨tm, hp⟩ Q := by
  subst hh2; exact TD.w hw (sxV hg hl0 ha hx hes hb ht hc hv) hnp hq
end
/-! ### arrays that are compared -/
theorem part_agg {P : Program} {t : TypeId} {cs : Array Value} {off n : Nat} {v : Value} (h : aggB P t = some true) (hs : prun P (sizeOf t) = some n) (hg : Value.agg (cs.extract off (off + n)) = v) : prun P (part t cs off) = some v := by
  subst hg
  unfold part
  rw [prun_bind, prun_isAgg h, Option.bind_some]
  simp only [if_true]
  rw [prun_bind, hs, Option.bind_some]
  rfl
inductive EqI (P : Program) (d : Nat) (X Y : Array Value) (e n : Nat) : Nat → List Bool → Prop
  | nil (i : Nat) : EqI P d X Y e n i []
  | cons {i : Nat} {b : Bool} {bs : List Bool} {u v : Value} (hu : prun P (part e X (i * n)) = some u) (hv : prun P (part e Y (i * n)) = some v) (he : prun P (Op.equalIn d e u v) = some b) (hr : EqI P d X Y e n (i + 1) bs) : EqI P d X Y e n i (b :: bs)
theorem eqi_loop {P : Program} {d : Nat} {X Y : Array Value} {e n : Nat} : ∀ (bs : List Bool) (i : Nat), EqI P d X Y e n i bs →
    prun P (forIn (List.range' i bs.length 1) ((none, ()) : Option Bool × Unit) fun i _ => do
      if !(← Op.equalIn d e (← part e X (i * n)) (← part e Y (i * n))) then pure (.done (some false, ())) else pure (.yield (none, ()))) = some (if bs.all id then (none, ()) else (some false, ()))
  | [], _, _ => rfl
  | b :: bs, i, .cons hu hv he hr => by
    rw [List.length_cons, List.range'_succ, List.forIn_cons, prun_bind]
    rw [prun_bind, hu, Option.bind_some, prun_bind, hv, Option.bind_some, prun_bind, he, Option.bind_some]
    cases b with
    | false => rfl
    | true =>
      simp only [Bool.not_true, Bool.false_eq_true, if_false, prun_pure, Option.bind_some, List.all_cons, id, Bool.true_and]
      exact eqi_loop bs (i + 1) hr
theorem eq_array {P : Program} {t : TypeId} {d len e n : Nat} {X Y : Array Value} {bs : List Bool} (ht : P.underlying t = some (.array len e)) (hs : prun P (sizeOf e) = some n) (hf : EqI P d X Y e n 0 bs) (hl : bs.length = len) : prun P (Op.equalIn (d + 1) t (.agg X) (.agg Y)) = some (bs.all id) := by
  subst hl
  unfold Op.equalIn
  rw [prun_bind, prun_under ht]
  simp only [Option.bind_some]
  rw [prun_bind, hs, Option.bind_some]
  simp only [Std.Legacy.Range.forIn_eq_forIn_range', Std.Legacy.Range.size, Nat.sub_zero, Nat.add_sub_cancel, Nat.div_one]
  rw [prun_bind, eqi_loop bs 0 hf, Option.bind_some]
  cases bs.all id <;> rfl
/-! ### a byte of a text -/
def strI (s : ByteArray) (i : Int) : Option Int := if 0 ≤ i then (s[i.toNat]?).map fun b => ((b.toNat : Nat) : Int) else none
section
variable {P : Program} {tm : List TV} {hp : List TB} {dst : Option Tmp} {ty : TypeId} {pos : String} {aft : Array Edge} {gd : Option (Nat × Bool)}
theorem pop_strix {t : TypeId} {x y : Operand} {s : ByteArray} {k : IntKind} {iv r : Int} (h : tev tm x = .v (.string s)) (g : tev tm y = .v (.int k iv)) (ht : P.underlying t = some .string) (hr : strI s iv = some r) : tpop P hp tm { dst := dst, op := .index t x y, type := ty, pos := pos, after := aft, guard := gd } = some (.v (.int .u8 r)) := by
  have h1 : tgen P tm { dst := dst, op := .index t x y, type := ty, pos := pos, after := aft, guard := gd } = some (.v (.int .u8 r)) := by
    refine tgen_run (v := .int .u8 r) ?_ (fun cs b e => by cases e) (by simpa [Op.operands] using ⟨some_v h, some_v g⟩) (by simp [Op.operands, erased_v h, erased_v g, isClean]; exact ⟨rfl, rfl⟩) ?_ rfl rfl
    · simp only [Rex.pop, erased_v h, erased_v g, indexV, ht, orGen]
    · show prun P ((Instr.index t (erased tm x) (erased tm y)) >>= fun r => (pure (Next.value r) : Sem Next)) = _
      rw [prun_bind, erased_v h, erased_v g]
      unfold Instr.index
      unfold strI at hr
      rw [prun_bind, show prun P (asIntOf (.int k iv)) = some (k, iv) from rfl, Option.bind_some]
      simp only
      rw [prun_bind, prun_under ht, Option.bind_some]
      simp only
      split at hr
      · rename_i hi
        simp only [hi, if_true]
        rw [Option.map_eq_some_iff] at hr
        obtain ⟨b, hb, rfl⟩ := hr
        rw [hb]
        rfl
      · cases hr
  simp only [tpop, h, g, tindex, arrayOf, ht, orT]
  exact h1
end
end Go.Rex
