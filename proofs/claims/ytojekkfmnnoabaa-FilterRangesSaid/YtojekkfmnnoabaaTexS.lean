/- An executor of the program's functions on trees of values, proved sound. -/
import Derived.Test.YtojekkfmnnoabaaTexR
set_option linter.unusedSimpArgs false
set_option linter.unusedVariables false
set_option linter.defProp false
namespace Go.Rex
open Go.RowKit
section
variable {P : Program} {tm : List TV} {hp : List TB}
variable {dst : Option Tmp} {ty : TypeId} {pos : String} {aft : Array Edge} {gd : Option (Nat × Bool)} {x y : Operand} {t u : TypeId}
/-! ### complex numbers -/
theorem prun_map {α β : Type} {s : Sem α} {f : α → β} : prun P (f <$> s) = (prun P s).map f := by
  show prun P (s >>= fun a => pure (f a)) = _
  rw [prun_bind]
  cases prun P s <;> rfl
theorem pop_carith {b : BinOp} {k : FloatKind} {a1 a2 d1 d2 r1 r2 : Nat} (h : tev tm x = .v (.complex k a1 a2)) (g : tev tm y = .v (.complex k d1 d2)) (hb : b = .add ∨ b = .sub) (h1 : farith b k a1 d1 = some r1) (h2 : farith b k a2 d2 = some r2) :
    tpop P hp tm { dst := dst, op := .binOp b t x y u, type := ty, pos := pos, after := aft, guard := gd } = some (.v (.complex k r1 r2)) := by
  refine bin_ok (r := .complex k r1 r2) h g ?_ rfl rfl (eqG_other ?_) ?_ rfl rfl
  · simp [fastBin]
  · rcases hb with rfl | rfl <;> exact ⟨by decide, by decide⟩
  · have key : ∀ (bb : BinOp) (hbb : bb = .add ∨ bb = .sub) (a d r : Nat), farith bb k a d = some r → prun P (Op.Complex.arith bb k a d) = some r := by
      intro bb hbb a d r hr
      rcases hbb with rfl | rfl <;> (simp only [farith] at hr; simp [Op.Complex.arith, Op.floatArith, hr, prun_bind]; rfl)
    have e1 := key b hb a1 d1 r1 h1
    have e2 := key b hb a2 d2 r2 h2
    rcases hb with rfl | rfl <;>
    · simp only [binOp, ne_eq, not_true_eq_false, if_false, Op.complexOp]
      rw [prun_bind, e1, Option.bind_some, prun_bind, e2]
      rfl
def ceq (k : FloatKind) (a1 a2 d1 d2 : Nat) : Bool := fcmp .eql k a1 d1 && fcmp .eql k a2 d2
theorem pop_ceq {b : BinOp} {k : FloatKind} {a1 a2 d1 d2 : Nat} (h : tev tm x = .v (.complex k a1 a2)) (g : tev tm y = .v (.complex k d1 d2)) (hb : b = .eql) :
    tpop P hp tm { dst := dst, op := .binOp b t x y u, type := ty, pos := pos, after := aft, guard := gd } = some (.v (.bool (ceq k a1 a2 d1 d2))) := by
  subst hb
  refine bin_ok (r := .bool (ceq k a1 a2 d1 d2)) h g rfl rfl rfl rfl ?_ rfl rfl
  simp only [binOp, ne_eq, not_true_eq_false, if_false, Op.complexOp]
  rfl
theorem pop_cne {b : BinOp} {k : FloatKind} {a1 a2 d1 d2 : Nat} (h : tev tm x = .v (.complex k a1 a2)) (g : tev tm y = .v (.complex k d1 d2)) (hb : b = .neq) :
    tpop P hp tm { dst := dst, op := .binOp b t x y u, type := ty, pos := pos, after := aft, guard := gd } = some (.v (.bool (!ceq k a1 a2 d1 d2))) := by
  subst hb
  refine bin_ok (r := .bool (!ceq k a1 a2 d1 d2)) h g rfl rfl rfl rfl ?_ rfl rfl
  simp only [binOp, ne_eq, not_true_eq_false, if_false, Op.complexOp]
  rfl
/-! ### structures that are equal -/
theorem prun_isAgg {g : Bool} (h : aggB P t = some g) : prun P (isAgg t) = some g := by
  unfold aggB at h
  unfold isAgg
  rw [prun_bind]
  split at h
  · rename_i hu; rw [prun_under hu]; exact h
  · rename_i hu; rw [prun_under hu]; exact h
  · rename_i d h1 h2 hu
    rw [prun_under hu, Option.bind_some]
    obtain rfl := Option.some.inj h
    split
    · exact absurd rfl (h1 _)
    · exact absurd rfl (h2 _ _)
    · rfl
  · cases h
theorem part_atom {cs : Array Value} {off : Nat} {v : Value} (h : aggB P t = some false) (hg : cs[off]? = some v) : prun P (part t cs off) = some v := by
  unfold part
  rw [prun_bind, prun_isAgg h, Option.bind_some]
  simp only [Bool.false_eq_true, if_false, hg]
  rfl
theorem eq_int {d : Nat} {k : IntKind} {a b : Int} (ht : P.underlying t = some (.int k)) : prun P (Op.equalIn (d + 1) t (.int k a) (.int k b)) = some (a == b) := by
  unfold Op.equalIn
  rw [prun_bind, prun_under ht]
  simp
  rfl
/-- field by field -/
inductive EqF (P : Program) (d : Nat) (X Y : Array Value) : List Field → List Bool → Prop
  | nil : EqF P d X Y [] []
  | cons {f : Field} {fs : List Field} {b : Bool} {bs : List Bool} {u v : Value} (hn : f.name ≠ "_") (hu : prun P (part f.type X f.offset) = some u) (hv : prun P (part f.type Y f.offset) = some v) (he : prun P (Op.equalIn d f.type u v) = some b) (hr : EqF P d X Y fs bs) : EqF P d X Y (f :: fs) (b :: bs)
theorem eq_loop {d : Nat} {X Y : Array Value} : ∀ (fs : List Field) (bs : List Bool), EqF P d X Y fs bs →
    prun P (forIn fs ((none, ()) : Option Bool × Unit) fun f _ => if f.name ≠ "_" then do
      if !(← Op.equalIn d f.type (← part f.type X f.offset) (← part f.type Y f.offset)) then pure (.done (some false, ())) else pure (.yield (none, ()))
      else pure (.yield (none, ()))) = some (if bs.all id then (none, ()) else (some false, ()))
  | [], [], .nil => rfl
  | f :: fs, b :: bs, .cons hn hu hv he hr => by
    rw [List.forIn_cons, prun_bind]
    simp only [hn, ne_eq, not_false_eq_true, if_true]
    rw [prun_bind, hu, Option.bind_some, prun_bind, hv, Option.bind_some, prun_bind, he, Option.bind_some]
    cases b with
    | false => rfl
    | true =>
      simp only [Bool.not_true, Bool.false_eq_true, if_false, prun_pure, Option.bind_some, List.all_cons, id, Bool.true_and]
      exact eq_loop fs bs hr
theorem eq_struct {d : Nat} {fields : Array Field} {X Y : Array Value} {bs : List Bool} (ht : P.underlying t = some (.struct fields)) (hs : P.stoodInHeld t = false) (hf : EqF P d X Y fields.toList bs) : prun P (Op.equalIn (d + 1) t (.agg X) (.agg Y)) = some (bs.all id) := by
  unfold Op.equalIn
  rw [prun_bind, prun_under ht]
  simp only [Option.bind_some]
  rw [prun_bind, show prun P program = some P from rfl, Option.bind_some]
  simp only [hs, Bool.false_eq_true, if_false]
  have := eq_loop fields.toList bs hf
  rw [prun_bind, ← Array.forIn_toList, this, Option.bind_some]
  cases bs.all id <;> rfl
theorem eq_guard {b : BinOp} {X Y : Array Value} (hg : P.eqGuardType P.depth t = false) : prun P (eqGuard b t x y (.agg X) (.agg Y)) = some () := by
  unfold eqGuard
  cases b <;> first | rfl | (simp only [Bool.not_true, Bool.false_eq_true, if_false]; rw [prun_bind, show prun P program = some P from rfl, Option.bind_some, prun_bind, show prun P program = some P from rfl, Option.bind_some]; simp only [hg, Bool.not_false, if_true]; rfl)
theorem eq_top {a b : Value} {r : Bool} (h : prun P (Op.equalIn (9999 + 1) t a b) = some r) : prun P (Op.equal t a b) = some r := h
theorem pop_eqs {b : BinOp} {p q : TV} {X Y : Array Value} {r : Bool} (h : tev tm x = p) (g : tev tm y = q) (hX : er 3 p = some (.agg X)) (hY : er 3 q = some (.agg Y)) (cX : isClean (.agg X) = true) (cY : isClean (.agg Y) = true) (hn : tbin b p q = none) (hg : P.eqGuardType P.depth t = false)
    (he : prun P (Op.equal t (.agg X) (.agg Y)) = some r) (hb : b = .eql ∨ b = .neq) :
    tpop P hp tm { dst := dst, op := .binOp b t x y u, type := ty, pos := pos, after := aft, guard := gd } = some (.v (.bool (if b = .eql then r else !r))) := by
  have ex : erased tm x = .agg X := by unfold erased; rw [h, hX]; rfl
  have ey : erased tm y = .agg Y := by unfold erased; rw [g, hY]; rfl
  have sx : (er 3 (tev tm x)).isSome = true := by rw [h, hX]; rfl
  have sy : (er 3 (tev tm y)).isSome = true := by rw [g, hY]; rfl
  have h1 : tgen P tm { dst := dst, op := .binOp b t x y u, type := ty, pos := pos, after := aft, guard := gd } = some (inj 3 (.bool (if b = .eql then r else !r))) := by
    refine tgen_run ?_ (fun cs b e => by cases e) (by simpa [Op.operands] using ⟨sx, sy⟩) (by simpa [Op.operands, ex, ey] using ⟨cX, cY⟩) ?_ rfl rfl
    · simp only [Rex.pop, ex, ey]
      rcases hb with rfl | rfl <;> rfl
    · show prun P ((eqGuard b t x y (erased tm x) (erased tm y) >>= fun _ => binOp b t (erased tm x) (erased tm y)) >>= fun r => (pure (Next.value r) : Sem Next)) = _
      rw [prun_bind, ex, ey, prun_bind, eq_guard hg, Option.bind_some]
      rcases hb with rfl | rfl
      · simp only [binOp, if_true]
        rw [prun_bind, he]
        rfl
      · simp only [binOp]
        rw [prun_bind, he]
        rfl
  simp only [tpop, h, g, hn, orT]
  exact h1
theorem pop_eqs1 {b : BinOp} {p q : TV} {X Y : Array Value} {r : Bool} (h : tev tm x = p) (g : tev tm y = q) (hX : er 3 p = some (.agg X)) (hY : er 3 q = some (.agg Y)) (cX : isClean (.agg X) = true) (cY : isClean (.agg Y) = true) (hn : tbin b p q = none) (hg : P.eqGuardType P.depth t = false)
    (he : prun P (Op.equal t (.agg X) (.agg Y)) = some r) (hb : b = .eql) :
    tpop P hp tm { dst := dst, op := .binOp b t x y u, type := ty, pos := pos, after := aft, guard := gd } = some (.v (.bool r)) := by
  subst hb
  exact pop_eqs h g hX hY cX cY hn hg he (.inl rfl)
theorem pop_eqs2 {b : BinOp} {p q : TV} {X Y : Array Value} {r : Bool} (h : tev tm x = p) (g : tev tm y = q) (hX : er 3 p = some (.agg X)) (hY : er 3 q = some (.agg Y)) (cX : isClean (.agg X) = true) (cY : isClean (.agg Y) = true) (hn : tbin b p q = none) (hg : P.eqGuardType P.depth t = false)
    (he : prun P (Op.equal t (.agg X) (.agg Y)) = some r) (hb : b = .neq) :
    tpop P hp tm { dst := dst, op := .binOp b t x y u, type := ty, pos := pos, after := aft, guard := gd } = some (.v (.bool (!r))) := by
  subst hb
  exact pop_eqs h g hX hY cX cY hn hg he (.inr rfl)
end
end Go.Rex
