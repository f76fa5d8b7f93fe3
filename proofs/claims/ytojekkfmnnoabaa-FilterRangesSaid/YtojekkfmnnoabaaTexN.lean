/- An executor of the program's functions on trees of values, proved sound. -/
import Derived.Test.YtojekkfmnnoabaaTexM
set_option linter.unusedSimpArgs false
set_option linter.unusedVariables false
set_option linter.defProp false
namespace Go.Rex
open Go.RowKit
section
variable {P : Program} {tm : List TV} {hp : List TB}
variable {dst : Option Tmp} {ty : TypeId} {pos : String} {aft : Array Edge} {gd : Option (Nat × Bool)} {x y : Operand} {t u : TypeId} {tys : List TypeId}
/-! ### operations on values without names -/
theorem tgen_of {o : Oper} {v : Value} (ha : o.op.operands.toList.all (fun x => (er 3 (tev tm x)).isSome) = true) (hv : Rex.pop P (erased tm) o = some v) (hi : injOk 3 v = true) : tgen P tm o = some (inj 3 v) := by
  unfold tgen
  rw [if_pos ha, hv]
  simp only
  rw [if_pos hi]
theorem er_v {a : Value} : er 3 (.v a) = some a := rfl
theorem erased_v {a : Value} (h : tev tm x = .v a) : erased tm x = a := by unfold erased; rw [h]; rfl
theorem some_v {a : Value} (h : tev tm x = .v a) : (er 3 (tev tm x)).isSome = true := by rw [h]; rfl
theorem pop_not {b : Bool} (h : tev tm x = .v (.bool b)) : tpop P hp tm { dst := dst, op := .unOp .not t x, type := ty, pos := pos, after := aft, guard := gd } = some (.v (.bool (!b))) := by
  have : tgen P tm { dst := dst, op := .unOp .not t x, type := ty, pos := pos, after := aft, guard := gd } = some (inj 3 (.bool (!b))) :=
    tgen_of (by simp [Op.operands, some_v h]) (by simp only [Rex.pop, genP_not, erased_v h]) rfl
  exact this
theorem pop_neg {k : IntKind} {n : Int} (h : tev tm x = .v (.int k n)) : tpop P hp tm { dst := dst, op := .unOp .neg t x, type := ty, pos := pos, after := aft, guard := gd } = some (.v (.int k (k.wrap (0 - n)))) := by
  have : tgen P tm { dst := dst, op := .unOp .neg t x, type := ty, pos := pos, after := aft, guard := gd } = some (inj 3 (.int k (k.wrap (0 - n)))) :=
    tgen_of (by simp [Op.operands, some_v h]) (by simp only [Rex.pop, genP_neg, erased_v h]) rfl
  exact this
theorem all1 {v : Value} (h : tev tm x = .v v) : ([x].all fun x => (er 3 (tev tm x)).isSome) = true := by simp [some_v h]
theorem all2 {v w : Value} (h : tev tm x = .v v) (g : tev tm y = .v w) : ([x, y].all fun x => (er 3 (tev tm x)).isSome) = true := by simp [some_v h, some_v g]
theorem pop_real {k : FloatKind} {a b : Nat} (h : tev tm x = .v (.complex k a b)) : tpop P hp tm { dst := dst, op := .call { callee := .builtin .real, args := #[x], argTypes := ⟨tys⟩ }, type := ty, pos := pos, after := aft, guard := gd } = some (.v (.float k a)) := by
  have : tgen P tm { dst := dst, op := .call { callee := .builtin .real, args := #[x], argTypes := ⟨tys⟩ }, type := ty, pos := pos, after := aft, guard := gd } = some (inj 3 (.float k a)) :=
    tgen_of (by simpa [Op.operands, Call.operands] using some_v h) (by
      simp only [Rex.pop, bpop]; rw [if_neg (by decide), genP_real, erased_v h]) rfl
  exact this
theorem pop_imag {k : FloatKind} {a b : Nat} (h : tev tm x = .v (.complex k a b)) : tpop P hp tm { dst := dst, op := .call { callee := .builtin .imag, args := #[x], argTypes := ⟨tys⟩ }, type := ty, pos := pos, after := aft, guard := gd } = some (.v (.float k b)) := by
  have : tgen P tm { dst := dst, op := .call { callee := .builtin .imag, args := #[x], argTypes := ⟨tys⟩ }, type := ty, pos := pos, after := aft, guard := gd } = some (inj 3 (.float k b)) :=
    tgen_of (by simpa [Op.operands, Call.operands] using some_v h) (by
      simp only [Rex.pop, bpop]; rw [if_neg (by decide), genP_imag, erased_v h]) rfl
  exact this
theorem pop_complex {a b : Nat} (h : tev tm x = .v (.float .f32 a)) (g : tev tm y = .v (.float .f32 b)) : tpop P hp tm { dst := dst, op := .call { callee := .builtin .complex, args := #[x, y], argTypes := ⟨tys⟩ }, type := ty, pos := pos, after := aft, guard := gd } = some (.v (.complex .f32 a b)) := by
  have : tgen P tm { dst := dst, op := .call { callee := .builtin .complex, args := #[x, y], argTypes := ⟨tys⟩ }, type := ty, pos := pos, after := aft, guard := gd } = some (inj 3 (.complex .f32 a b)) :=
    tgen_of (by simpa [Op.operands, Call.operands] using ⟨some_v h, some_v g⟩) (by
      simp only [Rex.pop, bpop]; rw [if_neg (by decide), genP_complex, erased_v h, erased_v g]) rfl
  exact this
theorem pop_max {k k' : IntKind} {a b : Int} (h : tev tm x = .v (.int k a)) (g : tev tm y = .v (.int k' b)) : tpop P hp tm { dst := dst, op := .call { callee := .builtin .max, args := #[x, y], argTypes := ⟨tys⟩ }, type := ty, pos := pos, after := aft, guard := gd } = some (.v (.int k (if b > a then b else a))) := by
  have : tgen P tm { dst := dst, op := .call { callee := .builtin .max, args := #[x, y], argTypes := ⟨tys⟩ }, type := ty, pos := pos, after := aft, guard := gd } = some (inj 3 (.int k (if b > a then b else a))) :=
    tgen_of (by simpa [Op.operands, Call.operands] using ⟨some_v h, some_v g⟩) (by
      simp only [Rex.pop, bpop]; rw [if_neg (by decide), genP_max, erased_v h, erased_v g]) rfl
  exact this
theorem pop_min {k k' : IntKind} {a b : Int} (h : tev tm x = .v (.int k a)) (g : tev tm y = .v (.int k' b)) : tpop P hp tm { dst := dst, op := .call { callee := .builtin .min, args := #[x, y], argTypes := ⟨tys⟩ }, type := ty, pos := pos, after := aft, guard := gd } = some (.v (.int k (if b < a then b else a))) := by
  have : tgen P tm { dst := dst, op := .call { callee := .builtin .min, args := #[x, y], argTypes := ⟨tys⟩ }, type := ty, pos := pos, after := aft, guard := gd } = some (inj 3 (.int k (if b < a then b else a))) :=
    tgen_of (by simpa [Op.operands, Call.operands] using ⟨some_v h, some_v g⟩) (by
      simp only [Rex.pop, bpop]; rw [if_neg (by decide), genP_min, erased_v h, erased_v g]) rfl
  exact this
/-- from the model itself -/
theorem tgen_run {o : Oper} {v : Value} (hp0 : Rex.pop P (erased tm) o = genP P (erased tm) o) (hsel : ∀ cs b, o.op ≠ .select cs b) (ha : o.op.operands.toList.all (fun x => (er 3 (tev tm x)).isSome) = true) (hc : o.op.operands.toList.all (fun x => isClean (erased tm x)) = true)
    (hv : prun P (execOp (erased tm) o) = some (.value v)) (hi : injOk 3 v = true) (hcv : isClean v = true) : tgen P tm o = some (inj 3 v) := by
  refine tgen_of ha ?_ hi
  rw [hp0]
  unfold genP
  split
  · rename_i cs b e; exact absurd e (hsel _ _)
  · rw [if_pos hc, hv]
    simp only
    rw [if_pos hcv]
theorem prun_bind {α β : Type} {s : Sem α} {f : α → Sem β} : prun P (s >>= f) = (prun P s).bind fun a => prun P (f a) := by
  induction s with
  | pure a => rfl
  | program k ih => exact ih _
  | mark m k ih => exact ih
  | _ => rfl
theorem prun_pure {α : Type} {a : α} : prun P (pure a : Sem α) = some a := rfl
theorem prun_under {t : TypeId} {d : TypeDesc} (h : P.underlying t = some d) : prun P (underlying t) = some d := by
  unfold underlying
  rw [prun_bind]
  show prun P (match P.underlying t with | some d => pure d | none => stuck "no such type") = some d
  rw [h]
  rfl
theorem cvt_ok {v w : Value} (h : tev tm x = .v v) (hc : isClean v = true) (hw : prun P (convert t u v) = some w) (hi : injOk 3 w = true) (hcw : isClean w = true) : tpop P hp tm { dst := dst, op := .convert t u x, type := ty, pos := pos, after := aft, guard := gd } = some (inj 3 w) := by
  have : tgen P tm { dst := dst, op := .convert t u x, type := ty, pos := pos, after := aft, guard := gd } = some (inj 3 w) := by
    refine tgen_run rfl (fun cs b e => by cases e) (by simpa [Op.operands] using some_v h) (by simpa [Op.operands, erased_v h] using hc) ?_ hi hcw
    show prun P (convert t u (erased tm x) >>= fun r => (pure (Next.value r) : Sem Next)) = _
    rw [prun_bind, erased_v h, hw]
    rfl
  exact this
theorem cvt_int_float {k ks : IntKind} {kd : FloatKind} {n : Int} (hs : P.underlying t = some (.int ks)) (hd : P.underlying u = some (.float kd)) (h : tev tm x = .v (.int k n)) : tpop P hp tm { dst := dst, op := .convert t u x, type := ty, pos := pos, after := aft, guard := gd } = some (.v (.float kd (kd.nearest n))) := by
  refine cvt_ok (w := .float kd (kd.nearest n)) h rfl ?_ rfl rfl
  unfold convert
  rw [prun_bind, prun_under hs, Option.bind_some, prun_bind, prun_under hd, Option.bind_some]
  rfl
theorem cvt_int_int {k ks kd : IntKind} {n : Int} (hs : P.underlying t = some (.int ks)) (hd : P.underlying u = some (.int kd)) (h : tev tm x = .v (.int k n)) : tpop P hp tm { dst := dst, op := .convert t u x, type := ty, pos := pos, after := aft, guard := gd } = some (.v (.int kd (kd.wrap n))) := by
  refine cvt_ok (w := .int kd (kd.wrap n)) h rfl ?_ rfl rfl
  unfold convert
  rw [prun_bind, prun_under hs, Option.bind_some, prun_bind, prun_under hd, Option.bind_some]
  rfl
/-- a float as a float of another size; nothing if it draws -/
def f2f (s : FloatKind) (b : Nat) (d : FloatKind) : Option Nat :=
  if s = d then some b else match s.decode b with
  | .nan _ _ => none
  | .infinity sg => some (d.encode (.infinity sg))
  | .number sg m e => if (d.decode (d.encode (.number sg m e))).isInfinity = true then none else some (d.encode (.number sg m e))
theorem cvt_float_float {k ks kd : FloatKind} {b r : Nat} (hs : P.underlying t = some (.float ks)) (hd : P.underlying u = some (.float kd)) (h : tev tm x = .v (.float k b)) (hr : f2f k b kd = some r) : tpop P hp tm { dst := dst, op := .convert t u x, type := ty, pos := pos, after := aft, guard := gd } = some (.v (.float kd r)) := by
  refine cvt_ok (w := .float kd r) h rfl ?_ rfl rfl
  unfold convert
  rw [prun_bind, prun_under hs, Option.bind_some, prun_bind, prun_under hd, Option.bind_some]
  show prun P (Conv.floatToFloat k b kd) = _
  unfold Conv.floatToFloat
  unfold f2f at hr
  split at hr
  · rename_i e; rw [if_pos e]; obtain rfl := Option.some.inj hr; rfl
  · rename_i e
    rw [if_neg e]
    split at hr
    · cases hr
    · rename_i hd; obtain rfl := Option.some.inj hr; simp only [hd]; rfl
    · rename_i hd
      simp only [hd]
      split at hr
      · cases hr
      · rename_i hi
        obtain rfl := Option.some.inj hr
        rw [if_neg hi]
        rfl
/-- a float as a whole number; nothing if it draws -/
def f2i (s : FloatKind) (b : Nat) (d : IntKind) : Option Int :=
  match (s.decode b).toInt .zero with
  | some n => if d.min ≤ n ∧ n ≤ d.max then some n else none
  | none => none
theorem cvt_float_int {k ks : FloatKind} {kd : IntKind} {b : Nat} {r : Int} (hs : P.underlying t = some (.float ks)) (hd : P.underlying u = some (.int kd)) (h : tev tm x = .v (.float k b)) (hr : f2i k b kd = some r) : tpop P hp tm { dst := dst, op := .convert t u x, type := ty, pos := pos, after := aft, guard := gd } = some (.v (.int kd r)) := by
  refine cvt_ok (w := .int kd r) h rfl ?_ rfl rfl
  unfold convert
  rw [prun_bind, prun_under hs, Option.bind_some, prun_bind, prun_under hd, Option.bind_some]
  show prun P (Conv.floatToInt k b kd) = _
  unfold Conv.floatToInt
  unfold f2i at hr
  split at hr
  · rename_i n hn
    split at hr
    · rename_i hc
      obtain rfl := Option.some.inj hr
      simp only [hn]
      rw [if_pos hc]
      rfl
    · cases hr
  · cases hr
theorem cvt_complex {k kd ks : FloatKind} {a b r i : Nat} (hs : P.underlying t = some (.complex ks)) (hd : P.underlying u = some (.complex kd)) (h : tev tm x = .v (.complex k a b)) (hr : f2f k a kd = some r) (hi : f2f k b kd = some i) : tpop P hp tm { dst := dst, op := .convert t u x, type := ty, pos := pos, after := aft, guard := gd } = some (.v (.complex kd r i)) := by
  have key : ∀ {a r}, f2f k a kd = some r → prun P (Conv.floatToFloat k a kd) = some (.float kd r) := by
    intro a r hr
    unfold Conv.floatToFloat
    unfold f2f at hr
    split at hr
    · rename_i e; rw [if_pos e]; obtain rfl := Option.some.inj hr; rfl
    · rename_i e
      rw [if_neg e]
      split at hr
      · cases hr
      · rename_i hd; obtain rfl := Option.some.inj hr; simp only [hd]; rfl
      · rename_i hd
        simp only [hd]
        split at hr
        · cases hr
        · rename_i hi
          obtain rfl := Option.some.inj hr
          rw [if_neg hi]
          rfl
  refine cvt_ok (w := .complex kd r i) h rfl ?_ rfl rfl
  unfold convert
  rw [prun_bind, prun_under hs, Option.bind_some, prun_bind, prun_under hd, Option.bind_some]
  show prun P (Conv.complexToComplex k a b kd) = _
  unfold Conv.complexToComplex
  rw [prun_bind, key hr, Option.bind_some]
  simp only
  rw [prun_bind, key hi, Option.bind_some]
  rfl
/-- operators on bits -/
def bitI (op : BinOp) (k : IntKind) (a b : Int) : Int :=
  let x := BitVec.ofInt k.bits a
  let y := BitVec.ofInt k.bits b
  match op with
  | .and => k.wrap (x &&& y).toNat
  | .or => k.wrap (x ||| y).toNat
  | .xor => k.wrap (x ^^^ y).toNat
  | _ => k.wrap (x &&& ~~~y).toNat
def shI (op : BinOp) (k : IntKind) (a b : Int) : Option Int :=
  if b < 0 then none else match op with
  | .shl => some (k.wrap (a * 2 ^ (min b.toNat k.bits)))
  | _ => some (a.fdiv (2 ^ (min b.toNat k.bits)))
theorem bin_ok {b : BinOp} {v w r : Value} (h : tev tm x = .v v) (g : tev tm y = .v w) (hf : fastBin b v w = none) (hc : isClean v = true) (hd : isClean w = true) (he : prun P (eqGuard b t x y v w) = some ()) (hw : prun P (binOp b t v w) = some r) (hi : injOk 3 r = true) (hcr : isClean r = true) :
    tpop P hp tm { dst := dst, op := .binOp b t x y u, type := ty, pos := pos, after := aft, guard := gd } = some (inj 3 r) := by
  have h1 : tgen P tm { dst := dst, op := .binOp b t x y u, type := ty, pos := pos, after := aft, guard := gd } = some (inj 3 r) := by
    refine tgen_run ?_ (fun cs b e => by cases e) (by simpa [Op.operands] using ⟨some_v h, some_v g⟩) (by simpa [Op.operands, erased_v h, erased_v g] using ⟨hc, hd⟩) ?_ hi hcr
    · simp only [Rex.pop, erased_v h, erased_v g, hf, orGen]
    · show prun P ((eqGuard b t x y (erased tm x) (erased tm y) >>= fun _ => binOp b t (erased tm x) (erased tm y)) >>= fun r => (pure (Next.value r) : Sem Next)) = _
      rw [prun_bind, erased_v h, erased_v g, prun_bind, he, Option.bind_some, hw]
      rfl
  simp only [tpop, h, g, tbin, hf, Option.map_none, orT]
  exact h1
theorem eqG_other {b : BinOp} {v w : Value} (hb : b ≠ .eql ∧ b ≠ .neq) : prun P (eqGuard b t x y v w) = some () := by
  cases b <;> first | rfl | exact absurd rfl hb.1 | exact absurd rfl hb.2
theorem pop_bits {b : BinOp} {k : IntKind} {a d : Int} (h : tev tm x = .v (.int k a)) (g : tev tm y = .v (.int k d)) (hb : b = .and ∨ b = .or ∨ b = .xor ∨ b = .andNot) : tpop P hp tm { dst := dst, op := .binOp b t x y u, type := ty, pos := pos, after := aft, guard := gd } = some (.v (.int k (bitI b k a d))) := by
  refine bin_ok (r := .int k (bitI b k a d)) h g ?_ rfl rfl (eqG_other ?_) ?_ rfl rfl
  · rcases hb with rfl | rfl | rfl | rfl <;> simp [fastBin]
  · rcases hb with rfl | rfl | rfl | rfl <;> exact ⟨by decide, by decide⟩
  · rcases hb with rfl | rfl | rfl | rfl <;> simp [binOp, Op.intBits, bitI] <;> rfl
theorem pop_shift {b : BinOp} {k k' : IntKind} {a d r : Int} (h : tev tm x = .v (.int k a)) (g : tev tm y = .v (.int k' d)) (hb : b = .shl ∨ b = .shr) (hr : shI b k a d = some r) : tpop P hp tm { dst := dst, op := .binOp b t x y u, type := ty, pos := pos, after := aft, guard := gd } = some (.v (.int k r)) := by
  unfold shI at hr
  split at hr
  · cases hr
  · rename_i hd
    refine bin_ok (r := .int k r) h g ?_ rfl rfl (eqG_other ?_) ?_ rfl rfl
    · rcases hb with rfl | rfl <;> simp [fastBin]
    · rcases hb with rfl | rfl <;> exact ⟨by decide, by decide⟩
    · rcases hb with rfl | rfl <;> (obtain rfl := Option.some.inj hr; simp only [binOp, Op.shift, if_neg hd]; rfl)
theorem pop_beq {v w : Bool} (h : tev tm x = .v (.bool v)) (g : tev tm y = .v (.bool w)) (ht : P.underlying t = some .bool) : tpop P hp tm { dst := dst, op := .binOp .eql t x y u, type := ty, pos := pos, after := aft, guard := gd } = some (.v (.bool (v == w))) ∧ tpop P hp tm { dst := dst, op := .binOp .neq t x y u, type := ty, pos := pos, after := aft, guard := gd } = some (.v (.bool (!(v == w)))) := by
  have he : prun P (Op.equal t (.bool v) (.bool w)) = some (v == w) := by
    show prun P (Op.equalIn _ t _ _) = _
    unfold Op.maxDepth Op.equalIn
    rw [prun_bind, prun_under ht]
    rfl
  constructor
  · refine bin_ok (r := .bool (v == w)) h g rfl rfl rfl ?_ ?_ rfl rfl
    · rfl
    · simp only [binOp]; rw [prun_bind, he]; rfl
  · refine bin_ok (r := .bool (!(v == w))) h g rfl rfl rfl ?_ ?_ rfl rfl
    · rfl
    · simp only [binOp]; rw [prun_bind, he]; rfl
end
end Go.Rex
