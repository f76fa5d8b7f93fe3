/- An executor of the program's functions on trees of values, proved sound. -/
import Derived.Test.YtojekkfmnnoabaaRexT
set_option linter.unusedSimpArgs false
set_option linter.unusedVariables false
set_option linter.defProp false
namespace Go.Rex
open Go.RowKit
/-! ### builtins on values without names -/
theorem genP_max {P : Program} {ρ : Operand → Value} {d : Option Tmp} {x y : Operand} {tys : Array TypeId} {ty : TypeId} {pos : String} {aft : Array Edge} {gd : Option (Nat × Bool)} :
    genP P ρ { dst := d, op := .call { callee := .builtin .max, args := #[x, y], argTypes := tys }, type := ty, pos := pos, after := aft, guard := gd } = (match ρ x, ρ y with | .int k a, .int _ b => some (.int k (if b > a then b else a)) | _, _ => genS P ρ { dst := d, op := .call { callee := .builtin .max, args := #[x, y], argTypes := tys }, type := ty, pos := pos, after := aft, guard := gd }) := by
  split
  · rename_i k a k' b hx hy
    have h1 : ([x, y].all fun x => isClean (ρ x)) = true := by simp only [List.all_cons, List.all_nil, hx, hy]; rfl
    have h2 : prun P (execOp ρ { dst := d, op := .call { callee := .builtin .max, args := #[x, y], argTypes := tys }, type := ty, pos := pos, after := aft, guard := gd }) = some (.value (.int k (if b > a then b else a))) := by
      simp [execOp, resolve, invoke, hx, hy]
      rfl
    unfold genP
    simp only
    rw [show (Op.call { callee := .builtin .max, args := #[x, y], argTypes := tys }).operands.toList = [x, y] by simp [Op.operands, Call.operands], if_pos h1, h2]
    rfl
  · rfl
theorem genP_min {P : Program} {ρ : Operand → Value} {d : Option Tmp} {x y : Operand} {tys : Array TypeId} {ty : TypeId} {pos : String} {aft : Array Edge} {gd : Option (Nat × Bool)} :
    genP P ρ { dst := d, op := .call { callee := .builtin .min, args := #[x, y], argTypes := tys }, type := ty, pos := pos, after := aft, guard := gd } = (match ρ x, ρ y with | .int k a, .int _ b => some (.int k (if b < a then b else a)) | _, _ => genS P ρ { dst := d, op := .call { callee := .builtin .min, args := #[x, y], argTypes := tys }, type := ty, pos := pos, after := aft, guard := gd }) := by
  split
  · rename_i k a k' b hx hy
    have h1 : ([x, y].all fun x => isClean (ρ x)) = true := by simp only [List.all_cons, List.all_nil, hx, hy]; rfl
    have h2 : prun P (execOp ρ { dst := d, op := .call { callee := .builtin .min, args := #[x, y], argTypes := tys }, type := ty, pos := pos, after := aft, guard := gd }) = some (.value (.int k (if b < a then b else a))) := by
      simp [execOp, resolve, invoke, hx, hy]
      rfl
    unfold genP
    simp only
    rw [show (Op.call { callee := .builtin .min, args := #[x, y], argTypes := tys }).operands.toList = [x, y] by simp [Op.operands, Call.operands], if_pos h1, h2]
    rfl
  · rfl
theorem genP_complex {P : Program} {ρ : Operand → Value} {d : Option Tmp} {x y : Operand} {tys : Array TypeId} {ty : TypeId} {pos : String} {aft : Array Edge} {gd : Option (Nat × Bool)} :
    genP P ρ { dst := d, op := .call { callee := .builtin .complex, args := #[x, y], argTypes := tys }, type := ty, pos := pos, after := aft, guard := gd } = (match ρ x, ρ y with | .float .f32 a, .float .f32 b => some (.complex .f32 a b) | _, _ => genS P ρ { dst := d, op := .call { callee := .builtin .complex, args := #[x, y], argTypes := tys }, type := ty, pos := pos, after := aft, guard := gd }) := by
  split
  · rename_i a b hx hy
    have h1 : ([x, y].all fun x => isClean (ρ x)) = true := by simp only [List.all_cons, List.all_nil, hx, hy]; rfl
    have h2 : prun P (execOp ρ { dst := d, op := .call { callee := .builtin .complex, args := #[x, y], argTypes := tys }, type := ty, pos := pos, after := aft, guard := gd }) = some (.value (.complex .f32 a b)) := by
      simp [execOp, resolve, invoke, hx, hy]
      rfl
    unfold genP
    simp only
    rw [show (Op.call { callee := .builtin .complex, args := #[x, y], argTypes := tys }).operands.toList = [x, y] by simp [Op.operands, Call.operands], if_pos h1, h2]
    rfl
  · rfl
theorem genP_real {P : Program} {ρ : Operand → Value} {d : Option Tmp} {x : Operand} {tys : Array TypeId} {ty : TypeId} {pos : String} {aft : Array Edge} {gd : Option (Nat × Bool)} :
    genP P ρ { dst := d, op := .call { callee := .builtin .real, args := #[x], argTypes := tys }, type := ty, pos := pos, after := aft, guard := gd } = (match ρ x with | .complex k a _ => some (.float k a) | _ => genS P ρ { dst := d, op := .call { callee := .builtin .real, args := #[x], argTypes := tys }, type := ty, pos := pos, after := aft, guard := gd }) := by
  split
  · rename_i k a b hx
    have h1 : ([x].all fun x => isClean (ρ x)) = true := by simp only [List.all_cons, List.all_nil, hx]; rfl
    have h2 : prun P (execOp ρ { dst := d, op := .call { callee := .builtin .real, args := #[x], argTypes := tys }, type := ty, pos := pos, after := aft, guard := gd }) = some (.value (.float k a)) := by
      simp [execOp, resolve, invoke, hx]
      rfl
    unfold genP
    simp only
    rw [show (Op.call { callee := .builtin .real, args := #[x], argTypes := tys }).operands.toList = [x] by simp [Op.operands, Call.operands], if_pos h1, h2]
    rfl
  · rfl
theorem genP_imag {P : Program} {ρ : Operand → Value} {d : Option Tmp} {x : Operand} {tys : Array TypeId} {ty : TypeId} {pos : String} {aft : Array Edge} {gd : Option (Nat × Bool)} :
    genP P ρ { dst := d, op := .call { callee := .builtin .imag, args := #[x], argTypes := tys }, type := ty, pos := pos, after := aft, guard := gd } = (match ρ x with | .complex k _ b => some (.float k b) | _ => genS P ρ { dst := d, op := .call { callee := .builtin .imag, args := #[x], argTypes := tys }, type := ty, pos := pos, after := aft, guard := gd }) := by
  split
  · rename_i k a b hx
    have h1 : ([x].all fun x => isClean (ρ x)) = true := by simp only [List.all_cons, List.all_nil, hx]; rfl
    have h2 : prun P (execOp ρ { dst := d, op := .call { callee := .builtin .imag, args := #[x], argTypes := tys }, type := ty, pos := pos, after := aft, guard := gd }) = some (.value (.float k b)) := by
      simp [execOp, resolve, invoke, hx]
      rfl
    unfold genP
    simp only
    rw [show (Op.call { callee := .builtin .imag, args := #[x], argTypes := tys }).operands.toList = [x] by simp [Op.operands, Call.operands], if_pos h1, h2]
    rfl
  · rfl
end Go.Rex
