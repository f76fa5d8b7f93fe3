/- An executor of the program's functions on trees of values, proved sound. -/
import Derived.Test.YtojekkfmnnoabaaTexP
set_option linter.unusedSimpArgs false
set_option linter.unusedVariables false
set_option linter.defProp false
namespace Go.Rex
open Go.RowKit
theorem z3 : (∀ (α : Type) (a b : α) (l : List α), (a :: l).set 0 b = b :: l) ∧ (∀ (α : Type) (a b : α) (l : List α) (n : Nat), (a :: l).set (n + 1) b = a :: l.set n b) ∧ (∀ (α : Type) (a : α) (l : List α), (a :: l)[0]? = some a) ∧ (∀ (α : Type) (a : α) (l : List α) (n : Nat), (a :: l)[n + 1]? = l[n]?) ∧
    (∀ (α β : Type) (f : α → β) (a : α) (l : List α), (a :: l).map f = f a :: l.map f) ∧ (∀ (α β : Type) (f : α → β), ([] : List α).map f = []) ∧ (∀ (α : Type) (a : α) (l m : List α), (a :: l) ++ m = a :: (l ++ m)) ∧ (∀ (α : Type) (l : List α), [] ++ l = l) ∧ (∀ (α : Type) (a : α) (l : List α), (a :: l).length = l.length + 1) ∧ (∀ (α : Type), ([] : List α).length = 0) ∧
    (∀ (α : Type) (l : List α), l.drop 0 = l) ∧ (∀ (α : Type) (a : α) (l : List α) (n : Nat), (a :: l).drop (n + 1) = l.drop n) ∧ (∀ (α : Type) (n : Nat), ([] : List α).drop n = []) ∧ (∀ (α : Type) (l : List α), l.take 0 = []) ∧ (∀ (α : Type) (a : α) (l : List α) (n : Nat), (a :: l).take (n + 1) = a :: l.take n) ∧ (∀ (α : Type) (n : Nat), ([] : List α).take n = []) ∧
    (∀ (α β : Type) (f : α → β) (a : α), (some a).map f = some (f a)) ∧ (∀ (α β : Type) (f : α → β) (l : List α), (l.map f).length = l.length) :=
  ⟨fun _ _ _ _ => rfl, fun _ _ _ _ _ => rfl, fun _ _ _ => rfl, fun _ _ _ _ => rfl, fun _ _ _ _ _ => rfl, fun _ _ _ => rfl, fun _ _ _ _ => rfl, fun _ _ => rfl, fun _ _ _ => rfl, fun _ => rfl, fun _ _ => rfl, fun _ _ _ _ => rfl, fun _ n => by cases n <;> rfl, fun _ _ => rfl, fun _ _ _ _ => rfl, fun _ n => by cases n <;> rfl, fun _ _ _ _ => rfl, fun _ _ _ _ => List.length_map _⟩
theorem z4 : (∀ l, tcells (.agg l) = l) ∧ (∀ x, tcells (.v x) = [.v x]) ∧ (∀ a b, tcells (.list a b) = [.list a b]) ∧ (∀ a b c, tcells (.func a b c) = [.func a b c]) ∧ (∀ v a b, tcells (.fptr v a b) = [.fptr v a b]) ∧ (∀ a b c, tcells (.lptr a b c) = [.lptr a b c]) ∧ (∀ a b c, tcells (.lsl a b c) = [.lsl a b c]) ∧
    (∀ l, isJunk (.agg l) = false) ∧ (∀ x, isJunk (.v x) = false) ∧ (∀ a b, isJunk (.list a b) = false) ∧ (∀ a b c, isJunk (.func a b c) = false) ∧ (∀ v a b, isJunk (.fptr v a b) = false) ∧ (∀ a b c, isJunk (.lptr a b c) = false) ∧ (∀ a b c, isJunk (.lsl a b c) = false) ∧
    (∀ a b, tpick (.v (.bool true)) a b = some a) ∧ (∀ a b, tpick (.v (.bool false)) a b = some b) ∧ (∀ ops tm dst op ty pos aft, twant ops tm { dst := dst, op := op, type := ty, pos := pos, after := aft, guard := none } = some true) ∧ (∀ (c : List TV) o l, tsplice c o l = c.take o ++ l ++ c.drop (o + l.length)) ∧
    (∀ tm, tput tm none = fun _ => tm) :=
  ⟨fun _ => rfl, fun _ => rfl, fun _ _ => rfl, fun _ _ _ => rfl, fun _ _ _ => rfl, fun _ _ _ => rfl, fun _ _ _ => rfl, fun _ => rfl, fun _ => rfl, fun _ _ => rfl, fun _ _ _ => rfl, fun _ _ _ => rfl, fun _ _ _ => rfl, fun _ _ _ => rfl, fun _ _ => rfl, fun _ _ => rfl, fun _ _ _ _ _ _ _ => rfl, fun _ _ _ => rfl, fun _ => rfl⟩
end Go.Rex
namespace Go.Rex
theorem z5 : (∀ r, tidx r 0 = r[0]?) ∧ (∀ r, tidx r 1 = r[1]?) ∧ (∀ r, tidx r 2 = r[2]?) ∧ (∀ r, tidx r 3 = r[3]?) ∧ (∀ r, tidx r 4 = r[4]?) ∧ (∀ r, tidx r 5 = r[5]?) ∧ (∀ r, tidx r 6 = r[6]?) ∧ (∀ r, tidx r 7 = r[7]?) ∧ (∀ r, tidx r 8 = r[8]?) ∧ (∀ r, tidx r 9 = r[9]?) := by
  refine ⟨?_, ?_, ?_, ?_, ?_, ?_, ?_, ?_, ?_, ?_⟩ <;> (intro r; rfl)
example : (0 : Int) < ((2 : Nat) : Int) := by simp only [Int.cast_ofNat_Int, Int.reduceLT]
end Go.Rex
namespace Go.Rex
theorem tml {α β : Type} {f : α → β} {xs : List α} : (xs.map f).take xs.length = xs.map f := List.take_of_length_le (by simp)
end Go.Rex
