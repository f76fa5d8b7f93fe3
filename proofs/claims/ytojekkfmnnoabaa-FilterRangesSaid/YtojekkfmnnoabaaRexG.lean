/- An executor of the program's functions on trees of values, proved sound. -/
import Derived.Test.YtojekkfmnnoabaaRexF
set_option linter.unusedSimpArgs false
set_option linter.unusedVariables false
set_option linter.defProp false
namespace Go.Rex
open Go.RowKit

theorem notInt_parts {P : Program} {t : Option TypeId} (h : notInt P t = true) : t = none ∨ ∃ xt d, t = some xt ∧ P.underlying xt = some d ∧ (match d with | .int _ => true | _ => false) = false := by
  cases t with
  | none => exact .inl rfl
  | some t =>
    simp only [notInt] at h
    cases hu : P.underlying t with
    | none => rw [hu] at h; cases h
    | some d =>
      rw [hu] at h
      refine .inr ⟨t, d, rfl, hu, ?_⟩
      cases d <;> first | rfl | cases h

section
variable {P : Program} {argTypes : Array TypeId} {st e : TypeId} {i : TypeInfo} {ty : TypeId}

theorem append_in_run (h0 : argTypes[0]? = some st) (hu : P.underlying st = some (.slice e)) (hi : P.info? e = some i) (hn : notInt P argTypes[1]? = true) {base : Option Addr} {len cap n : Nat} {x : Value} {new : List Value} {w w' : World}
    (hl : (Builtin.lenOf x).run P w = .ok n w) (hc : (Builtin.firstCells i.size n x).run P w = .ok ⟨new⟩ w) (hle : len + n ≤ cap)
    (hs : (match base with | some a => storeCells (a.add (len * i.size)) new | none => pure ()).run P w = .ok () w') :
    (Builtin.append_ argTypes ty #[.slice base len cap, x]).run P w = .ok (.slice base (len + n) cap) w' := by
  unfold Builtin.append_
  rcases notInt_parts hn with h1 | ⟨xt, d, h1, hd, hm⟩
  · simp only [h0, h1, List.getElem?_toArray, List.getElem?_cons_zero, List.getElem?_cons_succ, Sem.run_bind, run_underlying hu, Result.andThen_ok, sizeOf_run hi, Sem.run_pure,
      Bool.false_eq_true, if_false, hl, if_pos hle, Bool.not_false, if_true, hc]
    cases base with
    | none => simp only [Sem.run_pure] at hs ⊢; injection hs with _ hs; subst hs; rfl
    | some a => simp only [Sem.run_bind] at hs ⊢; rw [hs]; rfl
  · cases d <;> first | (cases hm; done) | (
      simp only [h0, h1, List.getElem?_toArray, List.getElem?_cons_zero, List.getElem?_cons_succ, Sem.run_bind, run_underlying hu, run_underlying hd, Result.andThen_ok, sizeOf_run hi, Sem.run_pure,
        Bool.false_eq_true, if_false, hl, if_pos hle, Bool.not_false, if_true, hc]
      cases base with
      | none => simp only [Sem.run_pure] at hs ⊢; injection hs with _ hs; subst hs; rfl
      | some a => simp only [Sem.run_bind] at hs ⊢; rw [hs]; rfl)

theorem append_new_run (h0 : argTypes[0]? = some st) (hu : P.underlying st = some (.slice e)) (hi : P.info? e = some i) (hn : notInt P argTypes[1]? = true) {base : Option Addr} {len cap n : Nat} {x z : Value} {old new : List Value} {w : World}
    (hl : (Builtin.lenOf x).run P w = .ok n w) (hc : (Builtin.firstCells i.size n x).run P w.drew = .ok ⟨new⟩ w.drew) (hle : ¬ len + n ≤ cap) (hb : (len + n) * i.bytes ≤ 140737488355328) (hsm : len + n ≤ 2 ^ 40)
    (hold : (Builtin.firstCells i.size len (.slice base len cap)).run P w.drew = .ok ⟨old⟩ w.drew) (hz : i.zero = some z) :
    ∃ newCap, len + n ≤ newCap ∧ (Builtin.append_ argTypes ty #[.slice base len cap, x]).run P w = .ok (.slice (some ⟨w.heap.size, 0, none⟩) (len + n) newCap) (w.drew.alloc (.cells ⟨old ++ new ++ (Builtin.zeroCells z.cells (newCap - (len + n))).toList⟩ e)) := by
  have hti : ∀ w, (typeInfo e).run P w = .ok i w := fun w => by simp [typeInfo, hi]
  have hzr : ∀ w, (zeroValue e).run P w = .ok z w := fun w => by simp [zeroValue, typeInfo, hi, hz]
  have hg := growslice_fits (need := len + n) (old := cap) (bytes := i.bytes) (by omega) hb
  refine ⟨(Question.appendCap (len + n) cap e).cut (w.tape w.drawn (.appendCap (len + n) cap e)), by simp [Question.cut], ?_⟩
  have h1 : ¬ (((len + n : Nat) : Int) > IntKind.i64.max ∧ (i.bytes = 0)) := by
    rintro ⟨h, _⟩
    have : IntKind.i64.max = 9223372036854775807 := by decide
    rw [this] at h
    omega
  have h2 : ¬ (Builtin.nextslicecap (len + n) cap * i.bytes > 2 ^ 48) := by omega
  have hq : (Question.appendCap (len + n) cap e).forced = false := rfl
  unfold Builtin.append_
  rcases notInt_parts hn with h3 | ⟨xt, d, h3, hd, hm⟩
  · simp only [h0, h3, List.getElem?_toArray, List.getElem?_cons_zero, List.getElem?_cons_succ, Sem.run_bind, run_underlying hu, Result.andThen_ok, sizeOf_run hi, Sem.run_pure,
      Bool.false_eq_true, if_false, hl, if_neg hle, Bool.not_false, if_true, hti, false_or, if_neg h1, if_neg h2, run_choose_drew, hq, run_askRoom, hold, hc, hzr, newRow, run_newObj_alloc]
    exact congrArg (fun c => Result.ok _ (w.drew.alloc (.cells c e))) (Array.ext' (by simp))
  · cases d <;> first | (cases hm; done) | (
     simp only [h0, h3, List.getElem?_toArray, List.getElem?_cons_zero, List.getElem?_cons_succ, Sem.run_bind, run_underlying hu, run_underlying hd, Result.andThen_ok, sizeOf_run hi, Sem.run_pure,
      Bool.false_eq_true, if_false, hl, if_neg hle, Bool.not_false, if_true, hti, false_or, if_neg h1, if_neg h2, run_choose_drew, hq, run_askRoom, hold, hc, hzr, newRow, run_newObj_alloc]
     exact congrArg (fun c => Result.ok _ (w.drew.alloc (.cells c e))) (Array.ext' (by simp)))
end
end Go.Rex
