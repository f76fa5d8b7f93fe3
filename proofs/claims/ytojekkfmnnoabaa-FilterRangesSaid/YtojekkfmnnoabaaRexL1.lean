/- An executor of the program's functions on trees of values, proved sound. -/
import Derived.Test.YtojekkfmnnoabaaRexK
set_option linter.unusedSimpArgs false
set_option linter.unusedVariables false
set_option linter.defProp false
namespace Go.Rex
open Go.RowKit

/-! ### what the checks of a region say -/
theorem nthN_eq : ∀ (l : List Nat) (n : Nat), nthN l n = l[n]?.getD 0
  | [], n => by simp [nthN]
  | v :: l, 0 => by simp [nthN]
  | v :: l, n + 1 => by simp [nthN, nthN_eq l n]

theorem masks_spec : ∀ (l : List Oper) (acc : List Nat), ∃ r, masks l acc = acc ++ r ∧ r.length = l.length ∧ ∀ j o, l[j]? = some o → r[j]? = some (waits (acc ++ r.take j) o.after.toList)
  | [], acc => ⟨[], by simp [masks], rfl, fun j o h => by simp at h⟩
  | o :: l, acc => by
    obtain ⟨r, h1, h2, h3⟩ := masks_spec l (acc ++ [waits acc o.after.toList])
    refine ⟨waits acc o.after.toList :: r, ?_, by simp [h2], fun j o' hj => ?_⟩
    · simp only [masks]; rw [h1]; simp
    · cases j with
      | zero => simp at hj; subst hj; simp
      | succ j =>
        simp only [List.getElem?_cons_succ] at hj
        have := h3 j o' hj
        simp only [List.getElem?_cons_succ, this, List.take_succ_cons]
        simp

theorem waits_testBit {ms : List Nat} : ∀ (es : List Edge) (j : Nat), (waits ms es).testBit j = true ↔ ∃ e ∈ es, Region.binds .any e = true ∧ (e.on = j ∨ (nthN ms e.on).testBit j = true)
  | [], j => by simp [waits]
  | e :: es, j => by
    simp only [waits]
    split
    · rename_i hb
      simp only [Nat.testBit_or, Bool.or_eq_true, waits_testBit es j, Nat.testBit_two_pow, decide_eq_true_eq, List.mem_cons]
      constructor
      · rintro (⟨x, hx, h1, h2⟩ | h)
        · exact ⟨x, .inr hx, h1, h2⟩
        · exact ⟨e, .inl rfl, hb, h⟩
      · rintro ⟨x, rfl | hx, h1, h2⟩
        · exact .inr h2
        · exact .inl ⟨x, hx, h1, h2⟩
    · rename_i hb
      rw [waits_testBit es j]
      constructor
      · rintro ⟨x, hx, h1, h2⟩; exact ⟨x, List.mem_cons_of_mem _ hx, h1, h2⟩
      · rintro ⟨x, hx, h1, h2⟩
        rcases List.mem_cons.1 hx with rfl | hx
        · exact absurd h1 hb
        · exact ⟨x, hx, h1, h2⟩

theorem mem_dsts : ∀ (l : List Oper) (k d i : Nat), (d, i) ∈ dsts l k ↔ ∃ j o, i = k + j ∧ l[j]? = some o ∧ o.dst = some d
  | [], k, d, i => by simp [dsts]
  | o :: l, k, d, i => by
    have ih := mem_dsts l (k + 1) d i
    have shift : (∃ j o', i = k + j ∧ (o :: l)[j]? = some o' ∧ o'.dst = some d) ↔ (i = k ∧ o.dst = some d) ∨ ∃ j o', i = k + 1 + j ∧ l[j]? = some o' ∧ o'.dst = some d := by
      constructor
      · rintro ⟨j, o', h1, h2, h3⟩
        cases j with
        | zero => simp at h2; subst h2; exact .inl ⟨h1, h3⟩
        | succ j => exact .inr ⟨j, o', by omega, by simpa using h2, h3⟩
      · rintro (⟨h1, h2⟩ | ⟨j, o', h1, h2, h3⟩)
        · exact ⟨0, o, h1, by simp, h2⟩
        · exact ⟨j + 1, o', by omega, by simpa using h2, h3⟩
    rw [shift]
    simp only [dsts]
    split
    · rename_i d' hd
      rw [List.mem_cons, ih, hd]
      simp only [Prod.mk.injEq, Option.some.injEq]
      constructor
      · rintro (⟨rfl, rfl⟩ | h)
        · exact .inl ⟨rfl, rfl⟩
        · exact .inr h
      · rintro (⟨rfl, rfl⟩ | h)
        · exact .inl ⟨rfl, rfl⟩
        · exact .inr h
    · rename_i hd
      rw [ih, hd]
      simp
theorem nodupD_spec : ∀ (l : List (Nat × Nat)), nodupD l = true → ∀ d i j, (d, i) ∈ l → (d, j) ∈ l → i = j
  | [], _, d, i, j, h, _ => by simp at h
  | (d', k) :: l, hn, d, i, j, hi, hj => by
    simp only [nodupD, Bool.and_eq_true, List.all_eq_true] at hn
    obtain ⟨h1, h2⟩ := hn
    rcases List.mem_cons.1 hi with h3 | h3 <;> rcases List.mem_cons.1 hj with h4 | h4
    · cases h3; cases h4; rfl
    · cases h3; have := h1 _ h4; simp at this
    · cases h4; have := h1 _ h3; simp at this
    · exact nodupD_spec l h2 d i j h3 h4

theorem eachOk_spec {ops : Array Oper} {ms : List Nat} {ds : List (Nat × Nat)} : ∀ (l : List Oper) (k : Nat), eachOk ops ms ds l k = true → ∀ j o, l[j]? = some o → opsOk o = true ∧ nthN ms (k + j) < 2 ^ (k + j) ∧ ∀ t ∈ o.looksAt ops, lookOk ms (nthN ms (k + j)) (k + j) t ds = true
  | [], k, _, j, o, h => by simp at h
  | x :: l, k, hk, j, o, h => by
    simp only [eachOk, Bool.and_eq_true, decide_eq_true_eq, List.all_eq_true] at hk
    obtain ⟨h1, h2, h3, h4⟩ := hk
    cases j with
    | zero => simp at h; subst h; exact ⟨h1, h2, h3⟩
    | succ j =>
      have := eachOk_spec l (k + 1) h4 j o (by simpa using h)
      rwa [show k + (j + 1) = k + 1 + j by omega]

/-- the region's facts -/
structure RegF (ops : Array Oper) (ms : List Nat) : Prop where
  ok : ∀ (i : Nat) (o : Oper), ops[i]? = some o → opsOk o = true
  lt : ∀ i j, (nthN ms i).testBit j = true → j < i
  wait : ∀ (i : Nat) (o : Oper), ops[i]? = some o → ∀ j, (nthN ms i).testBit j = true ↔ ∃ e ∈ o.after, Region.binds .any e = true ∧ (e.on = j ∨ (nthN ms e.on).testBit j = true)
  uniq : ∀ (i j : Nat) (o p : Oper) (d : Tmp), ops[i]? = some o → ops[j]? = some p → o.dst = some d → p.dst = some d → i = j
  look : ∀ (i : Nat) (o : Oper) (t : Tmp), ops[i]? = some o → t ∈ o.looksAt ops → ∀ (j : Nat) (p : Oper), ops[j]? = some p → p.dst = some t → j = i ∨ (nthN ms i).testBit j = true ∨ (nthN ms j).testBit i = true
  none : ∀ (i : Nat), ops[i]? = none → nthN ms i = 0

theorem drawOk_facts {ops : Array Oper} (h : drawOk ops = true) : RegF ops (masks ops.toList []) := by
  simp only [drawOk, Bool.and_eq_true] at h
  obtain ⟨h1, h2⟩ := h
  obtain ⟨r, e1, e2, e3⟩ := masks_spec ops.toList []
  simp only [List.nil_append] at e1 e3
  rw [e1] at h2 ⊢
  have each := eachOk_spec _ _ h2
  have nth_lt : ∀ i j, (nthN r i).testBit j = true → j < i := by
    intro i j hj
    cases ho : ops.toList[i]? with
    | none =>
      have : r[i]? = none := by
        rw [List.getElem?_eq_none_iff] at ho ⊢
        omega
      rw [nthN_eq, this] at hj
      simp at hj
    | some o =>
      have h3 := (each i o ho).2.1
      rw [Nat.zero_add] at h3
      rcases Nat.lt_or_ge j i with h' | h'
      · exact h'
      · have : (nthN r i).testBit j = false := Nat.testBit_lt_two_pow (Nat.lt_of_lt_of_le h3 (Nat.pow_le_pow_right (by omega) h'))
        rw [this] at hj; cases hj
  have wait : ∀ (i : Nat) (o : Oper), ops[i]? = some o → ∀ j, (nthN r i).testBit j = true ↔ ∃ e ∈ o.after, Region.binds .any e = true ∧ (e.on = j ∨ (nthN r e.on).testBit j = true) := by
    intro i o ho j
    have h3 := e3 i o (by simpa using ho)
    have h4 : nthN r i = waits (r.take i) o.after.toList := by rw [nthN_eq, h3]; rfl
    have hon : ∀ e ∈ o.after, Region.binds .any e = true → e.on < i := fun e he hb => by
      refine nth_lt i e.on ?_
      rw [h4, waits_testBit]
      exact ⟨e, by simpa using he, hb, .inl rfl⟩
    have htk : ∀ k, k < i → nthN (r.take i) k = nthN r k := fun k hk => by rw [nthN_eq, nthN_eq, List.getElem?_take, if_pos hk]
    rw [h4, waits_testBit]
    constructor
    · rintro ⟨e, he, hb, hx⟩
      have he' : e ∈ o.after := by simpa using he
      exact ⟨e, he', hb, by rwa [htk _ (hon e he' hb)] at hx⟩
    · rintro ⟨e, he, hb, hx⟩
      exact ⟨e, by simpa using he, hb, by rwa [htk _ (hon e he hb)]⟩
  refine ⟨fun i o ho => (each i o (by simpa using ho)).1, nth_lt, wait, ?_, ?_, ?_⟩
  · intro i j o p d ho hp hd hd'
    refine nodupD_spec _ h1 d i j ?_ ?_
    · rw [mem_dsts]; exact ⟨i, o, by simp, by simpa using ho, hd⟩
    · rw [mem_dsts]; exact ⟨j, p, by simp, by simpa using hp, hd'⟩
  · intro i o t ho ht j p hp hd
    have h3 := (each i o (by simpa using ho)).2.2 t ht
    rw [Nat.zero_add] at h3
    unfold lookOk at h3
    have := List.all_eq_true.1 h3 (t, j) (by rw [mem_dsts]; exact ⟨j, p, by simp, by simpa using hp, hd⟩)
    simp only [bne_self_eq_false, Bool.false_or, Bool.or_eq_true, beq_iff_eq] at this
    rcases this with (h | h) | h
    · exact .inl h
    · exact .inr (.inl h)
    · exact .inr (.inr h)
  · intro i hi
    have : r[i]? = none := by
      have : ops.toList[i]? = none := by simpa using hi
      rw [List.getElem?_eq_none_iff] at this ⊢
      omega
    rw [nthN_eq, this]; rfl

/-- waiting is transitive -/
theorem RegF.trans {ops : Array Oper} {ms : List Nat} (F : RegF ops ms) : ∀ (i j k : Nat), (nthN ms i).testBit j = true → (nthN ms j).testBit k = true → (nthN ms i).testBit k = true := by
  intro i
  induction i using Nat.strongRecOn with
  | _ i ih =>
  intro j k hj hk
  cases ho : ops[i]? with
  | none => rw [F.none i ho] at hj; simp at hj
  | some o =>
    obtain ⟨e, he, hb, hx⟩ := (F.wait i o ho j).1 hj
    refine (F.wait i o ho k).2 ⟨e, he, hb, .inr ?_⟩
    rcases hx with rfl | hx
    · exact hk
    · have : e.on < i := F.lt i e.on ((F.wait i o ho e.on).2 ⟨e, he, hb, .inl rfl⟩)
      exact ih e.on this j k hx hk
end Go.Rex
