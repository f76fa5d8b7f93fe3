/- An executor of the program's functions on trees of values, proved sound. -/
import Derived.Test.YtojekkfmnnoabaaRexL2
set_option linter.unusedSimpArgs false
set_option linter.unusedVariables false
set_option linter.defProp false
namespace Go.Rex
open Go.RowKit

def Ls (listed : Array Bool) (i : Nat) : Prop := listed.getD i false = true

section
variable {C : Ctx} {P : Program} {ops : Array Oper} {ms : List Nat} {tm0 : List Value} {h0 : List Blk} (T : Trace C P ops ms tm0 h0) (B lo : Nat) (D : Nat → Prop) (m0 : NMap) (w0 : World) (a0 : Act)

/-- the names that an operation's value may hold -/
def Dm (i : Nat) : Nat → Prop := fun n => D n ∨ ∃ j, (j = i ∨ (nthN ms i).testBit j = true) ∧ T.ln j ≤ n ∧ n < T.ln (j + 1)
/-- .. its operands -/
def Dp (i : Nat) : Nat → Prop := fun n => D n ∨ ∃ j, (nthN ms i).testBit j = true ∧ T.ln j ≤ n ∧ n < T.ln (j + 1)

structure HA (listed : Array Bool) (w : World) (m : NMap) : Prop where
  noc : ∀ i, i < ops.size → Ls listed i → T.kd i ≠ 2
  rel : Rel B lo D m h0 w
  bel : Below w0.heap.size w0 w
  blk : ∀ i n b, i < ops.size → Ls listed i → T.ln i ≤ n → n < T.ln (i + 1) → (T.St (i + 1)).h[n]? = some b → BlkOk (Dm T D i) m w n b ∧ (b ≠ .dead → (m n).block < w.heap.size ∧ w0.heap.size ≤ (m n).block) ∧ Owns m w n b
  inj : ∀ i n b i' n' b', i < ops.size → Ls listed i → T.ln i ≤ n → n < T.ln (i + 1) → (T.St (i + 1)).h[n]? = some b → b ≠ .dead → i' < ops.size → Ls listed i' → T.ln i' ≤ n' → n' < T.ln (i' + 1) → (T.St (i' + 1)).h[n']? = some b' → b' ≠ .dead →
    (m n).block = (m n').block → n = n'

def HB (listed : Array Bool) (w : World) (m : NMap) : Prop :=
  ∃ q, q < ops.size ∧ T.kd q = 2 ∧ Ls listed q ∧ (∀ j, j < ops.size → Ls listed j → T.kd j = 2 → j ≤ q) ∧ Rel B lo (Dx D h0.length (T.ln (q + 1))) m (T.St (q + 1)).h w

structure Tm (listed : Array Bool) (a : Act) (m : NMap) : Prop where
  df : a.defers = a0.defers
  len : a.tmps.toList.length = tm0.length
  new : ∀ (i : Nat) (o : Oper) (t : Tmp) (v' : Value), ops[i]? = some o → Ls listed i → o.dst = some t → a.tmps.toList[t]? = some v' → VR (Dm T D i) m (T.V i) v'
  old : ∀ (t : Tmp) (v v' : Value), (∀ (i : Nat) (o : Oper), ops[i]? = some o → Ls listed i → o.dst ≠ some t) → tm0[t]? = some v → a.tmps.toList[t]? = some v' → VR D m v v'

structure Inv (listed : Array Bool) (a : Act) (w : World) (m : NMap) : Prop where
  size : listed.size = ops.size
  down : ∀ i j, Ls listed i → (nthN ms i).testBit j = true → Ls listed j
  agree : ∀ n, D n → m n = m0 n
  tmps : Tm T D a0 listed a m
  below : Below B w0 w
  heap : HA T B lo D w0 listed w m ∨ HB T B lo D listed w m
end

section
variable {C : Ctx} {P : Program} {ops : Array Oper} {ms : List Nat} {tm0 : List Value} {h0 : List Blk} {T : Trace C P ops ms tm0 h0} {B lo : Nat} {D : Nat → Prop} {m0 : NMap} {w0 : World} {a0 : Act}
variable {listed : Array Bool} {a : Act} {w : World} {m : NMap}

theorem Dm.of_pred (F : RegF ops ms) {i j n : Nat} (hj : (nthN ms i).testBit j = true) (h : Dm T D j n) : Dp T D i n := by
  rcases h with h | ⟨k, hk, h1⟩
  · exact .inl h
  · rcases hk with rfl | hk
    · exact .inr ⟨k, hj, h1⟩
    · exact .inr ⟨k, F.trans i j k hj hk, h1⟩
theorem Dp.dm {i n : Nat} (h : Dp T D i n) : Dm T D i n := by
  rcases h with h | ⟨k, hk, h1⟩
  · exact .inl h
  · exact .inr ⟨k, .inr hk, h1⟩
theorem lt_of_ops {i : Nat} {o : Oper} (ho : ops[i]? = some o) : i < ops.size := (Array.getElem?_eq_some_iff.1 ho).1

/-- an operand's slot, in whatever order -/
theorem Tm.slot (F : RegF ops ms) (hT : Tm T D a0 listed a m) (hdown : ∀ i j, Ls listed i → (nthN ms i).testBit j = true → Ls listed j) {i : Nat} {o : Oper} (ho : ops[i]? = some o) (hi : ¬ Ls listed i) (hpre : ∀ j, (nthN ms i).testBit j = true → Ls listed j)
    {t : Tmp} (ht : t ∈ o.looksAt ops) : (∀ v, (T.St i).tm[t]? = some v → ∃ v', a.tmps.toList[t]? = some v' ∧ VR (Dp T D i) m v v') ∧ ((T.St i).tm[t]? = none → a.tmps.toList[t]? = none) := by
  have hil := lt_of_ops ho
  have hlen := T.tm_len (i := i) (by omega)
  constructor
  · intro v hv
    have htl : t < tm0.length := by
      obtain ⟨h1, _⟩ := List.getElem?_eq_some_iff.1 hv
      rw [hlen] at h1
      exact h1
    obtain ⟨v', hv'⟩ : ∃ v', a.tmps.toList[t]? = some v' := ⟨_, List.getElem?_eq_getElem (by rw [hT.len]; exact htl)⟩
    refine ⟨v', hv', ?_⟩
    have old : (∀ (k : Nat) (p : Oper), ops[k]? = some p → p.dst = some t → i ≤ k ∧ ¬ Ls listed k) → VR (Dp T D i) m v v' := by
      intro hk
      have h1 := T.tm_old (i := i) (t := t) (by omega) fun k p hki hp hd => by have := (hk k p hp hd).1; omega
      rw [h1] at hv
      exact (hT.old t v v' (fun k p hp hl hd => (hk k p hp hd).2 hl) hv hv').mono (fun _ => .inl) (fun _ _ => rfl)
    by_cases hw : ∃ (j : Nat) (p : Oper), ops[j]? = some p ∧ p.dst = some t
    · obtain ⟨j, p, hp, hd⟩ := hw
      have only : ∀ (k : Nat) (p' : Oper), ops[k]? = some p' → p'.dst = some t → k = j := fun k p' hp' hd' => F.uniq k j p' p t hp' hp hd' hd
      rcases F.look i o t ho ht j p hp hd with rfl | hb | hb
      · exact old fun k p' hp' hd' => by rw [only k p' hp' hd']; exact ⟨Nat.le_refl _, hi⟩
      · have h1 := T.tm_new F (F.lt i j hb) (by omega) hp hd htl
        rw [h1] at hv
        obtain rfl := Option.some.inj hv
        exact (hT.new j p t v' hp (hpre j hb) hd hv').mono (fun n hn => hn.of_pred F hb) (fun _ _ => rfl)
      · exact old fun k p' hp' hd' => by
          rw [only k p' hp' hd']
          exact ⟨Nat.le_of_lt (F.lt j i hb), fun hl => hi (hdown j i hl hb)⟩
    · exact old fun k p hp hd => absurd ⟨k, p, hp, hd⟩ hw
  · intro hn
    have h1 := List.getElem?_eq_none_iff.1 hn
    rw [hlen] at h1
    exact List.getElem?_eq_none_iff.2 (by rw [hT.len]; exact h1)

theorem Tm.operands (F : RegF ops ms) (hT : Tm T D a0 listed a m) (hdown : ∀ i j, Ls listed i → (nthN ms i).testBit j = true → Ls listed j) {i : Nat} {o : Oper} (ho : ops[i]? = some o) (hi : ¬ Ls listed i) (hpre : ∀ j, (nthN ms i).testBit j = true → Ls listed j) :
    ∀ x ∈ o.op.operands, VR (Dp T D i) m (ev (T.St i).tm x) (a.eval x) := by
  intro x hx
  have hok := List.all_eq_true.1 (F.ok i o ho) x (by simpa using hx)
  cases x with
  | tmp t =>
    have ht : t ∈ o.looksAt ops := List.mem_append_left _ (List.mem_filterMap.2 ⟨.tmp t, by simpa using hx, rfl⟩)
    obtain ⟨h1, h2⟩ := hT.slot F hdown ho hi hpre ht
    have e : a.eval (.tmp t) = a.tmps.toList[t]?.getD undef := by simp [Act.eval, Array.getD_eq_getD_getElem?]
    rw [e]
    simp only [ev, nth_eq]
    cases hv : (T.St i).tm[t]? with
    | none => rw [h2 hv]; exact VR.undef
    | some v =>
      obtain ⟨v', hv', hr⟩ := h1 v hv
      rw [hv']; exact hr
  | const v => exact VR.of_clean depth v hok
  | global g => cases hok
  | func f => exact .func f [] [] [] [] rfl (fun i v v' h => by simp at h) rfl (fun i v v' h => by simp at h)

theorem Tm.wanted (F : RegF ops ms) (hT : Tm T D a0 listed a m) (hdown : ∀ i j, Ls listed i → (nthN ms i).testBit j = true → Ls listed j) {i : Nat} {o : Oper} (ho : ops[i]? = some o) (hi : ¬ Ls listed i) (hpre : ∀ j, (nthN ms i).testBit j = true → Ls listed j) :
    Region.wanted o (yielded ops a.tmps) = Region.wanted o (yielded ops ⟨(T.St i).tm⟩) := by
  unfold Region.wanted
  cases hg : o.guard with
  | none => rfl
  | some p =>
    obtain ⟨g, b⟩ := p
    simp only
    have key : yielded ops a.tmps g = yielded ops ⟨(T.St i).tm⟩ g := by
      unfold yielded
      cases hd : ((ops[g]?).bind (·.dst) : Option Tmp) with
      | none => rfl
      | some d =>
        have ht : d ∈ o.looksAt ops := by
          refine List.mem_append_right _ ?_
          rw [hg]
          simp only [hd]
          simp
        obtain ⟨h1, h2⟩ := hT.slot F hdown ho hi hpre ht
        simp only [Option.bind_some]
        have e1 : (⟨(T.St i).tm⟩ : Array Value)[d]? = (T.St i).tm[d]? := by simp
        have e2 : a.tmps[d]? = a.tmps.toList[d]? := by simp
        rw [e1, e2]
        cases hv : (T.St i).tm[d]? with
        | none => rw [h2 hv]
        | some v =>
          obtain ⟨v', hv', hr⟩ := h1 v hv
          rw [hv']
          cases hr <;> rfl
    rw [key]

/-- an operation more -/
theorem Tm.put (F : RegF ops ms) (hT : Tm T D a0 listed a m) {i : Nat} {o : Oper} (ho : ops[i]? = some o) (hsz : listed.size = ops.size) {m' : NMap} {v' : Value} (hv : VR (Dm T D i) m' (T.V i) v')
    (hold : ∀ n, D n → m' n = m n) (hnew : ∀ j n, j < ops.size → Ls listed j → Dm T D j n → m' n = m n) : Tm T D a0 (listed.setIfInBounds i true) (a.put o.dst v') m' := by
  have hil := lt_of_ops ho
  have hL : ∀ j, Ls (listed.setIfInBounds i true) j → j = i ∨ Ls listed j := by
    intro j hj
    unfold Ls at *
    by_cases e : j = i
    · exact .inl e
    · right
      rw [Array.getD_eq_getD_getElem?, Array.getElem?_setIfInBounds_ne (Ne.symm e), ← Array.getD_eq_getD_getElem?] at hj
      exact hj
  have hLi : Ls (listed.setIfInBounds i true) i := by
    unfold Ls
    simp [Array.getD_eq_getD_getElem?, hsz, hil]
  have hLo : ∀ j, Ls listed j → Ls (listed.setIfInBounds i true) j := by
    intro j hj
    by_cases e : j = i
    · subst e; exact hLi
    · unfold Ls at *
      rw [Array.getD_eq_getD_getElem?, Array.getElem?_setIfInBounds_ne (Ne.symm e), ← Array.getD_eq_getD_getElem?]
      exact hj
  have other : ∀ t, o.dst ≠ some t → (a.put o.dst v').tmps.toList[t]? = a.tmps.toList[t]? := by
    intro t ht
    cases hd : o.dst with
    | none => rfl
    | some d =>
      simp only [Act.put, Array.toList_setIfInBounds]
      rw [List.getElem?_set_ne]
      intro e; subst e; exact ht hd
  refine ⟨by rw [put_defers]; exact hT.df, ?_, ?_, ?_⟩
  · cases o.dst <;> simp [Act.put, hT.len] <;> exact hT.len
  · intro j p t u hp hj hd hu
    by_cases e : j = i
    · subst e
      rw [ho] at hp
      obtain rfl := Option.some.inj hp
      rw [hd] at hu
      simp only [Act.put, Array.toList_setIfInBounds, List.getElem?_set] at hu
      simp only [if_true] at hu
      split at hu
      · cases hu; exact hv
      · cases hu
    · have hne : o.dst ≠ some t := fun h => e (F.uniq j i p o t hp ho hd h)
      rw [other t hne] at hu
      have hj' := (hL j hj).resolve_left e
      exact (hT.new j p t u hp hj' hd hu).mono (fun _ h => h) (fun n hn => hnew j n (lt_of_ops hp) hj' hn)
  · intro t u u' hno hu hu'
    have hne : o.dst ≠ some t := hno i o ho hLi
    rw [other t hne] at hu'
    exact (hT.old t u u' (fun j p hp hj => hno j p hp (hLo j hj)) hu hu').mono (fun _ h => h) hold
end
end Go.Rex
