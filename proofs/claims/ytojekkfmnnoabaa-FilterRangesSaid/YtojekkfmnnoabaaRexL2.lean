/- An executor of the program's functions on trees of values, proved sound. -/
import Derived.Test.YtojekkfmnnoabaaRexL1
set_option linter.unusedSimpArgs false
set_option linter.unusedVariables false
set_option linter.defProp false
namespace Go.Rex
open Go.RowKit

/-! ### the run in the text's order, step by step -/
inductive KdP (C : Ctx) (P : Program) (ops : Array Oper) (m i : Nat) (o : Oper) (s s' : Dr) (v : Value) (k : Nat) : Prop
  | skip (kk : k = 0) (vv : v = undef) (hw : Region.wanted o (yielded ops ⟨s.tm⟩) = false) (hs : s' = { s with tm := putL s.tm o.dst v }) : KdP C P ops m i o s s' v k
  | pure (kk : k = 0) (hw : Region.wanted o (yielded ops ⟨s.tm⟩) = true) (hp : pop P (ev s.tm) o = some v) (hs : s' = { s with tm := putL s.tm o.dst v }) : KdP C P ops m i o s s' v k
  | tame (kk : k = 1) (h1 : List Blk) (w1 : Option Nat) (hw : Region.wanted o (yielded ops ⟨s.tm⟩) = true) (hx : xop C P (ev s.tm) o s.h = some (v, h1, w1)) (hc : s.chain = false) (hg : wge w1 s.h.length = true)
      (hs : s' = { tm := putL s.tm o.dst v, h := s.h ++ h1.drop s.h.length, np := i :: s.np, chain := false, wr := s.wr }) (hl : s.h.length ≤ h1.length ∨ s'.h = s.h) : KdP C P ops m i o s s' v k
  | chain (kk : k = 2) (h1 : List Blk) (w1 : Option Nat) (hw : Region.wanted o (yielded ops ⟨s.tm⟩) = true) (hx : xop C P (ev s.tm) o s.h = some (v, h1, w1)) (hn : s.np.all (fun j => m.testBit j) = true) (hl : s.h.length ≤ h1.length)
      (hs : s' = { tm := putL s.tm o.dst v, h := h1, np := i :: s.np, chain := true, wr := wmin s.wr w1 }) : KdP C P ops m i o s s' v k

theorem drawStep_kd {C : Ctx} {P : Program} {ops : Array Oper} {m i : Nat} {o : Oper} {s s' : Dr} (h : drawStep C P ops m i o s = some s') : ∃ v k, KdP C P ops m i o s s' v k := by
  unfold drawStep at h
  split at h
  · rename_i hw
    split at h
    · rename_i v hp
      exact ⟨v, 0, .pure rfl hw hp (Option.some.inj h).symm⟩
    · unfold drawHeap at h
      split at h
      · rename_i v h1 w1 hx
        split at h
        · rename_i hc
          split at h
          · rename_i he
            refine ⟨v, 1, .tame rfl h1 w1 hw hx hc.1 hc.2 ?_ (.inl (by omega))⟩
            rw [← Option.some.inj h, List.drop_of_length_le (by omega)]
            simp
          · refine ⟨v, 1, .tame rfl h1 w1 hw hx hc.1 hc.2 (Option.some.inj h).symm ?_⟩
            rcases Nat.lt_or_ge h1.length s.h.length with hl | hl
            · right
              rw [← Option.some.inj h]
              simp only
              rw [List.drop_of_length_le (by omega)]
              simp
            · exact .inl hl
        · split at h
          · rename_i hn
            exact ⟨v, 2, .chain rfl h1 w1 hw hx hn.1 hn.2 (Option.some.inj h).symm⟩
          · cases h
      · cases h
  · rename_i hw
    exact ⟨undef, 0, .skip rfl rfl (by simpa using hw) (Option.some.inj h).symm⟩

theorem drawAll_trace {C : Ctx} {P : Program} {ops : Array Oper} {ms : List Nat} : ∀ (l : List Oper) (k : Nat) (s s' : Dr), drawAll C P ops ms l k s = some s' →
    ∃ St : Nat → Dr, St 0 = s ∧ (∀ j o, l[j]? = some o → drawStep C P ops (nthN ms (k + j)) (k + j) o (St j) = some (St (j + 1))) ∧ ∀ j, l.length ≤ j → St j = s'
  | [], k, s, s', h => by
    obtain rfl : s = s' := by simpa [drawAll] using h
    exact ⟨fun _ => s, rfl, fun j o h => by simp at h, fun _ _ => rfl⟩
  | o :: l, k, s, s', h => by
    simp only [drawAll] at h
    split at h
    · rename_i s1 h1
      obtain ⟨St, h2, h3, h4⟩ := drawAll_trace l (k + 1) s1 s' h
      refine ⟨fun j => match j with | 0 => s | j + 1 => St j, rfl, fun j o' hj => ?_, fun j hj => ?_⟩
      · cases j with
        | zero => simp at hj; subst hj; simpa [h2] using h1
        | succ j =>
          have := h3 j o' (by simpa using hj)
          rwa [show k + (j + 1) = k + 1 + j by omega]
      · cases j with
        | zero => simp at hj
        | succ j => exact h4 j (by simpa using hj)
    · cases h

structure Trace (C : Ctx) (P : Program) (ops : Array Oper) (ms : List Nat) (tm0 : List Value) (h0 : List Blk) where
  St : Nat → Dr
  V : Nat → Value
  kd : Nat → Nat
  st0 : St 0 = ⟨tm0, h0, [], false, none⟩
  kdp : ∀ (i : Nat) (o : Oper), ops[i]? = some o → KdP C P ops (nthN ms i) i o (St i) (St (i + 1)) (V i) (kd i)

theorem trace_of {C : Ctx} {P : Program} {ops : Array Oper} {ms : List Nat} {tm0 : List Value} {h0 : List Blk} {s' : Dr} (h : drawAll C P ops ms ops.toList 0 ⟨tm0, h0, [], false, none⟩ = some s') :
    ∃ T : Trace C P ops ms tm0 h0, T.St ops.size = s' := by
  obtain ⟨St, h1, h2, h3⟩ := drawAll_trace _ _ _ _ h
  have hk : ∀ i, ∃ v k, ∀ o, ops[i]? = some o → KdP C P ops (nthN ms i) i o (St i) (St (i + 1)) v k := by
    intro i
    cases ho : ops[i]? with
    | none => exact ⟨undef, 0, fun o h => by cases h⟩
    | some o =>
      have := h2 i o (by simpa using ho)
      rw [Nat.zero_add] at this
      obtain ⟨v, k, hv⟩ := drawStep_kd this
      exact ⟨v, k, fun o' ho' => by cases ho'; exact hv⟩
  obtain ⟨V, hV⟩ := Classical.skolem.1 hk
  obtain ⟨kd, hkd⟩ := Classical.skolem.1 hV
  exact ⟨⟨St, V, kd, h1, hkd⟩, h3 _ (by simp)⟩

section
variable {C : Ctx} {P : Program} {ops : Array Oper} {ms : List Nat} {tm0 : List Value} {h0 : List Blk} (T : Trace C P ops ms tm0 h0)

abbrev Trace.ln (i : Nat) : Nat := (T.St i).h.length

theorem Trace.ln_succ {i : Nat} {o : Oper} (ho : ops[i]? = some o) : T.ln i ≤ T.ln (i + 1) := by
  unfold Trace.ln
  cases T.kdp i o ho with
  | skip kk vv hw hs => rw [hs]; exact Nat.le_refl _
  | pure kk hw hp hs => rw [hs]; exact Nat.le_refl _
  | tame kk h1 w1 hw hx hc hg hs hl => rw [hs]; simp
  | chain kk h1 w1 hw hx hn hl hs => rw [hs]; exact hl
theorem Trace.ln_mono {i j : Nat} (h : i ≤ j) (hj : j ≤ ops.size) : T.ln i ≤ T.ln j := by
  induction j with
  | zero => obtain rfl : i = 0 := by omega
            exact Nat.le_refl _
  | succ j ih =>
    rcases Nat.lt_or_ge j i with h' | h'
    · obtain rfl : i = j + 1 := by omega
      exact Nat.le_refl _
    · exact Nat.le_trans (ih h' (by omega)) (T.ln_succ (Array.getElem?_eq_getElem (by omega)))
theorem Trace.quiet {i : Nat} {o : Oper} (ho : ops[i]? = some o) (hk : T.kd i = 0) : (T.St (i + 1)).h = (T.St i).h := by
  cases T.kdp i o ho with
  | skip kk vv hw hs => rw [hs]
  | pure kk hw hp hs => rw [hs]
  | tame kk => omega
  | chain kk => omega
theorem Trace.tm_succ {i : Nat} {o : Oper} (ho : ops[i]? = some o) : (T.St (i + 1)).tm = putL (T.St i).tm o.dst (T.V i) := by
  cases T.kdp i o ho with
  | skip kk vv hw hs => rw [hs]
  | pure kk hw hp hs => rw [hs]
  | tame kk h1 w1 hw hx hc hg hs hl => rw [hs]
  | chain kk h1 w1 hw hx hn hl hs => rw [hs]
theorem Trace.wr_succ {i : Nat} {o : Oper} (ho : ops[i]? = some o) {lo : Nat} (hw : WrOk lo (T.St (i + 1)).wr) : WrOk lo (T.St i).wr := by
  cases T.kdp i o ho with
  | skip kk vv hw' hs => rw [hs] at hw; exact hw
  | pure kk hw' hp hs => rw [hs] at hw; exact hw
  | tame kk h1 w1 hw' hx hc hg hs hl => rw [hs] at hw; exact hw
  | chain kk h1 w1 hw' hx hn hl hs => rw [hs] at hw; exact hw.min.1
theorem Trace.wr_le {lo : Nat} {i j : Nat} (h : i ≤ j) (hj : j ≤ ops.size) (hw : WrOk lo (T.St j).wr) : WrOk lo (T.St i).wr := by
  induction j with
  | zero => obtain rfl : i = 0 := by omega
            exact hw
  | succ j ih =>
    rcases Nat.lt_or_ge j i with h' | h'
    · obtain rfl : i = j + 1 := by omega
      exact hw
    · exact ih h' (by omega) (T.wr_succ (Array.getElem?_eq_getElem (by omega)) hw)
/-- behind a chain's operation all that touches memory is of the chain -/
theorem Trace.chain_on {i j : Nat} (hij : j < i) (hi : i ≤ ops.size) (hk : T.kd j = 2) : (T.St i).chain = true := by
  induction i with
  | zero => omega
  | succ i ih =>
    have ho : ops[i]? = some ops[i] := Array.getElem?_eq_getElem (by omega)
    have hkp := T.kdp i _ ho
    rcases Nat.lt_or_ge j i with h' | h'
    · have hc := ih h' (by omega)
      cases hkp with
      | skip kk vv hw hs => rw [hs]; exact hc
      | pure kk hw hp hs => rw [hs]; exact hc
      | tame kk h1 w1 hw hx hc' hg hs hl => rw [hc] at hc'; cases hc'
      | chain kk h1 w1 hw hx hn hl hs => rw [hs]
    · obtain rfl : j = i := by omega
      cases hkp with
      | skip kk => omega
      | pure kk => omega
      | tame kk => omega
      | chain kk h1 w1 hw hx hn hl hs => rw [hs]
theorem Trace.tame_first {i j : Nat} (hi : i < ops.size) (hk : T.kd i = 1) (hj : T.kd j = 2) : i < j := by
  rcases Nat.lt_or_ge i j with h | h
  · exact h
  · have hkp := T.kdp i ops[i] (Array.getElem?_eq_getElem hi)
    have hne : j ≠ i := fun e => by rw [e] at hj; omega
    have hc := T.chain_on (i := i) (j := j) (by omega) (by omega) hj
    cases hkp with
    | skip kk => omega
    | pure kk => omega
    | chain kk => omega
    | tame kk h1 w1 hw hx hc' hg hs hl => rw [hc] at hc'; cases hc'
theorem Trace.np_mem {i j : Nat} (hij : j < i) (hi : i ≤ ops.size) (hk : T.kd j ≠ 0) : j ∈ (T.St i).np := by
  induction i with
  | zero => omega
  | succ i ih =>
    have ho : ops[i]? = some ops[i] := Array.getElem?_eq_getElem (by omega)
    rcases Nat.lt_or_ge j i with h' | h'
    · have hm := ih h' (by omega)
      cases T.kdp i _ ho with
      | skip kk vv hw hs => rw [hs]; exact hm
      | pure kk hw hp hs => rw [hs]; exact hm
      | tame kk h1 w1 hw hx hc' hg hs hl => rw [hs]; exact List.mem_cons_of_mem _ hm
      | chain kk h1 w1 hw hx hn hl hs => rw [hs]; exact List.mem_cons_of_mem _ hm
    · obtain rfl : j = i := by omega
      cases T.kdp j _ ho with
      | skip kk => omega
      | pure kk => omega
      | tame kk h1 w1 hw hx hc' hg hs hl => rw [hs]; exact List.mem_cons_self
      | chain kk h1 w1 hw hx hn hl hs => rw [hs]; exact List.mem_cons_self
theorem Trace.chain_waits {i j : Nat} (hij : j < i) (hi : i < ops.size) (hk : T.kd i = 2) (hj : T.kd j ≠ 0) : (nthN ms i).testBit j = true := by
  cases T.kdp i _ (Array.getElem?_eq_getElem hi) with
  | skip kk => omega
  | pure kk => omega
  | tame kk => omega
  | chain kk h1 w1 hw hx hn hl hs => simpa using List.all_eq_true.1 hn j (T.np_mem hij (by omega) hj)
theorem Trace.kd_le {i : Nat} (hi : i < ops.size) : T.kd i = 0 ∨ T.kd i = 1 ∨ T.kd i = 2 := by
  cases T.kdp i _ (Array.getElem?_eq_getElem hi) <;> omega
/-- without a chain's operation ahead, what lay stays -/
theorem Trace.front {i j : Nat} (hij : i ≤ j) (hj : j ≤ ops.size) (hc : ∀ k, i ≤ k → k < j → T.kd k ≠ 2) {n : Nat} (hn : n < T.ln i) : (T.St j).h[n]? = (T.St i).h[n]? := by
  induction j with
  | zero => obtain rfl : i = 0 := by omega
            rfl
  | succ j ih =>
    rcases Nat.lt_or_ge j i with h' | h'
    · obtain rfl : i = j + 1 := by omega
      rfl
    · have hm := ih h' (by omega) (fun k h1 h2 => hc k h1 (by omega))
      have hln : T.ln i ≤ T.ln j := T.ln_mono h' (by omega)
      have ho : ops[j]? = some ops[j] := Array.getElem?_eq_getElem (by omega)
      rw [← hm]
      have hne : T.kd j ≠ 2 := hc j h' (by omega)
      cases T.kdp j _ ho with
      | skip kk vv hw hs => rw [hs]
      | pure kk hw hp hs => rw [hs]
      | tame kk h1 w1 hw hx hc' hg hs hl => rw [hs]; exact List.getElem?_append_left (by unfold Trace.ln at *; omega)
      | chain kk => omega
theorem putL_len (tm : List Value) (d : Option Tmp) (v : Value) : (putL tm d v).length = tm.length := by cases d <;> simp [putL]
theorem Trace.tm_len {i : Nat} (hi : i ≤ ops.size) : (T.St i).tm.length = tm0.length := by
  induction i with
  | zero => rw [T.st0]
  | succ i ih => rw [T.tm_succ (Array.getElem?_eq_getElem (show i < ops.size by omega)), putL_len, ih (by omega)]
/-- a slot that nobody has written -/
theorem Trace.tm_old {i t : Nat} (hi : i ≤ ops.size) (h : ∀ k o, k < i → ops[k]? = some o → o.dst ≠ some t) : (T.St i).tm[t]? = tm0[t]? := by
  induction i with
  | zero => rw [T.st0]
  | succ i ih =>
    have ho : ops[i]? = some ops[i] := Array.getElem?_eq_getElem (by omega)
    rw [T.tm_succ ho, ← ih (by omega) (fun k o hk => h k o (by omega))]
    have := h i _ (by omega) ho
    cases hd : (ops[i]'(by omega)).dst with
    | none => rfl
    | some d =>
      simp only [putL]
      rw [List.getElem?_set_ne]
      intro e
      subst e
      exact this hd
/-- a slot that one has written -/
theorem Trace.tm_new (F : RegF ops ms) {i j t : Nat} {p : Oper} (hji : j < i) (hi : i ≤ ops.size) (hp : ops[j]? = some p) (hd : p.dst = some t) (ht : t < tm0.length) : (T.St i).tm[t]? = some (T.V j) := by
  induction i with
  | zero => omega
  | succ i ih =>
    have ho : ops[i]? = some ops[i] := Array.getElem?_eq_getElem (by omega)
    rw [T.tm_succ ho]
    have hlen := T.tm_len (i := i) (by omega)
    rcases Nat.lt_or_ge j i with h' | h'
    · have := ih h' (by omega)
      cases hdi : (ops[i]'(by omega)).dst with
      | none => exact this
      | some d =>
        simp only [putL]
        rw [List.getElem?_set_ne]
        · exact this
        · intro e
          subst e
          have := F.uniq i j _ p _ ho hp hdi hd
          omega
    · obtain rfl : j = i := by omega
      rw [ho] at hp
      obtain rfl := Option.some.inj hp
      rw [hd]
      simp only [putL]
      rw [List.getElem?_set_self (by omega)]
end
end Go.Rex
