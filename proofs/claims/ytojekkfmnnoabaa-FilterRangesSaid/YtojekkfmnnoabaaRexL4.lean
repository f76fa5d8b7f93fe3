/- An executor of the program's functions on trees of values, proved sound. -/
import Derived.Test.YtojekkfmnnoabaaRexL3
set_option linter.unusedSimpArgs false
set_option linter.unusedVariables false
set_option linter.defProp false
namespace Go.Rex
open Go.RowKit

theorem Rel.congr {B lo : Nat} {D : Nat → Prop} {m m' : NMap} {h : List Blk} {w : World} (hr : Rel B lo D m h w) (hm : ∀ n, D n → m' n = m n) : Rel B lo D m' h w :=
  ⟨hr.le, hr.dom, fun n b hD hn => (hr.ok n b hD hn).mono (fun _ h => h) hm (hm n hD), fun n b hD hn hd => by rw [hm n hD]; exact hr.lt n b hD hn hd,
   fun n b hD hl hn hd => by rw [hm n hD]; exact hr.base n b hD hl hn hd, fun n b hD hl hn hd => by rw [hm n hD]; exact hr.low n b hD hl hn hd,
   fun n b hD hl hn => (hr.own n b hD hl hn).congr (hm n hD), fun n n' b b' hD hD' hl hl' hn hn' hd hd' he => hr.inj n n' b b' hD hD' hl hl' hn hn' hd hd' (by rwa [hm n hD, hm n' hD'] at he)⟩

section
variable {C : Ctx} {P : Program} {ops : Array Oper} {ms : List Nat} {tm0 : List Value} {h0 : List Blk} {T : Trace C P ops ms tm0 h0} {B lo : Nat} {D : Nat → Prop} {m0 : NMap} {w0 : World} {a0 : Act}
variable {listed : Array Bool} {a : Act} {w : World} {m : NMap}

theorem Trace.ln0 : T.ln 0 = h0.length := by unfold Trace.ln; rw [T.st0]
theorem Trace.owner {n : Nat} : ∀ {i : Nat}, i ≤ ops.size → T.ln 0 ≤ n → n < T.ln i → ∃ j, j < i ∧ T.ln j ≤ n ∧ n < T.ln (j + 1)
  | 0, _, h1, h2 => by omega
  | i + 1, hi, h1, h2 => by
    rcases Nat.lt_or_ge n (T.ln i) with h | h
    · obtain ⟨j, h3, h4⟩ := Trace.owner (i := i) (by omega) h1 h
      exact ⟨j, by omega, h4⟩
    · exact ⟨i, by omega, h, h2⟩
theorem Trace.loud {j : Nat} (hj : j < ops.size) {n : Nat} (h1 : T.ln j ≤ n) (h2 : n < T.ln (j + 1)) : T.kd j ≠ 0 := by
  intro hk
  have := T.quiet (Array.getElem?_eq_getElem hj) hk
  unfold Trace.ln at h1 h2
  rw [this] at h2
  omega
theorem Trace.same {i j : Nat} (hij : i ≤ j) (hj : j ≤ ops.size) (hq : ∀ k, i ≤ k → k < j → T.kd k = 0) : (T.St j).h = (T.St i).h := by
  induction j with
  | zero => obtain rfl : i = 0 := by omega
            rfl
  | succ j ih =>
    rcases Nat.lt_or_ge j i with h' | h'
    · obtain rfl : i = j + 1 := by omega
      rfl
    · rw [T.quiet (Array.getElem?_eq_getElem (by omega)) (hq j h' (by omega)), ih h' (by omega) fun k h1 h2 => hq k h1 (by omega)]

/-- without a chain's operation: all names ahead of an operation -/
theorem HA.full (hr0 : Rel B lo D m0 h0 w0) (hlo : lo ≤ h0.length) (hag : ∀ n, D n → m n = m0 n) (hA : HA T B lo D w0 listed w m) (F : RegF ops ms) {i : Nat} (hi : i ≤ ops.size) (hl : ∀ k, k < i → T.kd k ≠ 0 → Ls listed k) : Rel B lo (Dx D h0.length (T.ln i)) m (T.St i).h w := by
  have hc : ∀ k, k < i → T.kd k ≠ 2 := fun k hk h2 => hA.noc k (by omega) (hl k hk (by omega)) h2
  have hln : T.ln 0 ≤ T.ln i := T.ln_mono (Nat.zero_le _) hi
  have old : ∀ n, D n → (T.St i).h[n]? = h0[n]? := fun n hn => by
    rw [T.front (Nat.zero_le i) hi (fun k _ hk => hc k hk) (by rw [Trace.ln0]; exact hA.rel.dom n hn), T.st0]
  have new : ∀ n b, Dx D h0.length (T.ln i) n → (T.St i).h[n]? = some b → D n ∧ h0[n]? = some b ∨ ∃ j, j < i ∧ Ls listed j ∧ T.ln j ≤ n ∧ n < T.ln (j + 1) ∧ (T.St (j + 1)).h[n]? = some b := by
    rintro n b (hn | hn) hb
    · exact .inl ⟨hn, by rw [← old n hn]; exact hb⟩
    · obtain ⟨j, h1, h2, h3⟩ := T.owner hi (by rw [Trace.ln0]; exact hn.1) hn.2
      refine .inr ⟨j, h1, hl j h1 (T.loud (by omega) h2 h3), h2, h3, ?_⟩
      rw [← T.front (i := j + 1) h1 hi (fun k _ hk => hc k hk) h3]
      exact hb
  have sub : ∀ j, j < i → ∀ k, Dm T D j k → Dx D h0.length (T.ln i) k := by
    rintro j hj k (hk | ⟨l, h1, h2, h3⟩)
    · exact .inl hk
    · have hlj : l ≤ j := by
        rcases h1 with rfl | h1
        · exact Nat.le_refl _
        · exact Nat.le_of_lt (F.lt j l h1)
      refine .inr ⟨?_, Nat.lt_of_lt_of_le h3 (T.ln_mono (by omega) hi)⟩
      rw [← Trace.ln0 (T := T)]
      exact Nat.le_trans (T.ln_mono (Nat.zero_le _) (by omega)) h2
  refine ⟨hA.rel.le, ?_, ?_, ?_, ?_, ?_, ?_, ?_⟩
  · rintro n (hn | hn)
    · have := hA.rel.dom n hn
      rw [Trace.ln0] at hln
      unfold Trace.ln at hln
      omega
    · exact hn.2
  · intro n b hn hb
    rcases new n b hn hb with ⟨h1, h2⟩ | ⟨j, h1, h2, h3, h4, h5⟩
    · exact (hA.rel.ok n b h1 h2).mono (fun _ => .inl) (fun _ _ => rfl) rfl
    · exact (hA.blk j n b (by omega) h2 h3 h4 h5).1.mono (sub j h1) (fun _ _ => rfl) rfl
  · intro n b hn hb hd
    rcases new n b hn hb with ⟨h1, h2⟩ | ⟨j, h1, h2, h3, h4, h5⟩
    · exact hA.rel.lt n b h1 h2 hd
    · exact ((hA.blk j n b (by omega) h2 h3 h4 h5).2.1 hd).1
  · intro n b hn hlon hb hd
    rcases new n b hn hb with ⟨h1, h2⟩ | ⟨j, h1, h2, h3, h4, h5⟩
    · exact hA.rel.base n b h1 hlon h2 hd
    · exact Nat.le_trans hr0.le ((hA.blk j n b (by omega) h2 h3 h4 h5).2.1 hd).2
  · intro n b hn hlon hb hd
    rcases new n b hn hb with ⟨h1, h2⟩ | ⟨j, h1, h2, h3, h4, h5⟩
    · exact hA.rel.low n b h1 hlon h2 hd
    · have : T.ln 0 ≤ T.ln j := T.ln_mono (Nat.zero_le _) (by omega)
      rw [Trace.ln0] at this
      omega
  · intro n b hn hlon hb
    rcases new n b hn hb with ⟨h1, h2⟩ | ⟨j, h1, h2, h3, h4, h5⟩
    · exact hA.rel.own n b h1 hlon h2
    · exact (hA.blk j n b (by omega) h2 h3 h4 h5).2.2
  · intro n n' b b' hn hn' hlon hlon' hb hb' hd hd' he
    rcases new n b hn hb with ⟨h1, h2⟩ | ⟨j, h1, h2, h3, h4, h5⟩ <;> rcases new n' b' hn' hb' with ⟨h1', h2'⟩ | ⟨j', h1', h2', h3', h4', h5'⟩
    · exact hA.rel.inj n n' b b' h1 h1' hlon hlon' h2 h2' hd hd' he
    · have e1 := hr0.lt n b h1 h2 hd
      rw [← hag n h1] at e1
      have e2 := ((hA.blk j' n' b' (by omega) h2' h3' h4' h5').2.1 hd').2
      omega
    · have e1 := hr0.lt n' b' h1' h2' hd'
      rw [← hag n' h1'] at e1
      have e2 := ((hA.blk j n b (by omega) h2 h3 h4 h5).2.1 hd).2
      omega
    · exact hA.inj j n b j' n' b' (by omega) h2 h3 h4 h5 hd (by omega) h2' h3' h4' h5' hd' he

theorem Ls.set {i j : Nat} (h : Ls (listed.setIfInBounds i true) j) : j = i ∨ Ls listed j := by
  unfold Ls at *
  by_cases e : j = i
  · exact .inl e
  · right
    rw [Array.getD_eq_getD_getElem?, Array.getElem?_setIfInBounds_ne (Ne.symm e), ← Array.getD_eq_getD_getElem?] at h
    exact h
theorem Ls.mk {i j : Nat} (hi : i < listed.size) (h : j = i ∨ Ls listed j) : Ls (listed.setIfInBounds i true) j := by
  unfold Ls at *
  by_cases e : j = i
  · subst e; simp [Array.getD_eq_getD_getElem?, hi]
  · rw [Array.getD_eq_getD_getElem?, Array.getElem?_setIfInBounds_ne (Ne.symm e), ← Array.getD_eq_getD_getElem?]
    exact h.resolve_left e
theorem down_set {i : Nat} (hdown : ∀ i j, Ls listed i → (nthN ms i).testBit j = true → Ls listed j) (hi : i < listed.size) (hpre : ∀ j, (nthN ms i).testBit j = true → Ls listed j) :
    ∀ k j, Ls (listed.setIfInBounds i true) k → (nthN ms k).testBit j = true → Ls (listed.setIfInBounds i true) j := by
  intro k j hk hj
  rcases Ls.set hk with rfl | hk
  · exact .mk hi (.inr (hpre j hj))
  · exact .mk hi (.inr (hdown k j hk hj))

/-- an operation that leaves memory alone -/
theorem Inv.quiet (F : RegF ops ms) (hI : Inv T B lo D m0 w0 a0 listed a w m) {i : Nat} {o : Oper} (ho : ops[i]? = some o) (hpre : ∀ j, (nthN ms i).testBit j = true → Ls listed j) (hk : T.kd i = 0) {v' : Value} (hv : VR (Dm T D i) m (T.V i) v') :
    Inv T B lo D m0 w0 a0 (listed.setIfInBounds i true) (a.put o.dst v') w m := by
  have hil := lt_of_ops ho
  have hsz : i < listed.size := by rw [hI.size]; exact hil
  have hln : T.ln (i + 1) = T.ln i := by unfold Trace.ln; rw [T.quiet ho hk]
  refine ⟨by simp [hI.size], down_set hI.down hsz hpre, hI.agree, hI.tmps.put F ho hI.size hv (fun _ _ => rfl) (fun _ _ _ _ _ => rfl), hI.below, ?_⟩
  rcases hI.heap with hA | ⟨q, h1, h2, h3, h4, h5⟩
  · refine .inl ⟨fun j hj hL h2 => ?_, hA.rel, hA.bel, fun j n b hj hL h1 h2 hb => ?_, fun j n b j' n' b' hj hL h1 h2 hb hd hj' hL' h1' h2' hb' hd' he => ?_⟩
    · rcases Ls.set hL with rfl | hL
      · omega
      · exact hA.noc j hj hL h2
    · rcases Ls.set hL with rfl | hL
      · omega
      · exact hA.blk j n b hj hL h1 h2 hb
    · rcases Ls.set hL with rfl | hL
      · omega
      rcases Ls.set hL' with rfl | hL'
      · omega
      exact hA.inj j n b j' n' b' hj hL h1 h2 hb hd hj' hL' h1' h2' hb' hd' he
  · refine .inr ⟨q, h1, h2, .mk hsz (.inr h3), fun j hj hL hc => ?_, h5⟩
    rcases Ls.set hL with rfl | hL
    · omega
    · exact h4 j hj hL hc

/-- an operation that makes memory -/
theorem Inv.tame (F : RegF ops ms) (hI : Inv T B lo D m0 w0 a0 listed a w m) {i : Nat} {o : Oper} (ho : ops[i]? = some o) (hi : ¬ Ls listed i) (hpre : ∀ j, (nthN ms i).testBit j = true → Ls listed j) (hk : T.kd i = 1) (hA : HA T B lo D w0 listed w m)
    {h1 : List Blk} {v' : Value} {w' : World} {m' : NMap} (hs : (T.St (i + 1)).h = (T.St i).h ++ h1.drop (T.ln i)) (hp : Post w.heap.size (T.ln i) (Dp T D i) m (T.St i).h w m' h1 w') (hv : VR (Dx (Dp T D i) (T.ln i) h1.length) m' (T.V i) v') :
    ∃ m'', Inv T B lo D m0 w0 a0 (listed.setIfInBounds i true) (a.put o.dst v') w' m'' := by
  have hil := lt_of_ops ho
  have hsz : i < listed.size := by rw [hI.size]; exact hil
  have hgr : T.ln i ≤ h1.length := hp.grow
  have hln : T.ln (i + 1) = h1.length := by
    unfold Trace.ln at *
    rw [hs]
    simp
    omega
  have hDlt : ∀ n, D n → n < T.ln i := fun n hn => Nat.lt_of_lt_of_le (by rw [Trace.ln0]; exact hA.rel.dom n hn) (T.ln_mono (Nat.zero_le i) (by omega))
  have hDp : ∀ n, Dp T D i n → n < T.ln i := by
    rintro n (hn | ⟨j, h2, h3, h4⟩)
    · exact hDlt n hn
    · exact Nat.lt_of_lt_of_le h4 (T.ln_mono (F.lt i j h2) (by omega))
  let m'' : NMap := fun n => if T.ln i ≤ n ∧ n < T.ln (i + 1) then m' n else m n
  have e0 : ∀ n, ¬ (T.ln i ≤ n ∧ n < T.ln (i + 1)) → m'' n = m n := fun n hn => if_neg hn
  have e1 : ∀ n, D n → m'' n = m n := fun n hn => e0 n (by have := hDlt n hn; omega)
  have e2 : ∀ j n, j < ops.size → Ls listed j → Dm T D j n → m'' n = m n := by
    rintro j n hj hL (hn | ⟨k, h2, h3, h4⟩)
    · exact e1 n hn
    · have hLk : Ls listed k := by
        rcases h2 with rfl | h2
        · exact hL
        · exact hI.down j k hL h2
      have hkj : k ≤ j := by
        rcases h2 with rfl | h2
        · exact Nat.le_refl _
        · exact Nat.le_of_lt (F.lt j k h2)
      have hne : k ≠ i := fun e => hi (e ▸ hLk)
      refine e0 n ?_
      rcases Nat.lt_or_ge k i with h | h
      · have := T.ln_mono (i := k + 1) (j := i) h (by omega)
        omega
      · have := T.ln_mono (i := i + 1) (j := k) (by omega) (by omega)
        omega
  have e3 : ∀ n, Dx (Dp T D i) (T.ln i) h1.length n → m'' n = m' n := by
    rintro n (hn | hn)
    · rw [e0 n (by have := hDp n hn; omega), hp.agree n hn]
    · exact if_pos ⟨hn.1, by rw [hln]; exact hn.2⟩
  have sub : ∀ n, Dx (Dp T D i) (T.ln i) h1.length n → Dm T D i n := by
    rintro n (hn | hn)
    · exact hn.dm
    · exact .inr ⟨i, .inl rfl, hn.1, by rw [hln]; exact hn.2⟩
  have hb := hp.below
  have hown : ∀ n, T.ln i ≤ n → n < T.ln (i + 1) → Dx (Dp T D i) (T.St i).h.length h1.length n := fun n h2 h3 => .inr ⟨h2, by rw [← hln]; exact h3⟩
  have hget : ∀ n, T.ln i ≤ n → (T.St (i + 1)).h[n]? = h1[n]? := by
    intro n hn
    rw [hs, List.getElem?_append_right hn, List.getElem?_drop]
    congr 1
    unfold Trace.ln at *
    omega
  have inown : ∀ j n, T.ln j ≤ n → n < T.ln (j + 1) → Dm T D j n := fun j n h2 h3 => .inr ⟨j, .inl rfl, h2, h3⟩
  refine ⟨m'', by simp [hI.size], down_set hI.down hsz hpre, fun n hn => (e1 n hn).trans (hI.agree n hn), ?_, hI.below.trans (hb.mono hA.rel.le), .inl ⟨?_, ?_, ?_, ?_, ?_⟩⟩
  · exact hI.tmps.put F ho hI.size (hv.mono sub e3) e1 e2
  · intro j hj hL h2
    rcases Ls.set hL with rfl | hL
    · omega
    · exact hA.noc j hj hL h2
  · exact (hA.rel.frame hb).congr e1
  · exact hA.bel.trans (hb.mono hA.bel.size)
  · intro j n b hj hL h2 h3 hbk
    rcases Ls.set hL with rfl | hL
    · rw [hget n h2] at hbk
      have hd := hown n h2 h3
      refine ⟨(hp.rel.ok n b hd hbk).mono sub e3 (e3 n hd), fun hne => ?_, (hp.rel.own n b hd h2 hbk).congr (e3 n hd)⟩
      rw [e3 n hd]
      exact ⟨hp.rel.lt n b hd hbk hne, Nat.le_trans hA.bel.size (hp.rel.base n b hd h2 hbk hne)⟩
    · obtain ⟨h4, h5, h6⟩ := hA.blk j n b hj hL h2 h3 hbk
      have en := e2 j n hj hL (inown j n h2 h3)
      have hkeep : b ≠ .dead → w'.heap[(m n).block]? = w.heap[(m n).block]? := fun hd => hb.block _ (h5 hd).1
      refine ⟨(h4.keep hkeep).mono (fun _ h => h) (fun k hk => e2 j k hj hL hk) en, fun hne => ?_, (h6.keep hkeep).congr en⟩
      rw [en]
      exact ⟨Nat.lt_of_lt_of_le (h5 hne).1 hb.size, (h5 hne).2⟩
  · intro j n b j' n' b' hj hL h2 h3 hbk hd hj' hL' h2' h3' hbk' hd' he
    rcases Ls.set hL with rfl | hLo
    · rw [hget n h2] at hbk
      have hdn := hown n h2 h3
      rcases Ls.set hL' with rfl | hLo'
      · rw [hget n' h2'] at hbk'
        have hdn' := hown n' h2' h3'
        rw [e3 n hdn, e3 n' hdn'] at he
        exact hp.rel.inj n n' b b' hdn hdn' h2 h2' hbk hbk' hd hd' he
      · have en := e2 j' n' hj' hLo' (inown j' n' h2' h3')
        rw [e3 n hdn, en] at he
        have x1 := hp.rel.base n b hdn h2 hbk hd
        have x2 := ((hA.blk j' n' b' hj' hLo' h2' h3' hbk').2.1 hd').1
        omega
    · have en := e2 j n hj hLo (inown j n h2 h3)
      rcases Ls.set hL' with rfl | hLo'
      · rw [hget n' h2'] at hbk'
        have hdn' := hown n' h2' h3'
        rw [en, e3 n' hdn'] at he
        have x1 := hp.rel.base n' b' hdn' h2' hbk' hd'
        have x2 := ((hA.blk j n b hj hLo h2 h3 hbk).2.1 hd).1
        omega
      · have en' := e2 j' n' hj' hLo' (inown j' n' h2' h3')
        rw [en, en'] at he
        exact hA.inj j n b j' n' b' hj hLo h2 h3 hbk hd hj' hLo' h2' h3' hbk' hd' he

/-- what is asked at an operation that makes memory -/
theorem HA.ready (F : RegF ops ms) (hA : HA T B lo D w0 listed w m) {i : Nat} (hil : i < ops.size) (hk : T.kd i = 1) (hpre : ∀ j, (nthN ms i).testBit j = true → Ls listed j) : Rel w.heap.size (T.ln i) (Dp T D i) m (T.St i).h w := by
  have hc : ∀ k, k < i → T.kd k ≠ 2 := fun k hk' h2 => by have := T.tame_first hil hk h2; omega
  have old : ∀ n, D n → (T.St i).h[n]? = h0[n]? := fun n hn => by
    rw [T.front (Nat.zero_le i) (by omega) (fun k _ hk => hc k hk) (by rw [Trace.ln0]; exact hA.rel.dom n hn), T.st0]
  have hDp : ∀ n, Dp T D i n → n < T.ln i := by
    rintro n (hn | ⟨j, h2, h3, h4⟩)
    · exact Nat.lt_of_lt_of_le (by rw [Trace.ln0]; exact hA.rel.dom n hn) (T.ln_mono (Nat.zero_le i) (by omega))
    · exact Nat.lt_of_lt_of_le h4 (T.ln_mono (F.lt i j h2) (by omega))
  have ok : ∀ n b, Dp T D i n → (T.St i).h[n]? = some b → BlkOk (Dp T D i) m w n b ∧ (b ≠ .dead → (m n).block < w.heap.size) := by
    rintro n b (hn | ⟨j, h2, h3, h4⟩) hb
    · rw [old n hn] at hb
      exact ⟨(hA.rel.ok n b hn hb).mono (fun _ => .inl) (fun _ _ => rfl) rfl, hA.rel.lt n b hn hb⟩
    · have hji := F.lt i j h2
      rw [T.front (i := j + 1) hji (by omega) (fun k _ hk => hc k hk) h4] at hb
      obtain ⟨x1, x2, _⟩ := hA.blk j n b (by omega) (hpre j h2) h3 h4 hb
      exact ⟨x1.mono (fun k hk => hk.of_pred F h2) (fun _ _ => rfl) rfl, fun hd => (x2 hd).1⟩
  refine ⟨Nat.le_refl _, hDp, fun n b hn hb => (ok n b hn hb).1, fun n b hn hb => (ok n b hn hb).2, ?_, fun n b hn _ hb => (ok n b hn hb).2, ?_, ?_⟩
  · intro n b hn hl; have := hDp n hn; omega
  · intro n b hn hl; have := hDp n hn; omega
  · intro n n' b b' hn hn' hl; have := hDp n hn; omega
end
end Go.Rex
