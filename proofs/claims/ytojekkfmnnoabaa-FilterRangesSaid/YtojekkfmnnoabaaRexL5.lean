/- An executor of the program's functions on trees of values, proved sound. -/
import Derived.Test.YtojekkfmnnoabaaRexL4
set_option linter.unusedSimpArgs false
set_option linter.unusedVariables false
set_option linter.defProp false
namespace Go.Rex
open Go.RowKit

section
variable {C : Ctx} {P : Program} {ops : Array Oper} {ms : List Nat} {tm0 : List Value} {h0 : List Blk} {T : Trace C P ops ms tm0 h0} {B lo : Nat} {D : Nat → Prop} {m0 : NMap} {w0 : World} {a0 : Act}
variable {listed : Array Bool} {a : Act} {w : World} {m : NMap}

/-- no operation of a chain that comes behind is done -/
theorem Inv.chain_lt (hI : Inv T B lo D m0 w0 a0 listed a w m) {i j : Nat} (hi : ¬ Ls listed i) (hk : T.kd i = 2) (hj : j < ops.size) (hL : Ls listed j) (hkj : T.kd j ≠ 0) : j < i := by
  have hne : j ≠ i := fun e => hi (e ▸ hL)
  rcases T.kd_le hj with h | h | h
  · exact absurd h hkj
  · exact T.tame_first hj h hk
  · rcases Nat.lt_or_ge j i with h' | h'
    · exact h'
    · exact absurd (hI.down j i hL (T.chain_waits (i := j) (j := i) (by omega) hj h (by omega))) hi

/-- what is asked at an operation of the chain -/
theorem Inv.ready (F : RegF ops ms) (hr0 : Rel B lo D m0 h0 w0) (hlo : lo ≤ h0.length) (hI : Inv T B lo D m0 w0 a0 listed a w m) {i : Nat} (hil : i < ops.size) (hi : ¬ Ls listed i) (hpre : ∀ j, (nthN ms i).testBit j = true → Ls listed j) (hk : T.kd i = 2) :
    Rel B lo (Dx D h0.length (T.ln i)) m (T.St i).h w := by
  have hl : ∀ k, k < i → T.kd k ≠ 0 → Ls listed k := fun k hki hkk => hpre k (T.chain_waits hki hil hk hkk)
  rcases hI.heap with hA | ⟨q, h1, h2, h3, h4, h5⟩
  · exact hA.full hr0 hlo hI.agree F (by omega) hl
  · have hq := hI.chain_lt hi hk h1 h3 (by omega)
    have hs := T.same (i := q + 1) (j := i) hq (by omega) fun k hk1 hk2 => by
      by_cases h0 : T.kd k = 0
      · exact h0
      · have hLk := hl k hk2 h0
        rcases T.kd_le (i := k) (by omega) with h | h | h
        · exact h
        · have := T.tame_first (by omega) h h2; omega
        · have := h4 k (by omega) hLk h; omega
    have hln : T.ln i = T.ln (q + 1) := by unfold Trace.ln; rw [hs]
    rw [hln, hs]
    exact h5

theorem Inv.chain (F : RegF ops ms) (hI : Inv T B lo D m0 w0 a0 listed a w m) {i : Nat} {o : Oper} (ho : ops[i]? = some o) (hi : ¬ Ls listed i) (hpre : ∀ j, (nthN ms i).testBit j = true → Ls listed j) (hk : T.kd i = 2)
    {h1 : List Blk} {v' : Value} {w' : World} {m' : NMap} (hs : (T.St (i + 1)).h = h1) (hp : Post B lo (Dx D h0.length (T.ln i)) m (T.St i).h w m' h1 w') (hv : VR (Dx (Dx D h0.length (T.ln i)) (T.ln i) h1.length) m' (T.V i) v') :
    Inv T B lo D m0 w0 a0 (listed.setIfInBounds i true) (a.put o.dst v') w' m' := by
  have hil := lt_of_ops ho
  have hsz : i < listed.size := by rw [hI.size]; exact hil
  have hgr : T.ln i ≤ h1.length := hp.grow
  have hln : T.ln (i + 1) = h1.length := by unfold Trace.ln; rw [hs]
  have h0l : h0.length ≤ T.ln i := by rw [← Trace.ln0 (T := T)]; exact T.ln_mono (Nat.zero_le _) (by omega)
  have hnew : ∀ j n, j < ops.size → Ls listed j → Dm T D j n → m' n = m n := by
    rintro j n hj hL (hn | ⟨k, h2, h3, h4⟩)
    · exact hp.agree n (.inl hn)
    · have hLk : Ls listed k := by
        rcases h2 with rfl | h2
        · exact hL
        · exact hI.down j k hL h2
      have hkj : k ≤ j := by
        rcases h2 with rfl | h2
        · exact Nat.le_refl _
        · exact Nat.le_of_lt (F.lt j k h2)
      have hki := hI.chain_lt hi hk (j := k) (by omega) hLk (T.loud (by omega) h3 h4)
      refine hp.agree n (.inr ⟨?_, Nat.lt_of_lt_of_le h4 (T.ln_mono hki (by omega))⟩)
      rw [← Trace.ln0 (T := T)]
      exact Nat.le_trans (T.ln_mono (Nat.zero_le _) (by omega)) h3
  have hfull : Dx (Dx D h0.length (T.ln i)) (T.ln i) h1.length = Dx D h0.length (T.ln (i + 1)) := by rw [hln]; exact Dx.trans h0l hgr
  have sub : ∀ n, Dx D h0.length (T.ln (i + 1)) n → Dm T D i n := by
    rintro n (hn | hn)
    · exact .inl hn
    · obtain ⟨j, h2, h3, h4⟩ := T.owner (i := i + 1) (by omega) (by rw [Trace.ln0]; exact hn.1) hn.2
      refine .inr ⟨j, ?_, h3, h4⟩
      rcases Nat.lt_or_ge j i with h | h
      · exact .inr (T.chain_waits h hil hk (T.loud (by omega) h3 h4))
      · exact .inl (by omega)
  refine ⟨by simp [hI.size], down_set hI.down hsz hpre, fun n hn => (hp.agree n (.inl hn)).trans (hI.agree n hn), ?_, hI.below.trans hp.below, .inr ⟨i, hil, hk, .mk hsz (.inl rfl), fun j hj hL hc => ?_, ?_⟩⟩
  · exact hI.tmps.put F ho hI.size (by rw [hfull] at hv; exact hv.mono sub (fun _ _ => rfl)) (fun n hn => hp.agree n (.inl hn)) hnew
  · rcases Ls.set hL with rfl | hL
    · exact Nat.le_refl _
    · exact Nat.le_of_lt (hI.chain_lt hi hk hj hL (by omega))
  · have := hp.rel
    unfold Trace.ln at hfull
    rw [hs] at hfull ⊢
    unfold Trace.ln
    rw [hs]
    rwa [hfull] at this

/-- all is done -/
theorem Inv.done (F : RegF ops ms) (hr0 : Rel B lo D m0 h0 w0) (hlo : lo ≤ h0.length) (hI : Inv T B lo D m0 w0 a0 listed a w m) (hall : ∀ i, i < ops.size → Ls listed i) :
    Post B lo D m0 h0 w0 m (T.St ops.size).h w ∧ VRs (Dx D h0.length (T.ln ops.size)) m (T.St ops.size).tm a.tmps.toList ∧ a.defers = a0.defers := by
  have h0l : h0.length ≤ T.ln ops.size := by rw [← Trace.ln0 (T := T)]; exact T.ln_mono (Nat.zero_le _) (Nat.le_refl _)
  have hrel : Rel B lo (Dx D h0.length (T.ln ops.size)) m (T.St ops.size).h w := by
    rcases hI.heap with hA | ⟨q, h1, h2, h3, h4, h5⟩
    · exact hA.full hr0 hlo hI.agree F (Nat.le_refl _) fun k hk _ => hall k hk
    · have hs := T.same (i := q + 1) (j := ops.size) h1 (Nat.le_refl _) fun k hk1 hk2 => by
        rcases T.kd_le (i := k) (by omega) with h | h | h
        · exact h
        · have := T.tame_first (by omega) h h2; omega
        · have := h4 k (by omega) (hall k hk2) h; omega
      have hln : T.ln ops.size = T.ln (q + 1) := by unfold Trace.ln; rw [hs]
      rw [hln, hs]
      exact h5
  refine ⟨⟨hI.agree, hrel, hI.below, h0l⟩, ⟨by rw [hI.tmps.len, T.tm_len (Nat.le_refl _)], fun t v v' hv hv' => ?_⟩, hI.tmps.df⟩
  have hlen := T.tm_len (i := ops.size) (Nat.le_refl _)
  have htl : t < tm0.length := by
    obtain ⟨h1, _⟩ := List.getElem?_eq_some_iff.1 hv
    rw [hlen] at h1
    exact h1
  by_cases hw : ∃ (j : Nat) (p : Oper), ops[j]? = some p ∧ p.dst = some t
  · obtain ⟨j, p, hp, hd⟩ := hw
    have hj := lt_of_ops hp
    rw [T.tm_new F hj (Nat.le_refl _) hp hd htl] at hv
    obtain rfl := Option.some.inj hv
    refine (hI.tmps.new j p t v' hp (hall j hj) hd hv').mono ?_ (fun _ _ => rfl)
    rintro n (hn | ⟨k, h2, h3, h4⟩)
    · exact .inl hn
    · have hkj : k ≤ j := by
        rcases h2 with rfl | h2
        · exact Nat.le_refl _
        · exact Nat.le_of_lt (F.lt j k h2)
      refine .inr ⟨?_, Nat.lt_of_lt_of_le h4 (T.ln_mono (by omega) (Nat.le_refl _))⟩
      rw [← Trace.ln0 (T := T)]
      exact Nat.le_trans (T.ln_mono (Nat.zero_le _) (by omega)) h3
  · rw [T.tm_old (Nat.le_refl _) fun k o _ ho hd => hw ⟨k, o, ho, hd⟩] at hv
    exact (hI.tmps.old t v v' (fun k o ho _ hd => hw ⟨k, o, ho, hd⟩) hv hv').mono (fun _ => .inl) (fun _ _ => rfl)

theorem ready_ls {i : Nat} (hsz : listed.size = ops.size) (hi : i ∈ Region.ready .any ops listed) : i < ops.size ∧ ¬ Ls listed i ∧ ∃ o, ops[i]? = some o ∧ ∀ e ∈ o.after, Region.binds .any e = true → Ls listed e.on := by
  obtain ⟨h1, o, ho, h2⟩ := mem_ready.1 hi
  have hil := lt_of_ops ho
  refine ⟨hil, fun h => ?_, o, ho, fun e he hb => h2 e he hb⟩
  unfold Ls at h
  have hl : i < listed.size := by omega
  simp only [Array.getD_eq_getD_getElem?, Array.getElem?_eq_getElem hl, Option.getD_some] at h h1
  rw [h1] at h
  cases h
theorem Inv.pre (F : RegF ops ms) (hI : Inv T B lo D m0 w0 a0 listed a w m) {i : Nat} {o : Oper} (ho : ops[i]? = some o) (h : ∀ e ∈ o.after, Region.binds .any e = true → Ls listed e.on) : ∀ j, (nthN ms i).testBit j = true → Ls listed j := by
  intro j hj
  obtain ⟨e, he, hb, h2⟩ := (F.wait i o ho j).1 hj
  rcases h2 with rfl | h2
  · exact h e he hb
  · exact hI.down e.on j (h e he hb) h2
theorem ready_none (F : RegF ops ms) (hsz : listed.size = ops.size) (h : Region.ready .any ops listed = []) : ∀ i, i < ops.size → Ls listed i := by
  intro i
  induction i using Nat.strongRecOn with
  | _ i ih =>
  intro hi
  by_cases hL : Ls listed i
  · exact hL
  · exfalso
    have ho : ops[i]? = some ops[i] := Array.getElem?_eq_getElem hi
    have : i ∈ Region.ready .any ops listed := by
      refine mem_ready.2 ⟨?_, ops[i], ho, fun e he hb => ih e.on (F.lt i e.on ((F.wait i _ ho e.on).2 ⟨e, he, hb, .inl rfl⟩)) ?_⟩
      · unfold Ls at hL
        have hl : i < listed.size := by omega
        simp only [Array.getD_eq_getD_getElem?, Array.getElem?_eq_getElem hl, Option.getD_some] at hL ⊢
        simpa using hL
      · have := F.lt i e.on ((F.wait i _ ho e.on).2 ⟨e, he, hb, .inl rfl⟩)
        omega
    rw [h] at this
    cases this
theorem count_set {i : Nat} (hi : i < listed.size) (hL : ¬ Ls listed i) : (listed.setIfInBounds i true).toList.count false + 1 = listed.toList.count false := by
  have hl : i < listed.toList.length := by simpa using hi
  have hv : listed.toList[i] = false := by
    unfold Ls at hL
    simp only [Array.getD_eq_getD_getElem?, Array.getElem?_eq_getElem hi, Option.getD_some] at hL
    simpa using hL
  rw [Array.toList_setIfInBounds, List.count_set hl, hv]
  have : 0 < listed.toList.count false := List.count_pos_iff.2 (hv ▸ List.getElem_mem hl)
  rw [if_pos (show (false == false) = true from rfl), if_neg (show ¬ (true == false) = true by decide)]
  omega

/-- all orders -/
theorem Inv.all (hC : CtxOk P C) (F : RegF ops ms) (hr0 : Rel B lo D m0 h0 w0) (hlo : lo ≤ h0.length) (hwr : WrOk lo (T.St ops.size).wr) {ro : Option Nat} {n : Nat} {Q : Exit → Act → World → Prop}
    (hQ : ∀ a' w' m', Post B lo D m0 h0 w0 m' (T.St ops.size).h w' → VRs (Dx D h0.length (T.ln ops.size)) m' (T.St ops.size).tm a'.tmps.toList → a'.defers = a0.defers → Q .normal a' w') :
    ∀ (fuel : Nat) (listed : Array Bool) (a : Act) (w : World) (m : NMap), Inv T B lo D m0 w0 a0 listed a w m → listed.toList.count false ≤ fuel → wpAnyIn (Fw ro) n P .any ops Q fuel listed a w := by
  intro fuel
  induction fuel with
  | zero =>
    intro listed a w m hI hc
    have hno : Region.ready .any ops listed = [] := by
      cases hr : Region.ready .any ops listed with
      | nil => rfl
      | cons i l =>
        obtain ⟨h1, h2, _⟩ := ready_ls hI.size (hr ▸ List.mem_cons_self : i ∈ Region.ready .any ops listed)
        have := count_set (by rw [hI.size]; exact h1) h2
        omega
    obtain ⟨h1, h2, h3⟩ := hI.done F hr0 hlo (ready_none F hI.size hno)
    exact ⟨hno, hQ a w m h1 h2 h3⟩
  | succ fuel ih =>
    intro listed a w m hI hc
    refine ⟨fun hno => ?_, fun i hir => ?_⟩
    · obtain ⟨h1, h2, h3⟩ := hI.done F hr0 hlo (ready_none F hI.size hno)
      exact hQ a w m h1 h2 h3
    · obtain ⟨hil, hi, o, ho, hedge⟩ := ready_ls hI.size hir
      have hpre := hI.pre F ho hedge
      have hcnt := count_set (listed := listed) (by rw [hI.size]; exact hil) hi
      have hρ := hI.tmps.operands F hI.down ho hi hpre
      have hwant := hI.tmps.wanted F hI.down ho hi hpre
      unfold wpOpIn
      rw [ho]
      simp only
      rw [hwant]
      cases T.kdp i o ho with
      | skip kk vv hw hs =>
        rw [if_neg (by rw [hw]; simp)]
        refine ⟨fun _ _ => trivial, ?_⟩
        exact ih _ _ _ m (hI.quiet F ho hpre kk (by rw [vv]; exact VR.undef)) (by omega)
      | pure kk hw hp hs =>
        rw [if_pos hw]
        obtain ⟨v', h1, h2⟩ := pop_sound hρ hp
        refine ⟨fun _ _ => trivial, ?_⟩
        show o.uponIn (Fw ro) n P a _ Q ((o.semAt ro a.eval).run P w)
        rw [Oper.semAt_eq _ _ _ (pop_nodefer hp), h1 w]
        exact ih _ _ _ m (hI.quiet F ho hpre kk (h2.mono (fun _ h => h.dm) (fun _ _ => rfl))) (by omega)
      | tame kk h1 w1 hw hx hch hg hs hl =>
        rw [if_pos hw]
        have hA : HA T B lo D w0 listed w m := by
          rcases hI.heap with hA | ⟨q, q1, q2, q3, q4, q5⟩
          · exact hA
          · exact absurd (hI.down q i q3 (T.chain_waits (T.tame_first hil kk q2) q1 q2 (by omega))) hi
        refine xop_in' hC (hA.ready F hil kk hpre) (Nat.le_refl _) hρ hx (wge_ok hg) _ fun v' w' m' hp hv => ?_
        obtain ⟨m'', hI'⟩ := hI.tame F ho hi hpre kk hA (h1 := h1) (by rw [hs]) hp hv
        exact ih _ _ _ m'' hI' (by omega)
      | chain kk h1 w1 hw hx hn hl hs =>
        rw [if_pos hw]
        have hR := hI.ready F hr0 hlo hil hi hpre kk
        have hw1 : WrOk lo w1 := by
          have := T.wr_le (i := i + 1) (j := ops.size) hil (Nat.le_refl _) hwr
          rw [hs] at this
          exact this.min.2
        have h0l : h0.length ≤ T.ln i := by rw [← Trace.ln0 (T := T)]; exact T.ln_mono (Nat.zero_le _) (by omega)
        refine xop_in' hC hR (Nat.le_trans hlo h0l) (fun x hx' => (hρ x hx').mono ?_ (fun _ _ => rfl)) hx hw1 _ fun v' w' m' hp hv => ?_
        · rintro k (hk | ⟨j, h2, h3, h4⟩)
          · exact .inl hk
          · have hji := F.lt i j h2
            refine .inr ⟨?_, Nat.lt_of_lt_of_le h4 (T.ln_mono hji (by omega))⟩
            rw [← Trace.ln0 (T := T)]
            exact Nat.le_trans (T.ln_mono (Nat.zero_le _) (by omega)) h3
        · exact ih _ _ _ m' (hI.chain F ho hi hpre kk (h1 := h1) (by rw [hs]) hp hv) (by omega)
end

theorem drawSound {P : Program} {C : Ctx} (hC : CtxOk P C) (hm : P.follows .mixedOrders = true) {id : Nat} {ops : Array Oper} {tm tm' : List Value} {h h' : List Blk} {wr : Option Nat} (hv : runDraw C P ops tm h = some (tm', h', wr))
    {ro' : Option Nat} {n B lo : Nat} {D : Nat → Prop} {m : NMap} {w : World} {a : Act} {Q : Exit → Act → World → Prop} (hr : Rel B lo D m h w) (hlo : lo ≤ h.length) (hA : VRs D m tm a.tmps.toList) (hw : WrOk lo wr)
    (hQ : ∀ a' w' m', Post B lo D m h w m' h' w' → VRs (Dx D h.length h'.length) m' tm' a'.tmps.toList → a'.defers = a.defers → Q .normal a' w') : (Code.region id ops true).wpIn (Fw ro') n P Q a w := by
  unfold runDraw at hv
  split at hv
  · rename_i hok
    have F := drawOk_facts hok
    cases hx : drawAll C P ops (masks ops.toList []) ops.toList 0 { tm, h, np := [], chain := false, wr := none } with
    | none => rw [hx] at hv; cases hv
    | some s =>
      rw [hx] at hv
      obtain ⟨rfl, rfl, rfl⟩ : s.tm = tm' ∧ s.h = h' ∧ s.wr = wr := by simpa using hv
      obtain ⟨T, hT⟩ := trace_of hx
      have hrd := hr.frame (w' := w.drew) ((Below.refl _ _).drew)
      have hno : ∀ i, ¬ Ls (Array.replicate ops.size false) i := by
        intro i hi
        unfold Ls at hi
        simp only [Array.getD_eq_getD_getElem?, Array.getElem?_replicate] at hi
        split at hi <;> simp at hi
      refine wpIn_region_any hm ?_
      refine Inv.all (T := T) (m0 := m) (w0 := w.drew) (a0 := a) hC F hrd hlo (by rw [hT]; exact hw) ?_ ops.size _ a w.drew m ⟨by simp, fun i j hi => absurd hi (hno i), fun _ _ => rfl, ⟨rfl, hA.len, fun i o t v' _ hi => absurd hi (hno i), fun t v v' _ h1 h2 => hA.at' t v v' h1 h2⟩, Below.refl _ _,
        .inl ⟨fun i _ hi => absurd hi (hno i), hrd, Below.refl _ _, fun i n b _ hi => absurd hi (hno i), fun i n b i' n' b' _ hi => absurd hi (hno i)⟩⟩ ?_
      · intro a' w' m' hp hvs hd
        unfold Trace.ln at hvs
        rw [hT] at hp hvs
        exact hQ a' w' m' ((Post.frame hr (w' := w.drew) ((Below.refl _ _).drew)).trans (by rw [Dx.refl]; exact hp)) hvs hd
      · rw [Array.toList_replicate, List.count_replicate]; simp
  · cases hv
end Go.Rex
