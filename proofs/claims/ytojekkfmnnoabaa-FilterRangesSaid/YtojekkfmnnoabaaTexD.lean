/- An executor of the program's functions on trees of values, proved sound. -/
import Derived.Test.YtojekkfmnnoabaaTexC
set_option linter.unusedSimpArgs false
set_option linter.unusedVariables false
set_option linter.defProp false
namespace Go.Rex
open Go.RowKit
section
variable {C : Ctx} {P : Program}
/-- what a call yields, on trees -/
def Spec (C : Ctx) (f : FuncId) (args : List TV) (r : TS) : Prop :=
  ∀ Fz h vs, (∀ n, Fz n → n < h.length) → VLs Fz h noL args vs → ∃ v h' Fz' L', C.call f vs h = some (v, h', none) ∧ Grow h Fz Fz' ∧ St h Fz' L' r [v] h'

/-! ### operations: those that look at no memory, those that grow it, those that write -/
def OpP (P : Program) (o : Oper) (s s' : TS) : Prop :=
  ∀ h0 Fz L tm h, St h0 Fz L s tm h → ∃ v, Rex.pop P (ev tm) o = some v ∧ ∃ Fz' L', Grow h0 Fz Fz' ∧ St h0 Fz' L' s' (putL tm o.dst v) h
def OpG (C : Ctx) (P : Program) (o : Oper) (s s' : TS) : Prop :=
  ∀ h0 Fz L tm h, St h0 Fz L s tm h → Rex.pop P (ev tm) o = none ∧ ∃ v h1, xop C P (ev tm) o h = some (v, h1, none) ∧ Ext h h1 ∧ ∃ Fz' L', Grow h0 Fz Fz' ∧ St h0 Fz' L' s' (putL tm o.dst v) h1
def OpW (C : Ctx) (P : Program) (o : Oper) (s s' : TS) : Prop :=
  ∀ h0 Fz L tm h, St h0 Fz L s tm h → (∃ v, Rex.pop P (ev tm) o = some v ∧ ∃ Fz' L', Grow h0 Fz Fz' ∧ St h0 Fz' L' s' (putL tm o.dst v) h) ∨ Rex.pop P (ev tm) o = none ∧ ∃ v h1 w1, xop C P (ev tm) o h = some (v, h1, w1) ∧ ((w1 = none ∧ Ext h h1) ∨ ∃ nm, w1 = some nm ∧ h0.length ≤ nm ∧ nm < h.length ∧ h.length ≤ h1.length) ∧
    ∃ Fz' L', Grow h0 Fz Fz' ∧ St h0 Fz' L' s' (putL tm o.dst v) h1
theorem OpG.toW {o : Oper} {s s' : TS} (h : OpG C P o s s') : OpW C P o s s' := by
  intro h0 Fz L tm hh hs
  obtain ⟨h1, v, h2, h3, h4, h5⟩ := h h0 Fz L tm hh hs
  exact .inr ⟨h1, v, h2, none, h3, .inl ⟨rfl, h4⟩, h5⟩

def twant (ops : Array Oper) (tm : List TV) (o : Oper) : Option Bool :=
  match o.guard with
  | none => some true
  | some (j, want) => match (ops[j]?).bind (·.dst) with
    | none => none
    | some d => match tnth tm d with
      | .v (.bool b) => some (b == want)
      | .tuple _ => some false
      | _ => none
theorem twant_ok {ops : Array Oper} {Fz : Nat → Prop} {h : List Blk} {L : Nat → LI} {tm : List TV} {vm : List Value} {o : Oper} {b : Bool} (hs : VLs Fz h L tm vm) (hw : twant ops tm o = some b) : Region.wanted o (yielded ops ⟨vm⟩) = b := by
  unfold twant at hw
  unfold Region.wanted
  split at hw
  · rename_i hg
    rw [hg]
    exact Option.some.inj hw
  · rename_i j want hg
    rw [hg]
    simp only
    split at hw
    · cases hw
    · rename_i d hd
      have hv := tev_vl hs (.tmp d)
      simp only [tev, ev] at hv
      rw [tnth_eq, nth_eq] at hv
      rw [tnth_eq] at hw
      have e : yielded ops ⟨vm⟩ j = match vm[d]? with | some (.bool b) => some b | _ => none := by
        unfold yielded
        rw [hd]
        simp only [Option.bind_some, List.getElem?_toArray]
        rfl
      rw [e]
      cases hx : vm[d]? with
      | none =>
        rw [hx] at hv
        have : tm[d]? = none := by
          rw [List.getElem?_eq_none_iff] at hx ⊢
          rw [← hs.len]; exact hx
        rw [this] at hw
        simp at hw
        subst hw
        rfl
      | some x =>
        rw [hx] at hv
        simp only [Option.getD_some] at hv
        split at hw
        · rename_i b' hb
          rw [hb] at hv
          obtain rfl := hv.bool_inv
          obtain rfl := Option.some.inj hw
          cases b' <;> cases want <;> rfl
        · rename_i l hb
          rw [hb] at hv
          obtain rfl := Option.some.inj hw
          cases hv
          rfl
        · cases hw

def TO (C : Ctx) (P : Program) (ops : Array Oper) (l : List Oper) (s : TS) (Q : TS → Prop) : Prop :=
  ∀ h0 Fz L tm h, St h0 Fz L s tm h → RO C P h0.length ops l tm h (fun tm' h' => ∃ s' Fz' L', Q s' ∧ Grow h0 Fz Fz' ∧ St h0 Fz' L' s' tm' h')
variable {ops : Array Oper} {o : Oper} {rest : List Oper} {s s' : TS} {Q : TS → Prop}
theorem TO.nil (hq : Q s) : TO C P ops [] s Q := fun _ Fz L _ _ hs => RO.nil ⟨s, Fz, L, hq, Grow.refl _ _, hs⟩
theorem TO.p (hw : twant ops s.tm o = some true) (ho : OpP P o s s') (hq : TO C P ops rest s' Q) : TO C P ops (o :: rest) s Q := by
  intro h0 Fz L tm h hs
  obtain ⟨v, h1, F1, L1, g1, s1⟩ := ho h0 Fz L tm h hs
  obtain ⟨tm', h', wr, q1, q2, s2, F2, L2, q3, g2, s3⟩ := hq h0 F1 L1 _ h s1
  exact RO.pop (twant_ok hs.tmr hw) h1 rfl ⟨tm', h', wr, q1, q2, s2, F2, L2, q3, g1.trans g2, s3⟩
theorem TO.w (hw : twant ops s.tm o = some true) (ho : OpW C P o s s') (hq : TO C P ops rest s' Q) : TO C P ops (o :: rest) s Q := by
  intro h0 Fz L tm h hs
  rcases ho h0 Fz L tm h hs with ⟨v, h1, F1, L1, g1, s1⟩ | ⟨hn, v, h1, w1, hx, hw1, F1, L1, g1, s1⟩
  · obtain ⟨tm', h', wr, q1, q2, s2, F2, L2, q3, g2, s3⟩ := hq h0 F1 L1 _ h s1
    exact RO.pop (twant_ok hs.tmr hw) h1 rfl ⟨tm', h', wr, q1, q2, s2, F2, L2, q3, g1.trans g2, s3⟩
  obtain ⟨tm', h', wr, q1, q2, s2, F2, L2, q3, g2, s3⟩ := hq h0 F1 L1 _ h1 s1
  refine RO.act (twant_ok hs.tmr hw) hn hx ?_ rfl ⟨tm', h', wr, q1, q2, s2, F2, L2, q3, g1.trans g2, s3⟩
  rcases hw1 with ⟨rfl, _⟩ | ⟨nm, rfl, hl, _⟩
  · rfl
  · simpa [wge] using hl
theorem TO.g (hw : twant ops s.tm o = some true) (ho : OpG C P o s s') (hq : TO C P ops rest s' Q) : TO C P ops (o :: rest) s Q := TO.w hw ho.toW hq
theorem TO.skip (hw : twant ops s.tm o = some false) (hq : TO C P ops rest ⟨tput s.tm o.dst (.tuple []), s.hp⟩ Q) : TO C P ops (o :: rest) s Q := by
  intro h0 Fz L tm h hs
  exact RO.skip (twant_ok hs.tmr hw) rfl (hq h0 Fz L _ h (hs.put o.dst (.tuple L [] [] rfl (fun i p x h => by simp at h))))
theorem TO.weak {l : List Oper} (hw : Wk s s') (hx : TO C P ops l s' Q) : TO C P ops l s Q := by
  intro h0 Fz L tm h hs
  obtain ⟨F1, L1, g1, s1⟩ := hw h0 Fz L tm h hs
  obtain ⟨tm', h', wr, q1, q2, s2, F2, L2, q3, g2, s3⟩ := hx h0 F1 L1 tm h s1
  exact ⟨tm', h', wr, q1, q2, s2, F2, L2, q3, g1.trans g2, s3⟩
theorem TX.region {id : Nat} {l : List Oper} {Q : Exit → TS → Prop} (hl : ops.toList = l) (hreg : regOk l = true) (hr : TO C P ops l s (fun s' => Q .normal s')) : TX C P (.region id ops false) s Q := by
  intro h0 Fz L tm h hs
  refine XP.region hl hreg ?_
  obtain ⟨tm', h', wr, q1, q2, s2, F2, L2, q3, g2, s3⟩ := hr h0 Fz L tm h hs
  exact ⟨tm', h', wr, q1, q2, rfl, s2, F2, L2, q3, g2, s3⟩

/-- a region that draws; c: something may have been written -/
def TD (C : Ctx) (P : Program) (ops : Array Oper) (ms : List Nat) (l : List Oper) (i : Nat) (np : List Nat) (c : Bool) (s : TS) (Q : TS → Prop) : Prop :=
  ∀ h0 Fz L tm h np' c' wr, St h0 Fz L s tm h → wge wr h0.length = true → (c = false → c' = false) ∧ (∀ j, j ∈ np' → j ∈ np) → RD C P h0.length ops ms l i ⟨tm, h, np', c', wr⟩ (fun tm' h' => ∃ s' Fz' L', Q s' ∧ Grow h0 Fz Fz' ∧ St h0 Fz' L' s' tm' h')
variable {ms : List Nat} {i : Nat} {np : List Nat} {c : Bool}
theorem TD.nil (hq : Q s) : TD C P ops ms [] i np c s Q := fun _ Fz L _ _ _ _ _ hs hw _ => RD.nil hw ⟨s, Fz, L, hq, Grow.refl _ _, hs⟩
theorem TD.p (hw : twant ops s.tm o = some true) (ho : OpP P o s s') (hq : TD C P ops ms rest (i + 1) np c s' Q) : TD C P ops ms (o :: rest) i np c s Q := by
  intro h0 Fz L tm h np' c' wr hs hwr hc
  obtain ⟨v, h1, F1, L1, g1, s1⟩ := ho h0 Fz L tm h hs
  obtain ⟨s2, q1, q2, t2, F2, L2, q3, g2, s3⟩ := hq h0 F1 L1 _ h np' c' wr s1 hwr hc
  exact RD.pop (twant_ok hs.tmr hw) h1 rfl ⟨s2, q1, q2, t2, F2, L2, q3, g1.trans g2, s3⟩
theorem TD.skip (hw : twant ops s.tm o = some false) (hq : TD C P ops ms rest (i + 1) np c ⟨tput s.tm o.dst (.tuple []), s.hp⟩ Q) : TD C P ops ms (o :: rest) i np c s Q := by
  intro h0 Fz L tm h np' c' wr hs hwr hc
  exact RD.skip (twant_ok hs.tmr hw) rfl (hq h0 Fz L _ h np' c' wr (hs.put o.dst (.tuple L [] [] rfl (fun i p x h => by simp at h))) hwr hc)
theorem TD.g (hw : twant ops s.tm o = some true) (ho : OpG C P o s s') (hq : TD C P ops ms rest (i + 1) (i :: np) false s' Q) : TD C P ops ms (o :: rest) i np false s Q := by
  intro h0 Fz L tm h np' c' wr hs hwr hc
  obtain rfl : c' = false := hc.1 rfl
  obtain ⟨hn, v, h1, hx, he, F1, L1, g1, s1⟩ := ho h0 Fz L tm h hs
  obtain ⟨s2, q1, q2, t2, F2, L2, q3, g2, s3⟩ := hq h0 F1 L1 _ h1 (i :: np') false wr s1 hwr ⟨fun h => h, fun j hj => by
    rcases List.mem_cons.1 hj with rfl | hj
    · simp
    · exact List.mem_cons_of_mem _ (hc.2 j hj)⟩
  exact RD.act (twant_ok hs.tmr hw) hn hx he rfl ⟨s2, q1, q2, t2, F2, L2, q3, g1.trans g2, s3⟩
theorem TD.w (hw : twant ops s.tm o = some true) (ho : OpW C P o s s') (hnp : np.all (fun j => (nthN ms i).testBit j) = true) (hq : TD C P ops ms rest (i + 1) (i :: np) true s' Q) : TD C P ops ms (o :: rest) i np c s Q := by
  intro h0 Fz L tm h np' c' wr hs hwr hc
  have hwant := twant_ok hs.tmr hw
  have hsub : ∀ j, j ∈ i :: np' → j ∈ i :: np := fun j hj => by
    rcases List.mem_cons.1 hj with rfl | hj
    · simp
    · exact List.mem_cons_of_mem _ (hc.2 j hj)
  have hnp : np'.all (fun j => (nthN ms i).testBit j) = true := by
    rw [List.all_eq_true] at hnp ⊢
    exact fun j hj => hnp j (hc.2 j hj)
  rcases ho h0 Fz L tm h hs with ⟨v, h1, F1, L1, g1, s1⟩ | ⟨hn, v, h1, w1, hx, hw1, F1, L1, g1, s1⟩
  · obtain ⟨s2, q1, q2, t2, F2, L2, q3, g2, s3⟩ := hq h0 F1 L1 _ h np' c' wr s1 hwr ⟨fun h => (by cases h), fun j hj => List.mem_cons_of_mem _ (hc.2 j hj)⟩
    exact RD.pop hwant h1 rfl ⟨s2, q1, q2, t2, F2, L2, q3, g1.trans g2, s3⟩
  have second : ∀ wr', (w1 = none ∨ ∃ nm, w1 = some nm ∧ h0.length ≤ nm) → wr' = wmin wr w1 → wge wr' h0.length = true := by
    rintro wr' (rfl | ⟨nm, rfl, hl⟩) rfl
    · rw [wmin_n2]; exact hwr
    · exact wge_min hwr (by simpa [wge] using hl)
  rcases hw1 with ⟨rfl, he⟩ | ⟨nm, rfl, hl, hlt, hle⟩
  · cases c' with
    | false =>
      obtain ⟨s2, q1, q2, t2, F2, L2, q3, g2, s3⟩ := hq h0 F1 L1 _ h1 (i :: np') false wr s1 hwr ⟨fun h => (by cases h), hsub⟩
      exact RD.act hwant hn hx he rfl ⟨s2, q1, q2, t2, F2, L2, q3, g1.trans g2, s3⟩
    | true =>
      obtain ⟨s2, q1, q2, t2, F2, L2, q3, g2, s3⟩ := hq h0 F1 L1 _ h1 (i :: np') true (wmin wr none) s1 (second _ (.inl rfl) rfl) ⟨fun h => (by cases h), hsub⟩
      refine ⟨s2, ?_, q2, t2, F2, L2, q3, g1.trans g2, s3⟩
      have hle := he.le
      simp only [drawAll, drawStep, if_pos hwant, hn, hx, drawHeap]
      rw [if_neg (by simp), if_pos ⟨hnp, hle⟩]
      exact q1
  · obtain ⟨s2, q1, q2, t2, F2, L2, q3, g2, s3⟩ := hq h0 F1 L1 _ h1 (i :: np') true (wmin wr (some nm)) s1 (second _ (.inr ⟨nm, rfl, hl⟩) rfl) ⟨fun h => (by cases h), hsub⟩
    refine ⟨s2, ?_, q2, t2, F2, L2, q3, g1.trans g2, s3⟩
    simp only [drawAll, drawStep, if_pos hwant, hn, hx, drawHeap]
    rw [if_neg (by simp [wge]; omega), if_pos ⟨hnp, hle⟩]
    exact q1
theorem TD.weak {l : List Oper} (hw : Wk s s') (hx : TD C P ops ms l i np c s' Q) : TD C P ops ms l i np c s Q := by
  intro h0 Fz L tm h np' c' wr hs hwr hc
  obtain ⟨F1, L1, g1, s1⟩ := hw h0 Fz L tm h hs
  obtain ⟨s2, q1, q2, t2, F2, L2, q3, g2, s3⟩ := hx h0 F1 L1 tm h np' c' wr s1 hwr hc
  exact ⟨s2, q1, q2, t2, F2, L2, q3, g1.trans g2, s3⟩
theorem TX.drawn {id : Nat} {l : List Oper} {Q : Exit → TS → Prop} (hok : drawOk ops = true) (hl : ops.toList = l) (hm : masks l [] = ms) (hr : TD C P ops ms l 0 [] false s (fun s' => Q .normal s')) : TX C P (.region id ops true) s Q := by
  intro h0 Fz L tm h hs
  refine XP.drawn hok hl hm ?_
  obtain ⟨s2, q1, q2, t2, F2, L2, q3, g2, s3⟩ := hr h0 Fz L tm h [] false none hs rfl ⟨fun h => h, fun j hj => hj⟩
  exact ⟨s2, q1, q2, rfl, t2, F2, L2, q3, g2, s3⟩

/-! ### the end of a function -/
def hasRef (i : Nat) : Nat → TV → Bool
  | 0, _ => false
  | d + 1, p => match p with
    | .lsl n _ _ => n == i
    | .agg l => l.any (hasRef i d)
    | .tuple l => l.any (hasRef i d)
    | _ => false
/-- each block is named by the result -/
def cov (r : TS) : Bool := match r.tm with
  | [p] => (List.range r.hp.length).all fun i => hasRef i 4 p
  | _ => false
theorem ref_clean {Fz : Nat → Prop} {h : List Blk} {L : Nat → LI} {i : Nat} : ∀ (d k : Nat) {p : TV} {x : Value}, hasRef i d p = true → VL Fz h L p x → clean k x = true → (L i).ok = true ∧ (L i).nm = none
  | 0, k, p, x, hr, hp, hc => by simp [hasRef] at hr
  | d + 1, 0, p, x, hr, hp, hc => by simp [clean] at hc
  | d + 1, k + 1, p, x, hr, hp, hc => by
    have key : ∀ (l : List TV) (l' : List Value), l'.length = l.length → l.any (hasRef i d) = true → l'.all (clean k) = true → (∀ (i : Nat) p x, l[i]? = some p → l'[i]? = some x → VL Fz h L p x) → (L i).ok = true ∧ (L i).nm = none := by
      intro l l' hl hany hall ha
      obtain ⟨p, hp, hr⟩ := List.any_eq_true.1 hany
      obtain ⟨j, hj⟩ := List.mem_iff_getElem?.1 hp
      have hlt := (List.getElem?_eq_some_iff.1 hj).1
      have hx : l'[j]? = some l'[j] := List.getElem?_eq_getElem (by omega)
      exact ref_clean d k hr (ha j _ _ hj hx) (by simpa using List.all_eq_true.1 hall _ (List.mem_of_getElem? hx))
    cases hp with
    | agg _ l l' hl ha => exact key l l' hl (by simpa [hasRef] using hr) (by simpa [clean] using hc) ha
    | tuple _ l l' hl ha => exact key l l' hl (by simpa [hasRef] using hr) (by simpa [clean] using hc) ha
    | lslnil _ n ok hn =>
      obtain rfl : n = i := by simpa [hasRef] using hr
      exact ⟨ok, hn⟩
    | lsl _ n o len nm ok hn hle => simp [clean] at hc
    | _ => simp [hasRef] at hr
theorem VL.ofClean {Fz Fz' : Nat → Prop} {h h' : List Blk} {L L' : Nat → LI} (hL : ∀ n, (L n).ok = true → (L n).nm = none → (L' n).ok = true ∧ (L' n).nm = none) : ∀ (k : Nat) {p : TV} {x : Value}, clean k x = true → VL Fz h L p x → VL Fz' h' L' p x := by
  intro k
  induction k generalizing L L' with
  | zero => intro p x hc; simp [clean] at hc
  | succ k ih =>
    intro p x hc hp
    cases hp with
    | junk _ x => exact .junk L' x
    | v _ x hx => exact .v L' x hx
    | agg _ l l' hl ha =>
      have hc' : l'.all (clean k) = true := by simpa [clean] using hc
      exact .agg L' l l' hl fun i p x h1 h2 => ih hL (by simpa using List.all_eq_true.1 hc' x (List.mem_of_getElem? h2)) (ha i p x h1 h2)
    | tuple _ l l' hl ha =>
      have hc' : l'.all (clean k) = true := by simpa [clean] using hc
      exact .tuple L' l l' hl fun i p x h1 h2 => ih hL (by simpa using List.all_eq_true.1 hc' x (List.mem_of_getElem? h2)) (ha i p x h1 h2)
    | func _ f a b a' b' la ha lb hb =>
      have hc' : a'.all (clean k) = true ∧ b'.all (clean k) = true := by simpa [clean, Bool.and_eq_true] using hc
      have hno : ∀ n, (noL n).ok = true → (noL n).nm = none → (noL n).ok = true ∧ (noL n).nm = none := fun n h => by simp [noL] at h
      exact .func L' f a b a' b' la (fun i p x h1 h2 => ih hno (by simpa using List.all_eq_true.1 hc'.1 x (List.mem_of_getElem? h2)) (ha i p x h1 h2)) lb
        (fun i p x h1 h2 => ih hno (by simpa using List.all_eq_true.1 hc'.2 x (List.mem_of_getElem? h2)) (hb i p x h1 h2))
    | nillist _ es => exact .nillist L' es
    | lslnil _ n ok hn =>
      obtain ⟨h1, h2⟩ := hL n ok hn
      exact .lslnil L' n h1 h2
    | list => simp [clean] at hc
    | fptr => simp [clean] at hc
    | lptr => simp [clean] at hc
    | lsl => simp [clean] at hc
theorem St.clean {h0 h : List Blk} {Fz : Nat → Prop} {L : Nat → LI} {r : TS} {v : Value} (hs : St h0 Fz L r [v] h) (hc : isClean v = true) (hr : cov r = true) {Fz0 : Nat → Prop} (h00 : ∀ n, Fz0 n → n < h0.length) : ∃ L', St h0 Fz0 L' r [v] h0 := by
  obtain ⟨tm, hp⟩ := r
  unfold cov at hr
  split at hr
  · rename_i p htm
    simp only at htm
    subst htm
    simp only at hr
    have hv : VL Fz h L p v := hs.tmr.at' 0 p v rfl rfl
    have hnone : ∀ i, i < hp.length → (L i).ok = true ∧ (L i).nm = none := fun i hi => ref_clean 4 depth (by
      simpa using List.all_eq_true.1 hr i (by simpa using hi)) hv hc
    refine ⟨L, ⟨VLs.cons (hv.ofClean (fun n h1 h2 => ⟨h1, h2⟩) depth hc) VLs.nil, fun n b hb => ?_, hs.dom, fun n n' b b' nm hb hb' _ _ e1 e2 => ?_, h00, Ext.refl _⟩⟩
    · have hlt := (List.getElem?_eq_some_iff.1 hb).1
      have hB := hs.blk n b hb
      obtain ⟨h1, h2⟩ := hnone n hlt
      cases b with
      | dead => trivial
      | rows es rows =>
        obtain ⟨q1, q2, q3, q4, q5⟩ := hB
        rcases q5 with q5 | ⟨nm, cs, e1, _⟩
        · exact ⟨q1, q2, q3, q4, .inl q5⟩
        · rw [h2] at e1; cases e1
      | var row =>
        obtain ⟨q1, nm, cs, e1, _⟩ := hB
        rw [h2] at e1; cases e1
    · have := hnone n (List.getElem?_eq_some_iff.1 hb).1
      rw [this.2] at e1; cases e1
  · cases hr

def tres (load : TypeId → TV → Option TV) (tm : List TV) : ResultVar → Option TV
  | .tmp t => some (tnth tm t)
  | .cell a t => load t (tnth tm a)
def oneT : List TV → TV
  | [p] => p
  | ps => .tuple ps
theorem oneT_vl {Fz : Nat → Prop} {h : List Blk} {L : Nat → LI} {ps : List TV} {vs : List Value} (hs : VLs Fz h L ps vs) : VL Fz h L (oneT ps) (oneOf vs) := by
  have hl := hs.len
  match ps, vs, hl, hs with
  | [p], [v], _, hs => exact hs.at' 0 p v rfl rfl
  | [], [], _, hs => exact .tuple' hs
  | a :: b :: l, a' :: b' :: l', _, hs => exact .tuple' hs
end
end Go.Rex
