/- An executor of the program's functions on trees of values, proved sound. -/
import Derived.Test.YtjlembaicmibhaaRexG2
set_option linter.unusedSimpArgs false
set_option linter.unusedVariables false
set_option linter.defProp false
namespace Go.Rex
open Go.RowKit

/-! ### what the checks of a region say -/
theorem nthN_eq : ∀ (l : List Nat) (n : Nat),nthN l n = l[n]?.getD 0
  | [],n=>by simp [nthN]
  | v :: l,0=>by simp [nthN]
  | v :: l,n + 1=>by simp [nthN,nthN_eq l n]

theorem masks_spec : ∀ (l : List Oper) (acc : List Nat),∃ r,masks l acc = acc ++ r ∧ r.length = l.length ∧ ∀ j o,l[j]? = some o → r[j]? = some (waits (acc ++ r.take j) o.after.toList)
  | [],acc=>⟨[],by simp [masks],rfl,fun j o h=>by simp at h⟩
  | o :: l,acc=>by
    obtain ⟨r,h1,h2,h3⟩:=masks_spec l (acc ++ [waits acc o.after.toList])
    refine ⟨waits acc o.after.toList :: r,?_,by simp [h2],fun j o' hj=>?_⟩
    · simp only [masks];rw [h1];simp
    · cases j with
      | zero=>simp at hj;subst hj;simp
      | succ j =>
        simp only [List.getElem?_cons_succ] at hj
        have:=h3 j o' hj
        simp only [List.getElem?_cons_succ,this,List.take_succ_cons]
        simp

theorem waits_testBit {ms : List Nat} : ∀ (es : List Edge) (j : Nat),(waits ms es).testBit j = true ↔ ∃ e ∈ es,Region.binds .any e = true ∧ (e.on = j ∨ (nthN ms e.on).testBit j = true)
  | [],j=>by simp [waits]
  | e :: es,j=>by
    simp only [waits]
    split
    · rename_i hb
      simp only [Nat.testBit_or,Bool.or_eq_true,waits_testBit es j,Nat.testBit_two_pow,decide_eq_true_eq,List.mem_cons]
      constructor
      · rintro (⟨x,hx,h1,h2⟩|h)
        · exact ⟨x,.inr hx,h1,h2⟩
        · exact ⟨e,.inl rfl,hb,h⟩
      · rintro ⟨x,rfl|hx,h1,h2⟩
        · exact .inr h2
        · exact .inl ⟨x,hx,h1,h2⟩
    · rename_i hb
      rw [waits_testBit es j]
      constructor
      · rintro ⟨x,hx,h1,h2⟩;exact ⟨x,List.mem_cons_of_mem _ hx,h1,h2⟩
      · rintro ⟨x,hx,h1,h2⟩
        rcases List.mem_cons.1 hx with rfl|hx
        · exact absurd h1 hb
        · exact ⟨x,hx,h1,h2⟩

theorem mem_dsts : ∀ (l : List Oper) (k d i : Nat),(d,i) ∈ dsts l k ↔ ∃ j o,i = k + j ∧ l[j]? = some o ∧ o.dst = some d
  | [],k,d,i=>by simp [dsts]
  | o :: l,k,d,i=>by
    have ih:=mem_dsts l (k + 1) d i
    have shift : (∃ j o',i = k + j ∧ (o :: l)[j]? = some o' ∧ o'.dst = some d) ↔ (i = k ∧ o.dst = some d) ∨ ∃ j o',i = k + 1 + j ∧ l[j]? = some o' ∧ o'.dst = some d:=by
      constructor
      · rintro ⟨j,o',h1,h2,h3⟩
        cases j with
        | zero=>simp at h2;subst h2;exact .inl ⟨h1,h3⟩
        | succ j=>exact .inr ⟨j,o',by omega,by simpa using h2,h3⟩
      · rintro (⟨h1,h2⟩|⟨j,o',h1,h2,h3⟩)
        · exact ⟨0,o,h1,by simp,h2⟩
        · exact ⟨j + 1,o',by omega,by simpa using h2,h3⟩
    rw [shift]
    simp only [dsts]
    split
    · rename_i d' hd
      rw [List.mem_cons,ih,hd]
      simp only [Prod.mk.injEq,Option.some.injEq]
      constructor
      · rintro (⟨rfl,rfl⟩|h)
        · exact .inl ⟨rfl,rfl⟩
        · exact .inr h
      · rintro (⟨rfl,rfl⟩|h)
        · exact .inl ⟨rfl,rfl⟩
        · exact .inr h
    · rename_i hd
      rw [ih,hd]
      simp
theorem nodupD_spec : ∀ (l : List (Nat × Nat)),nodupD l = true → ∀ d i j,(d,i) ∈ l → (d,j) ∈ l → i = j
  | [],_,d,i,j,h,_=>by simp at h
  | (d',k) :: l,hn,d,i,j,hi,hj=>by
    simp only [nodupD,Bool.and_eq_true,List.all_eq_true] at hn
    obtain ⟨h1,h2⟩:=hn
    rcases List.mem_cons.1 hi with h3|h3<;>rcases List.mem_cons.1 hj with h4|h4
    · cases h3;cases h4;rfl
    · cases h3;have:=h1 _ h4;simp at this
    · cases h4;have:=h1 _ h3;simp at this
    · exact nodupD_spec l h2 d i j h3 h4

theorem eachOk_spec {ops : Array Oper} {ms : List Nat} {ds : List (Nat × Nat)} : ∀ (l : List Oper) (k : Nat),eachOk ops ms ds l k = true → ∀ j o,l[j]? = some o → opsOk o = true ∧ nthN ms (k + j) < 2 ^ (k + j) ∧ ∀ t ∈ o.looksAt ops,lookOk ms (nthN ms (k + j)) (k + j) t ds = true
  | [],k,_,j,o,h=>by simp at h
  | x :: l,k,hk,j,o,h=>by
    simp only [eachOk,Bool.and_eq_true,decide_eq_true_eq,List.all_eq_true] at hk
    obtain ⟨h1,h2,h3,h4⟩:=hk
    cases j with
    | zero=>simp at h;subst h;exact ⟨h1,h2,h3⟩
    | succ j =>
      have:=eachOk_spec l (k + 1) h4 j o (by simpa using h)
      rwa [show k + (j + 1) = k + 1 + j by omega]

/-- the region's facts -/
structure RegF (ops : Array Oper) (ms : List Nat) : Prop where
  ok : ∀ (i : Nat) (o : Oper),ops[i]? = some o → opsOk o = true
  lt : ∀ i j,(nthN ms i).testBit j = true → j < i
  wait : ∀ (i : Nat) (o : Oper),ops[i]? = some o → ∀ j,(nthN ms i).testBit j = true ↔ ∃ e ∈ o.after,Region.binds .any e = true ∧ (e.on = j ∨ (nthN ms e.on).testBit j = true)
  uniq : ∀ (i j : Nat) (o p : Oper) (d : Tmp),ops[i]? = some o → ops[j]? = some p → o.dst = some d → p.dst = some d → i = j
  look : ∀ (i : Nat) (o : Oper) (t : Tmp),ops[i]? = some o → t ∈ o.looksAt ops → ∀ (j : Nat) (p : Oper),ops[j]? = some p → p.dst = some t → j = i ∨ (nthN ms i).testBit j = true ∨ (nthN ms j).testBit i = true
  none : ∀ (i : Nat),ops[i]? = none → nthN ms i = 0

theorem drawOk0_facts {ops : Array Oper} (h : drawOk0 ops = true) : RegF ops (masks ops.toList []):=by
  simp only [drawOk0,Bool.and_eq_true] at h
  obtain ⟨h1,h2⟩:=h
  obtain ⟨r,e1,e2,e3⟩:=masks_spec ops.toList []
  simp only [List.nil_append] at e1 e3
  rw [e1] at h2 ⊢
  have each:=eachOk_spec _ _ h2
  have nth_lt : ∀ i j,(nthN r i).testBit j = true → j < i:=by
    intro i j hj
    cases ho : ops.toList[i]? with
    | none =>
      have : r[i]? = none:=by
        rw [List.getElem?_eq_none_iff] at ho ⊢
        omega
      rw [nthN_eq,this] at hj
      simp at hj
    | some o =>
      have h3:=(each i o ho).2.1
      rw [Nat.zero_add] at h3
      rcases Nat.lt_or_ge j i with h'|h'
      · exact h'
      · have : (nthN r i).testBit j = false:=Nat.testBit_lt_two_pow (Nat.lt_of_lt_of_le h3 (Nat.pow_le_pow_right (by omega) h'))
        rw [this] at hj;cases hj
  have wait : ∀ (i : Nat) (o : Oper),ops[i]? = some o → ∀ j,(nthN r i).testBit j = true ↔ ∃ e ∈ o.after,Region.binds .any e = true ∧ (e.on = j ∨ (nthN r e.on).testBit j = true):=by
    intro i o ho j
    have h3:=e3 i o (by simpa using ho)
    have h4 : nthN r i = waits (r.take i) o.after.toList:=by rw [nthN_eq,h3];rfl
    have hon : ∀ e ∈ o.after,Region.binds .any e = true → e.on < i:=fun e he hb=>by
      refine nth_lt i e.on ?_
      rw [h4,waits_testBit]
      exact ⟨e,by simpa using he,hb,.inl rfl⟩
    have htk : ∀ k,k < i → nthN (r.take i) k = nthN r k:=fun k hk=>by rw [nthN_eq,nthN_eq,List.getElem?_take,if_pos hk]
    rw [h4,waits_testBit]
    constructor
    · rintro ⟨e,he,hb,hx⟩
      have he' : e ∈ o.after:=by simpa using he
      exact ⟨e,he',hb,by rwa [htk _ (hon e he' hb)] at hx⟩
    · rintro ⟨e,he,hb,hx⟩
      exact ⟨e,by simpa using he,hb,by rwa [htk _ (hon e he hb)]⟩
  refine ⟨fun i o ho=>(each i o (by simpa using ho)).1,nth_lt,wait,?_,?_,?_⟩
  · intro i j o p d ho hp hd hd'
    refine nodupD_spec _ h1 d i j ?_ ?_
    · rw [mem_dsts];exact ⟨i,o,by simp,by simpa using ho,hd⟩
    · rw [mem_dsts];exact ⟨j,p,by simp,by simpa using hp,hd'⟩
  · intro i o t ho ht j p hp hd
    have h3:=(each i o (by simpa using ho)).2.2 t ht
    rw [Nat.zero_add] at h3
    unfold lookOk at h3
    have:=List.all_eq_true.1 h3 (t,j) (by rw [mem_dsts];exact ⟨j,p,by simp,by simpa using hp,hd⟩)
    simp only [bne_self_eq_false,Bool.false_or,Bool.or_eq_true,beq_iff_eq] at this
    rcases this with (h|h)|h
    · exact .inl h
    · exact .inr (.inl h)
    · exact .inr (.inr h)
  · intro i hi
    have : r[i]? = none:=by
      have : ops.toList[i]? = none:=by simpa using hi
      rw [List.getElem?_eq_none_iff] at this ⊢
      omega
    rw [nthN_eq,this];rfl

theorem drawOk_facts {ops : Array Oper} (h : drawOk ops = true) : RegF ops (masks ops.toList []):=by
  simp only [drawOk,Bool.and_eq_true] at h
  exact drawOk0_facts h.1

/-- waiting is transitive -/
theorem RegF.trans {ops : Array Oper} {ms : List Nat} (F : RegF ops ms) : ∀ (i j k : Nat),(nthN ms i).testBit j = true → (nthN ms j).testBit k = true → (nthN ms i).testBit k = true:=by
  intro i
  induction i using Nat.strongRecOn with
  | _ i ih =>
  intro j k hj hk
  cases ho : ops[i]? with
  | none=>rw [F.none i ho] at hj;simp at hj
  | some o =>
    obtain ⟨e,he,hb,hx⟩:=(F.wait i o ho j).1 hj
    refine (F.wait i o ho k).2 ⟨e,he,hb,.inr ?_⟩
    rcases hx with rfl|hx
    · exact hk
    · have : e.on < i:=F.lt i e.on ((F.wait i o ho e.on).2 ⟨e,he,hb,.inl rfl⟩)
      exact ih e.on this j k hx hk
end Go.Rex

namespace Go.Rex
open Go.RowKit

/-! ### the run in the text's order,step by step -/
inductive KdP (C : Ctx) (P : Program) (ops : Array Oper) (m i : Nat) (o : Oper) (s s' : Dr) (v : Value) (k : Nat) : Prop
  | skip (kk : k = 0) (vv : v = undef) (hw : Region.wanted o (yielded ops ⟨s.tm⟩) = false) (hs : s' = { s with tm:=putL s.tm o.dst v }) : KdP C P ops m i o s s' v k
  | pure (kk : k = 0) (hw : Region.wanted o (yielded ops ⟨s.tm⟩) = true) (hp : pop P (ev s.tm) o = some v) (hs : s' = { s with tm:=putL s.tm o.dst v }) : KdP C P ops m i o s s' v k
  | tame (kk : k = 1) (h1 : List Blk) (w1 : Option Nat) (hw : Region.wanted o (yielded ops ⟨s.tm⟩) = true) (hx : xop C P (ev s.tm) o s.h = some (v, h1, w1)) (hc : s.chain = false) (hg : wge w1 s.h.length = true)
      (hs : s' = { tm:=putL s.tm o.dst v,h:=s.h ++ h1.drop s.h.length,np:=i :: s.np,chain:=false,wr:=s.wr }) (hl : s.h.length ≤ h1.length ∨ s'.h = s.h) : KdP C P ops m i o s s' v k
  | chain (kk : k = 2) (h1 : List Blk) (w1 : Option Nat) (hw : Region.wanted o (yielded ops ⟨s.tm⟩) = true) (hx : xop C P (ev s.tm) o s.h = some (v, h1, w1)) (hn : s.np.all (fun j => m.testBit j) = true) (hl : s.h.length ≤ h1.length)
      (hs : s' = { tm:=putL s.tm o.dst v,h:=h1,np:=i :: s.np,chain:=true,wr:=wmin s.wr w1 }) : KdP C P ops m i o s s' v k

theorem drawStep_kd {C : Ctx} {P : Program} {ops : Array Oper} {m i : Nat} {o : Oper} {s s' : Dr} (h : drawStep C P ops m i o s = some s') : ∃ v k,KdP C P ops m i o s s' v k:=by
  unfold drawStep at h
  split at h
  · rename_i hw
    split at h
    · rename_i v hp
      exact ⟨v,0,.pure rfl hw hp (Option.some.inj h).symm⟩
    · unfold drawHeap at h
      split at h
      · rename_i v h1 w1 hx
        split at h
        · rename_i hc
          split at h
          · rename_i he
            refine ⟨v,1,.tame rfl h1 w1 hw hx hc.1 hc.2 ?_ (.inl (by omega))⟩
            rw [← Option.some.inj h,List.drop_of_length_le (by omega)]
            simp
          · refine ⟨v,1,.tame rfl h1 w1 hw hx hc.1 hc.2 (Option.some.inj h).symm ?_⟩
            rcases Nat.lt_or_ge h1.length s.h.length with hl|hl
            · right
              rw [← Option.some.inj h]
              simp only
              rw [List.drop_of_length_le (by omega)]
              simp
            · exact .inl hl
        · split at h
          · rename_i hn
            exact ⟨v,2,.chain rfl h1 w1 hw hx hn.1 hn.2 (Option.some.inj h).symm⟩
          · cases h
      · cases h
  · rename_i hw
    exact ⟨undef,0,.skip rfl rfl (by simpa using hw) (Option.some.inj h).symm⟩

theorem drawAll_trace {C : Ctx} {P : Program} {ops : Array Oper} {ms : List Nat} : ∀ (l : List Oper) (k : Nat) (s s' : Dr), drawAll C P ops ms l k s = some s' →
    ∃ St : Nat → Dr,St 0 = s ∧ (∀ j o,l[j]? = some o → drawStep C P ops (nthN ms (k + j)) (k + j) o (St j) = some (St (j + 1))) ∧ ∀ j,l.length ≤ j → St j = s'
  | [],k,s,s',h=>by
    obtain rfl : s = s':=by simpa [drawAll] using h
    exact ⟨fun _=>s,rfl,fun j o h=>by simp at h,fun _ _=>rfl⟩
  | o :: l,k,s,s',h=>by
    simp only [drawAll] at h
    split at h
    · rename_i s1 h1
      obtain ⟨St,h2,h3,h4⟩:=drawAll_trace l (k + 1) s1 s' h
      refine ⟨fun j=>match j with|0=>s|j + 1=>St j,rfl,fun j o' hj=>?_,fun j hj=>?_⟩
      · cases j with
        | zero=>simp at hj;subst hj;simpa [h2] using h1
        | succ j =>
          have:=h3 j o' (by simpa using hj)
          rwa [show k + (j + 1) = k + 1 + j by omega]
      · cases j with
        | zero=>simp at hj
        | succ j=>exact h4 j (by simpa using hj)
    · cases h

structure Trace (C : Ctx) (P : Program) (ops : Array Oper) (ms : List Nat) (tm0 : List Value) (h0 : List Blk) where
  St : Nat → Dr
  V : Nat → Value
  kd : Nat → Nat
  st0 : St 0 = ⟨tm0,h0,[],false,none⟩
  kdp : ∀ (i : Nat) (o : Oper),ops[i]? = some o → KdP C P ops (nthN ms i) i o (St i) (St (i + 1)) (V i) (kd i)

theorem trace_of {C : Ctx} {P : Program} {ops : Array Oper} {ms : List Nat} {tm0 : List Value} {h0 : List Blk} {s' : Dr} (h : drawAll C P ops ms ops.toList 0 ⟨tm0, h0, [], false, none⟩ = some s') :
    ∃ T : Trace C P ops ms tm0 h0,T.St ops.size = s':=by
  obtain ⟨St,h1,h2,h3⟩:=drawAll_trace _ _ _ _ h
  have hk : ∀ i,∃ v k,∀ o,ops[i]? = some o → KdP C P ops (nthN ms i) i o (St i) (St (i + 1)) v k:=by
    intro i
    cases ho : ops[i]? with
    | none=>exact ⟨undef,0,fun o h=>by cases h⟩
    | some o =>
      have:=h2 i o (by simpa using ho)
      rw [Nat.zero_add] at this
      obtain ⟨v,k,hv⟩:=drawStep_kd this
      exact ⟨v,k,fun o' ho'=>by cases ho';exact hv⟩
  obtain ⟨V,hV⟩:=Classical.skolem.1 hk
  obtain ⟨kd,hkd⟩:=Classical.skolem.1 hV
  exact ⟨⟨St,V,kd,h1,hkd⟩,h3 _ (by simp)⟩

section
variable {C : Ctx} {P : Program} {ops : Array Oper} {ms : List Nat} {tm0 : List Value} {h0 : List Blk} (T : Trace C P ops ms tm0 h0)

abbrev Trace.ln (i : Nat) : Nat:=(T.St i).h.length

theorem Trace.ln_succ {i : Nat} {o : Oper} (ho : ops[i]? = some o) : T.ln i ≤ T.ln (i + 1):=by
  unfold Trace.ln
  cases T.kdp i o ho with
  | skip kk vv hw hs=>rw [hs];exact Nat.le_refl _
  | pure kk hw hp hs=>rw [hs];exact Nat.le_refl _
  | tame kk h1 w1 hw hx hc hg hs hl=>rw [hs];simp
  | chain kk h1 w1 hw hx hn hl hs=>rw [hs];exact hl
theorem Trace.ln_mono {i j : Nat} (h : i ≤ j) (hj : j ≤ ops.size) : T.ln i ≤ T.ln j:=by
  induction j with
  | zero => obtain rfl : i = 0 := by omega
            exact Nat.le_refl _
  | succ j ih =>
    rcases Nat.lt_or_ge j i with h'|h'
    · obtain rfl : i = j + 1:=by omega
      exact Nat.le_refl _
    · exact Nat.le_trans (ih h' (by omega)) (T.ln_succ (Array.getElem?_eq_getElem (by omega)))
theorem Trace.quiet {i : Nat} {o : Oper} (ho : ops[i]? = some o) (hk : T.kd i = 0) : (T.St (i + 1)).h = (T.St i).h:=by
  cases T.kdp i o ho with
  | skip kk vv hw hs=>rw [hs]
  | pure kk hw hp hs=>rw [hs]
  | tame kk=>omega
  | chain kk=>omega
theorem Trace.tm_succ {i : Nat} {o : Oper} (ho : ops[i]? = some o) : (T.St (i + 1)).tm = putL (T.St i).tm o.dst (T.V i):=by
  cases T.kdp i o ho with
  | skip kk vv hw hs=>rw [hs]
  | pure kk hw hp hs=>rw [hs]
  | tame kk h1 w1 hw hx hc hg hs hl=>rw [hs]
  | chain kk h1 w1 hw hx hn hl hs=>rw [hs]
theorem Trace.wr_succ {i : Nat} {o : Oper} (ho : ops[i]? = some o) {lo : Nat} (hw : WrOk lo (T.St (i + 1)).wr) : WrOk lo (T.St i).wr:=by
  cases T.kdp i o ho with
  | skip kk vv hw' hs=>rw [hs] at hw;exact hw
  | pure kk hw' hp hs=>rw [hs] at hw;exact hw
  | tame kk h1 w1 hw' hx hc hg hs hl=>rw [hs] at hw;exact hw
  | chain kk h1 w1 hw' hx hn hl hs=>rw [hs] at hw;exact hw.min.1
theorem Trace.wr_le {lo : Nat} {i j : Nat} (h : i ≤ j) (hj : j ≤ ops.size) (hw : WrOk lo (T.St j).wr) : WrOk lo (T.St i).wr:=by
  induction j with
  | zero => obtain rfl : i = 0 := by omega
            exact hw
  | succ j ih =>
    rcases Nat.lt_or_ge j i with h'|h'
    · obtain rfl : i = j + 1:=by omega
      exact hw
    · exact ih h' (by omega) (T.wr_succ (Array.getElem?_eq_getElem (by omega)) hw)
/-- behind a chain's operation all that touches memory is of the chain -/
theorem Trace.chain_on {i j : Nat} (hij : j < i) (hi : i ≤ ops.size) (hk : T.kd j = 2) : (T.St i).chain = true:=by
  induction i with
  | zero=>omega
  | succ i ih =>
    have ho : ops[i]? = some ops[i]:=Array.getElem?_eq_getElem (by omega)
    have hkp:=T.kdp i _ ho
    rcases Nat.lt_or_ge j i with h'|h'
    · have hc:=ih h' (by omega)
      cases hkp with
      | skip kk vv hw hs=>rw [hs];exact hc
      | pure kk hw hp hs=>rw [hs];exact hc
      | tame kk h1 w1 hw hx hc' hg hs hl=>rw [hc] at hc';cases hc'
      | chain kk h1 w1 hw hx hn hl hs=>rw [hs]
    · obtain rfl : j = i:=by omega
      cases hkp with
      | skip kk=>omega
      | pure kk=>omega
      | tame kk=>omega
      | chain kk h1 w1 hw hx hn hl hs=>rw [hs]
theorem Trace.tame_first {i j : Nat} (hi : i < ops.size) (hk : T.kd i = 1) (hj : T.kd j = 2) : i < j:=by
  rcases Nat.lt_or_ge i j with h|h
  · exact h
  · have hkp:=T.kdp i ops[i] (Array.getElem?_eq_getElem hi)
    have hne : j ≠ i:=fun e=>by rw [e] at hj;omega
    have hc:=T.chain_on (i:=i) (j:=j) (by omega) (by omega) hj
    cases hkp with
    | skip kk=>omega
    | pure kk=>omega
    | chain kk=>omega
    | tame kk h1 w1 hw hx hc' hg hs hl=>rw [hc] at hc';cases hc'
theorem Trace.np_mem {i j : Nat} (hij : j < i) (hi : i ≤ ops.size) (hk : T.kd j ≠ 0) : j ∈ (T.St i).np:=by
  induction i with
  | zero=>omega
  | succ i ih =>
    have ho : ops[i]? = some ops[i]:=Array.getElem?_eq_getElem (by omega)
    rcases Nat.lt_or_ge j i with h'|h'
    · have hm:=ih h' (by omega)
      cases T.kdp i _ ho with
      | skip kk vv hw hs=>rw [hs];exact hm
      | pure kk hw hp hs=>rw [hs];exact hm
      | tame kk h1 w1 hw hx hc' hg hs hl=>rw [hs];exact List.mem_cons_of_mem _ hm
      | chain kk h1 w1 hw hx hn hl hs=>rw [hs];exact List.mem_cons_of_mem _ hm
    · obtain rfl : j = i:=by omega
      cases T.kdp j _ ho with
      | skip kk=>omega
      | pure kk=>omega
      | tame kk h1 w1 hw hx hc' hg hs hl=>rw [hs];exact List.mem_cons_self
      | chain kk h1 w1 hw hx hn hl hs=>rw [hs];exact List.mem_cons_self
theorem Trace.chain_waits {i j : Nat} (hij : j < i) (hi : i < ops.size) (hk : T.kd i = 2) (hj : T.kd j ≠ 0) : (nthN ms i).testBit j = true:=by
  cases T.kdp i _ (Array.getElem?_eq_getElem hi) with
  | skip kk=>omega
  | pure kk=>omega
  | tame kk=>omega
  | chain kk h1 w1 hw hx hn hl hs=>simpa using List.all_eq_true.1 hn j (T.np_mem hij (by omega) hj)
theorem Trace.kd_le {i : Nat} (hi : i < ops.size) : T.kd i = 0 ∨ T.kd i = 1 ∨ T.kd i = 2:=by
  cases T.kdp i _ (Array.getElem?_eq_getElem hi)<;>omega
/-- without a chain's operation ahead, what lay stays -/
theorem Trace.front {i j : Nat} (hij : i ≤ j) (hj : j ≤ ops.size) (hc : ∀ k,i ≤ k → k < j → T.kd k ≠ 2) {n : Nat} (hn : n < T.ln i) : (T.St j).h[n]? = (T.St i).h[n]?:=by
  induction j with
  | zero => obtain rfl : i = 0 := by omega
            rfl
  | succ j ih =>
    rcases Nat.lt_or_ge j i with h'|h'
    · obtain rfl : i = j + 1:=by omega
      rfl
    · have hm:=ih h' (by omega) (fun k h1 h2=>hc k h1 (by omega))
      have hln : T.ln i ≤ T.ln j:=T.ln_mono h' (by omega)
      have ho : ops[j]? = some ops[j]:=Array.getElem?_eq_getElem (by omega)
      rw [← hm]
      have hne : T.kd j ≠ 2:=hc j h' (by omega)
      cases T.kdp j _ ho with
      | skip kk vv hw hs=>rw [hs]
      | pure kk hw hp hs=>rw [hs]
      | tame kk h1 w1 hw hx hc' hg hs hl=>rw [hs];exact List.getElem?_append_left (by unfold Trace.ln at *;omega)
      | chain kk=>omega
theorem putL_len (tm : List Value) (d : Option Tmp) (v : Value) : (putL tm d v).length = tm.length:=by cases d<;>simp [putL]
theorem Trace.tm_len {i : Nat} (hi : i ≤ ops.size) : (T.St i).tm.length = tm0.length:=by
  induction i with
  | zero=>rw [T.st0]
  | succ i ih=>rw [T.tm_succ (Array.getElem?_eq_getElem (show i < ops.size by omega)),putL_len,ih (by omega)]
/-- a slot that nobody has written -/
theorem Trace.tm_old {i t : Nat} (hi : i ≤ ops.size) (h : ∀ k o,k < i → ops[k]? = some o → o.dst ≠ some t) : (T.St i).tm[t]? = tm0[t]?:=by
  induction i with
  | zero=>rw [T.st0]
  | succ i ih =>
    have ho : ops[i]? = some ops[i]:=Array.getElem?_eq_getElem (by omega)
    rw [T.tm_succ ho,← ih (by omega) (fun k o hk=>h k o (by omega))]
    have:=h i _ (by omega) ho
    cases hd : (ops[i]'(by omega)).dst with
    | none=>rfl
    | some d =>
      simp only [putL]
      rw [List.getElem?_set_ne]
      intro e
      subst e
      exact this hd
/-- a slot that one has written -/
theorem Trace.tm_new (F : RegF ops ms) {i j t : Nat} {p : Oper} (hji : j < i) (hi : i ≤ ops.size) (hp : ops[j]? = some p) (hd : p.dst = some t) (ht : t < tm0.length) : (T.St i).tm[t]? = some (T.V j):=by
  induction i with
  | zero=>omega
  | succ i ih =>
    have ho : ops[i]? = some ops[i]:=Array.getElem?_eq_getElem (by omega)
    rw [T.tm_succ ho]
    have hlen:=T.tm_len (i:=i) (by omega)
    rcases Nat.lt_or_ge j i with h'|h'
    · have:=ih h' (by omega)
      cases hdi : (ops[i]'(by omega)).dst with
      | none=>exact this
      | some d =>
        simp only [putL]
        rw [List.getElem?_set_ne]
        · exact this
        · intro e
          subst e
          have:=F.uniq i j _ p _ ho hp hdi hd
          omega
    · obtain rfl : j = i:=by omega
      rw [ho] at hp
      obtain rfl:=Option.some.inj hp
      rw [hd]
      simp only [putL]
      rw [List.getElem?_set_self (by omega)]
end
end Go.Rex

namespace Go.Rex
open Go.RowKit

def Ls (listed : Array Bool) (i : Nat) : Prop:=listed.getD i false = true

section
variable {C : Ctx} {P : Program} {ops : Array Oper} {ms : List Nat} {tm0 : List Value} {h0 : List Blk} (T : Trace C P ops ms tm0 h0) (B lo : Nat) (D : Nat → Prop) (m0 : NMap) (w0 : World) (a0 : Act)

/-- the names that an operation's value may hold -/
def Dm (i : Nat) : Nat → Prop:=fun n=>D n ∨ ∃ j,(j = i ∨ (nthN ms i).testBit j = true) ∧ T.ln j ≤ n ∧ n < T.ln (j + 1)
/-- .. its operands -/
def Dp (i : Nat) : Nat → Prop:=fun n=>D n ∨ ∃ j,(nthN ms i).testBit j = true ∧ T.ln j ≤ n ∧ n < T.ln (j + 1)

structure HA (listed : Array Bool) (w : World) (m : NMap) : Prop where
  noc : ∀ i,i < ops.size → Ls listed i → T.kd i ≠ 2
  rel : Rel B lo D m h0 w
  bel : Below w0.heap.size w0 w
  blk : ∀ i n b,i < ops.size → Ls listed i → T.ln i ≤ n → n < T.ln (i + 1) → (T.St (i + 1)).h[n]? = some b → BlkOk (Dm T D i) m w n b ∧ (b ≠ .dead → (m n).block < w.heap.size ∧ w0.heap.size ≤ (m n).block) ∧ Owns m w n b
  inj : ∀ i n b i' n' b',i < ops.size → Ls listed i → T.ln i ≤ n → n < T.ln (i + 1) → (T.St (i + 1)).h[n]? = some b → b ≠ .dead → i' < ops.size → Ls listed i' → T.ln i' ≤ n' → n' < T.ln (i' + 1) → (T.St (i' + 1)).h[n']? = some b' → b' ≠ .dead →
    (m n).block = (m n').block → n = n'

def HB (listed : Array Bool) (w : World) (m : NMap) : Prop :=
  ∃ q,q < ops.size ∧ T.kd q = 2 ∧ Ls listed q ∧ (∀ j,j < ops.size → Ls listed j → T.kd j = 2 → j ≤ q) ∧ Rel B lo (Dx D h0.length (T.ln (q + 1))) m (T.St (q + 1)).h w

structure Tm (listed : Array Bool) (a : Act) (m : NMap) : Prop where
  df : a.defers = a0.defers
  len : a.tmps.toList.length = tm0.length
  new : ∀ (i : Nat) (o : Oper) (t : Tmp) (v' : Value),ops[i]? = some o → Ls listed i → o.dst = some t → a.tmps.toList[t]? = some v' → VR (Dm T D i) m (T.V i) v'
  old : ∀ (t : Tmp) (v v' : Value),(∀ (i : Nat) (o : Oper),ops[i]? = some o → Ls listed i → o.dst ≠ some t) → tm0[t]? = some v → a.tmps.toList[t]? = some v' → VR D m v v'

structure Inv (listed : Array Bool) (a : Act) (w : World) (m : NMap) : Prop where
  size : listed.size = ops.size
  down : ∀ i j,Ls listed i → (nthN ms i).testBit j = true → Ls listed j
  agree : ∀ n,D n → m n = m0 n
  tmps : Tm T D a0 listed a m
  below : Below B w0 w
  heap : HA T B lo D w0 listed w m ∨ HB T B lo D listed w m
end

section
variable {C : Ctx} {P : Program} {ops : Array Oper} {ms : List Nat} {tm0 : List Value} {h0 : List Blk} {T : Trace C P ops ms tm0 h0} {B lo : Nat} {D : Nat → Prop} {m0 : NMap} {w0 : World} {a0 : Act}
variable {listed : Array Bool} {a : Act} {w : World} {m : NMap}

theorem Dm.of_pred (F : RegF ops ms) {i j n : Nat} (hj : (nthN ms i).testBit j = true) (h : Dm T D j n) : Dp T D i n:=by
  rcases h with h|⟨k,hk,h1⟩
  · exact .inl h
  · rcases hk with rfl|hk
    · exact .inr ⟨k,hj,h1⟩
    · exact .inr ⟨k,F.trans i j k hj hk,h1⟩
theorem Dp.dm {i n : Nat} (h : Dp T D i n) : Dm T D i n:=by
  rcases h with h|⟨k,hk,h1⟩
  · exact .inl h
  · exact .inr ⟨k,.inr hk,h1⟩
theorem lt_of_ops {i : Nat} {o : Oper} (ho : ops[i]? = some o) : i < ops.size:=(Array.getElem?_eq_some_iff.1 ho).1

/-- an operand's slot, in whatever order -/
theorem Tm.slot (F : RegF ops ms) (hT : Tm T D a0 listed a m) (hdown : ∀ i j, Ls listed i → (nthN ms i).testBit j = true → Ls listed j) {i : Nat} {o : Oper} (ho : ops[i]? = some o) (hi : ¬ Ls listed i) (hpre : ∀ j, (nthN ms i).testBit j = true → Ls listed j)
    {t : Tmp} (ht : t ∈ o.looksAt ops) : (∀ v,(T.St i).tm[t]? = some v → ∃ v',a.tmps.toList[t]? = some v' ∧ VR (Dp T D i) m v v') ∧ ((T.St i).tm[t]? = none → a.tmps.toList[t]? = none):=by
  have hil:=lt_of_ops ho
  have hlen:=T.tm_len (i:=i) (by omega)
  constructor
  · intro v hv
    have htl : t < tm0.length:=by
      obtain ⟨h1,_⟩:=List.getElem?_eq_some_iff.1 hv
      rw [hlen] at h1
      exact h1
    obtain ⟨v',hv'⟩ : ∃ v',a.tmps.toList[t]? = some v':=⟨_,List.getElem?_eq_getElem (by rw [hT.len];exact htl)⟩
    refine ⟨v',hv',?_⟩
    have old : (∀ (k : Nat) (p : Oper),ops[k]? = some p → p.dst = some t → i ≤ k ∧ ¬ Ls listed k) → VR (Dp T D i) m v v':=by
      intro hk
      have h1:=T.tm_old (i:=i) (t:=t) (by omega) fun k p hki hp hd=>by have:=(hk k p hp hd).1;omega
      rw [h1] at hv
      exact (hT.old t v v' (fun k p hp hl hd=>(hk k p hp hd).2 hl) hv hv').mono (fun _=>.inl) (fun _ _=>rfl)
    by_cases hw : ∃ (j : Nat) (p : Oper),ops[j]? = some p ∧ p.dst = some t
    · obtain ⟨j,p,hp,hd⟩:=hw
      have only : ∀ (k : Nat) (p' : Oper),ops[k]? = some p' → p'.dst = some t → k = j:=fun k p' hp' hd'=>F.uniq k j p' p t hp' hp hd' hd
      rcases F.look i o t ho ht j p hp hd with rfl|hb|hb
      · exact old fun k p' hp' hd'=>by rw [only k p' hp' hd'];exact ⟨Nat.le_refl _,hi⟩
      · have h1:=T.tm_new F (F.lt i j hb) (by omega) hp hd htl
        rw [h1] at hv
        obtain rfl:=Option.some.inj hv
        exact (hT.new j p t v' hp (hpre j hb) hd hv').mono (fun n hn=>hn.of_pred F hb) (fun _ _=>rfl)
      · exact old fun k p' hp' hd' => by
          rw [only k p' hp' hd']
          exact ⟨Nat.le_of_lt (F.lt j i hb),fun hl=>hi (hdown j i hl hb)⟩
    · exact old fun k p hp hd=>absurd ⟨k,p,hp,hd⟩ hw
  · intro hn
    have h1:=List.getElem?_eq_none_iff.1 hn
    rw [hlen] at h1
    exact List.getElem?_eq_none_iff.2 (by rw [hT.len];exact h1)

theorem Tm.operands (F : RegF ops ms) (hT : Tm T D a0 listed a m) (hdown : ∀ i j, Ls listed i → (nthN ms i).testBit j = true → Ls listed j) {i : Nat} {o : Oper} (ho : ops[i]? = some o) (hi : ¬ Ls listed i) (hpre : ∀ j, (nthN ms i).testBit j = true → Ls listed j) :
    ∀ x ∈ o.op.operands,VR (Dp T D i) m (ev (T.St i).tm x) (a.eval x):=by
  intro x hx
  have hok:=List.all_eq_true.1 (F.ok i o ho) x (by simpa using hx)
  cases x with
  | tmp t =>
    have ht : t ∈ o.looksAt ops:=List.mem_append_left _ (List.mem_filterMap.2 ⟨.tmp t,by simpa using hx,rfl⟩)
    obtain ⟨h1,h2⟩:=hT.slot F hdown ho hi hpre ht
    have e : a.eval (.tmp t) = a.tmps.toList[t]?.getD undef:=by simp [Act.eval,Array.getD_eq_getD_getElem?]
    rw [e]
    simp only [ev,nth_eq]
    cases hv : (T.St i).tm[t]? with
    | none=>rw [h2 hv];exact VR.undef
    | some v =>
      obtain ⟨v',hv',hr⟩:=h1 v hv
      rw [hv'];exact hr
  | const v=>exact VR.of_clean depth v hok
  | global g=>cases hok
  | func f=>exact .func f [] [] [] [] rfl (fun i v v' h=>by simp at h) rfl (fun i v v' h=>by simp at h)

theorem Tm.wanted (F : RegF ops ms) (hT : Tm T D a0 listed a m) (hdown : ∀ i j, Ls listed i → (nthN ms i).testBit j = true → Ls listed j) {i : Nat} {o : Oper} (ho : ops[i]? = some o) (hi : ¬ Ls listed i) (hpre : ∀ j, (nthN ms i).testBit j = true → Ls listed j) :
    Region.wanted o (yielded ops a.tmps) = Region.wanted o (yielded ops ⟨(T.St i).tm⟩):=by
  unfold Region.wanted
  cases hg : o.guard with
  | none=>rfl
  | some p =>
    obtain ⟨g,b⟩:=p
    simp only
    have key : yielded ops a.tmps g = yielded ops ⟨(T.St i).tm⟩ g:=by
      unfold yielded
      cases hd : ((ops[g]?).bind (·.dst) : Option Tmp) with
      | none=>rfl
      | some d =>
        have ht : d ∈ o.looksAt ops:=by
          refine List.mem_append_right _ ?_
          rw [hg]
          simp only [hd]
          simp
        obtain ⟨h1,h2⟩:=hT.slot F hdown ho hi hpre ht
        simp only [Option.bind_some]
        have e1 : (⟨(T.St i).tm⟩ : Array Value)[d]? = (T.St i).tm[d]?:=by simp
        have e2 : a.tmps[d]? = a.tmps.toList[d]?:=by simp
        rw [e1,e2]
        cases hv : (T.St i).tm[d]? with
        | none=>rw [h2 hv]
        | some v =>
          obtain ⟨v',hv',hr⟩:=h1 v hv
          rw [hv']
          cases hr<;>rfl
    rw [key]

/-- an operation more -/
theorem Tm.put (F : RegF ops ms) (hT : Tm T D a0 listed a m) {i : Nat} {o : Oper} (ho : ops[i]? = some o) (hsz : listed.size = ops.size) {m' : NMap} {v' : Value} (hv : VR (Dm T D i) m' (T.V i) v')
    (hold : ∀ n,D n → m' n = m n) (hnew : ∀ j n,j < ops.size → Ls listed j → Dm T D j n → m' n = m n) : Tm T D a0 (listed.setIfInBounds i true) (a.put o.dst v') m':=by
  have hil:=lt_of_ops ho
  have hL : ∀ j,Ls (listed.setIfInBounds i true) j → j = i ∨ Ls listed j:=by
    intro j hj
    unfold Ls at *
    by_cases e : j = i
    · exact .inl e
    · right
      rw [Array.getD_eq_getD_getElem?,Array.getElem?_setIfInBounds_ne (Ne.symm e),← Array.getD_eq_getD_getElem?] at hj
      exact hj
  have hLi : Ls (listed.setIfInBounds i true) i:=by
    unfold Ls
    simp [Array.getD_eq_getD_getElem?,hsz,hil]
  have hLo : ∀ j,Ls listed j → Ls (listed.setIfInBounds i true) j:=by
    intro j hj
    by_cases e : j = i
    · subst e;exact hLi
    · unfold Ls at *
      rw [Array.getD_eq_getD_getElem?,Array.getElem?_setIfInBounds_ne (Ne.symm e),← Array.getD_eq_getD_getElem?]
      exact hj
  have other : ∀ t,o.dst ≠ some t → (a.put o.dst v').tmps.toList[t]? = a.tmps.toList[t]?:=by
    intro t ht
    cases hd : o.dst with
    | none=>rfl
    | some d =>
      simp only [Act.put,Array.toList_setIfInBounds]
      rw [List.getElem?_set_ne]
      intro e;subst e;exact ht hd
  refine ⟨by rw [put_defers];exact hT.df,?_,?_,?_⟩
  · cases o.dst<;>simp [Act.put,hT.len]<;>exact hT.len
  · intro j p t u hp hj hd hu
    by_cases e : j = i
    · subst e
      rw [ho] at hp
      obtain rfl:=Option.some.inj hp
      rw [hd] at hu
      simp only [Act.put,Array.toList_setIfInBounds,List.getElem?_set] at hu
      simp only [if_true] at hu
      split at hu
      · cases hu;exact hv
      · cases hu
    · have hne : o.dst ≠ some t:=fun h=>e (F.uniq j i p o t hp ho hd h)
      rw [other t hne] at hu
      have hj':=(hL j hj).resolve_left e
      exact (hT.new j p t u hp hj' hd hu).mono (fun _ h=>h) (fun n hn=>hnew j n (lt_of_ops hp) hj' hn)
  · intro t u u' hno hu hu'
    have hne : o.dst ≠ some t:=hno i o ho hLi
    rw [other t hne] at hu'
    exact (hT.old t u u' (fun j p hp hj=>hno j p hp (hLo j hj)) hu hu').mono (fun _ h=>h) hold
end
end Go.Rex

namespace Go.Rex
open Go.RowKit

theorem Rel.congr {B lo : Nat} {D : Nat → Prop} {m m' : NMap} {h : List Blk} {w : World} (hr : Rel B lo D m h w) (hm : ∀ n,D n → m' n = m n) : Rel B lo D m' h w :=
  ⟨hr.le,hr.dom,fun n b hD hn=>(hr.ok n b hD hn).mono (fun _ h=>h) hm (hm n hD),fun n b hD hn hd=>by rw [hm n hD];exact hr.lt n b hD hn hd,
   fun n b hD hl hn hd=>by rw [hm n hD];exact hr.base n b hD hl hn hd,fun n b hD hl hn hd=>by rw [hm n hD];exact hr.low n b hD hl hn hd,
   fun n b hD hl hn=>(hr.own n b hD hl hn).congr (hm n hD),fun n n' b b' hD hD' hl hl' hn hn' hd hd' he=>hr.inj n n' b b' hD hD' hl hl' hn hn' hd hd' (by rwa [hm n hD,hm n' hD'] at he)⟩

section
variable {C : Ctx} {P : Program} {ops : Array Oper} {ms : List Nat} {tm0 : List Value} {h0 : List Blk} {T : Trace C P ops ms tm0 h0} {B lo : Nat} {D : Nat → Prop} {m0 : NMap} {w0 : World} {a0 : Act}
variable {listed : Array Bool} {a : Act} {w : World} {m : NMap}

theorem Trace.ln0 : T.ln 0 = h0.length:=by unfold Trace.ln;rw [T.st0]
theorem Trace.owner {n : Nat} : ∀ {i : Nat},i ≤ ops.size → T.ln 0 ≤ n → n < T.ln i → ∃ j,j < i ∧ T.ln j ≤ n ∧ n < T.ln (j + 1)
  | 0,_,h1,h2=>by omega
  | i + 1,hi,h1,h2=>by
    rcases Nat.lt_or_ge n (T.ln i) with h|h
    · obtain ⟨j,h3,h4⟩:=Trace.owner (i:=i) (by omega) h1 h
      exact ⟨j,by omega,h4⟩
    · exact ⟨i,by omega,h,h2⟩
theorem Trace.loud {j : Nat} (hj : j < ops.size) {n : Nat} (h1 : T.ln j ≤ n) (h2 : n < T.ln (j + 1)) : T.kd j ≠ 0:=by
  intro hk
  have:=T.quiet (Array.getElem?_eq_getElem hj) hk
  unfold Trace.ln at h1 h2
  rw [this] at h2
  omega
theorem Trace.same {i j : Nat} (hij : i ≤ j) (hj : j ≤ ops.size) (hq : ∀ k,i ≤ k → k < j → T.kd k = 0) : (T.St j).h = (T.St i).h:=by
  induction j with
  | zero => obtain rfl : i = 0 := by omega
            rfl
  | succ j ih =>
    rcases Nat.lt_or_ge j i with h'|h'
    · obtain rfl : i = j + 1:=by omega
      rfl
    · rw [T.quiet (Array.getElem?_eq_getElem (by omega)) (hq j h' (by omega)),ih h' (by omega) fun k h1 h2=>hq k h1 (by omega)]

/-- without a chain's operation: all names ahead of an operation -/
theorem HA.full (hr0 : Rel B lo D m0 h0 w0) (hlo : lo ≤ h0.length) (hag : ∀ n,D n → m n = m0 n) (hA : HA T B lo D w0 listed w m) (F : RegF ops ms) {i : Nat} (hi : i ≤ ops.size) (hl : ∀ k,k < i → T.kd k ≠ 0 → Ls listed k) : Rel B lo (Dx D h0.length (T.ln i)) m (T.St i).h w:=by
  have hc : ∀ k,k < i → T.kd k ≠ 2:=fun k hk h2=>hA.noc k (by omega) (hl k hk (by omega)) h2
  have hln : T.ln 0 ≤ T.ln i:=T.ln_mono (Nat.zero_le _) hi
  have old : ∀ n,D n → (T.St i).h[n]? = h0[n]?:=fun n hn=>by
    rw [T.front (Nat.zero_le i) hi (fun k _ hk=>hc k hk) (by rw [Trace.ln0];exact hA.rel.dom n hn),T.st0]
  have new : ∀ n b,Dx D h0.length (T.ln i) n → (T.St i).h[n]? = some b → D n ∧ h0[n]? = some b ∨ ∃ j,j < i ∧ Ls listed j ∧ T.ln j ≤ n ∧ n < T.ln (j + 1) ∧ (T.St (j + 1)).h[n]? = some b:=by
    rintro n b (hn|hn) hb
    · exact .inl ⟨hn,by rw [← old n hn];exact hb⟩
    · obtain ⟨j,h1,h2,h3⟩:=T.owner hi (by rw [Trace.ln0];exact hn.1) hn.2
      refine .inr ⟨j,h1,hl j h1 (T.loud (by omega) h2 h3),h2,h3,?_⟩
      rw [← T.front (i:=j + 1) h1 hi (fun k _ hk=>hc k hk) h3]
      exact hb
  have sub : ∀ j,j < i → ∀ k,Dm T D j k → Dx D h0.length (T.ln i) k:=by
    rintro j hj k (hk|⟨l,h1,h2,h3⟩)
    · exact .inl hk
    · have hlj : l ≤ j := by
        rcases h1 with rfl|h1
        · exact Nat.le_refl _
        · exact Nat.le_of_lt (F.lt j l h1)
      refine .inr ⟨?_,Nat.lt_of_lt_of_le h3 (T.ln_mono (by omega) hi)⟩
      rw [← Trace.ln0 (T:=T)]
      exact Nat.le_trans (T.ln_mono (Nat.zero_le _) (by omega)) h2
  refine ⟨hA.rel.le,?_,?_,?_,?_,?_,?_,?_⟩
  · rintro n (hn|hn)
    · have:=hA.rel.dom n hn
      rw [Trace.ln0] at hln
      unfold Trace.ln at hln
      omega
    · exact hn.2
  · intro n b hn hb
    rcases new n b hn hb with ⟨h1,h2⟩|⟨j,h1,h2,h3,h4,h5⟩
    · exact (hA.rel.ok n b h1 h2).mono (fun _=>.inl) (fun _ _=>rfl) rfl
    · exact (hA.blk j n b (by omega) h2 h3 h4 h5).1.mono (sub j h1) (fun _ _=>rfl) rfl
  · intro n b hn hb hd
    rcases new n b hn hb with ⟨h1,h2⟩|⟨j,h1,h2,h3,h4,h5⟩
    · exact hA.rel.lt n b h1 h2 hd
    · exact ((hA.blk j n b (by omega) h2 h3 h4 h5).2.1 hd).1
  · intro n b hn hlon hb hd
    rcases new n b hn hb with ⟨h1,h2⟩|⟨j,h1,h2,h3,h4,h5⟩
    · exact hA.rel.base n b h1 hlon h2 hd
    · exact Nat.le_trans hr0.le ((hA.blk j n b (by omega) h2 h3 h4 h5).2.1 hd).2
  · intro n b hn hlon hb hd
    rcases new n b hn hb with ⟨h1,h2⟩|⟨j,h1,h2,h3,h4,h5⟩
    · exact hA.rel.low n b h1 hlon h2 hd
    · have : T.ln 0 ≤ T.ln j:=T.ln_mono (Nat.zero_le _) (by omega)
      rw [Trace.ln0] at this
      omega
  · intro n b hn hlon hb
    rcases new n b hn hb with ⟨h1,h2⟩|⟨j,h1,h2,h3,h4,h5⟩
    · exact hA.rel.own n b h1 hlon h2
    · exact (hA.blk j n b (by omega) h2 h3 h4 h5).2.2
  · intro n n' b b' hn hn' hlon hlon' hb hb' hd hd' he
    rcases new n b hn hb with ⟨h1,h2⟩|⟨j,h1,h2,h3,h4,h5⟩<;>rcases new n' b' hn' hb' with ⟨h1',h2'⟩|⟨j',h1',h2',h3',h4',h5'⟩
    · exact hA.rel.inj n n' b b' h1 h1' hlon hlon' h2 h2' hd hd' he
    · have e1:=hr0.lt n b h1 h2 hd
      rw [← hag n h1] at e1
      have e2:=((hA.blk j' n' b' (by omega) h2' h3' h4' h5').2.1 hd').2
      omega
    · have e1:=hr0.lt n' b' h1' h2' hd'
      rw [← hag n' h1'] at e1
      have e2:=((hA.blk j n b (by omega) h2 h3 h4 h5).2.1 hd).2
      omega
    · exact hA.inj j n b j' n' b' (by omega) h2 h3 h4 h5 hd (by omega) h2' h3' h4' h5' hd' he

theorem Ls.set {i j : Nat} (h : Ls (listed.setIfInBounds i true) j) : j = i ∨ Ls listed j:=by
  unfold Ls at *
  by_cases e : j = i
  · exact .inl e
  · right
    rw [Array.getD_eq_getD_getElem?,Array.getElem?_setIfInBounds_ne (Ne.symm e),← Array.getD_eq_getD_getElem?] at h
    exact h
theorem Ls.mk {i j : Nat} (hi : i < listed.size) (h : j = i ∨ Ls listed j) : Ls (listed.setIfInBounds i true) j:=by
  unfold Ls at *
  by_cases e : j = i
  · subst e;simp [Array.getD_eq_getD_getElem?,hi]
  · rw [Array.getD_eq_getD_getElem?,Array.getElem?_setIfInBounds_ne (Ne.symm e),← Array.getD_eq_getD_getElem?]
    exact h.resolve_left e
theorem down_set {i : Nat} (hdown : ∀ i j, Ls listed i → (nthN ms i).testBit j = true → Ls listed j) (hi : i < listed.size) (hpre : ∀ j, (nthN ms i).testBit j = true → Ls listed j) :
    ∀ k j,Ls (listed.setIfInBounds i true) k → (nthN ms k).testBit j = true → Ls (listed.setIfInBounds i true) j:=by
  intro k j hk hj
  rcases Ls.set hk with rfl|hk
  · exact .mk hi (.inr (hpre j hj))
  · exact .mk hi (.inr (hdown k j hk hj))

/-- an operation that leaves memory alone -/
theorem Inv.quiet (F : RegF ops ms) (hI : Inv T B lo D m0 w0 a0 listed a w m) {i : Nat} {o : Oper} (ho : ops[i]? = some o) (hpre : ∀ j, (nthN ms i).testBit j = true → Ls listed j) (hk : T.kd i = 0) {v' : Value} (hv : VR (Dm T D i) m (T.V i) v') :
    Inv T B lo D m0 w0 a0 (listed.setIfInBounds i true) (a.put o.dst v') w m:=by
  have hil:=lt_of_ops ho
  have hsz : i < listed.size:=by rw [hI.size];exact hil
  have hln : T.ln (i + 1) = T.ln i:=by unfold Trace.ln;rw [T.quiet ho hk]
  refine ⟨by simp [hI.size],down_set hI.down hsz hpre,hI.agree,hI.tmps.put F ho hI.size hv (fun _ _=>rfl) (fun _ _ _ _ _=>rfl),hI.below,?_⟩
  rcases hI.heap with hA|⟨q,h1,h2,h3,h4,h5⟩
  · refine .inl ⟨fun j hj hL h2=>?_,hA.rel,hA.bel,fun j n b hj hL h1 h2 hb=>?_,fun j n b j' n' b' hj hL h1 h2 hb hd hj' hL' h1' h2' hb' hd' he=>?_⟩
    · rcases Ls.set hL with rfl|hL
      · omega
      · exact hA.noc j hj hL h2
    · rcases Ls.set hL with rfl|hL
      · omega
      · exact hA.blk j n b hj hL h1 h2 hb
    · rcases Ls.set hL with rfl|hL
      · omega
      rcases Ls.set hL' with rfl|hL'
      · omega
      exact hA.inj j n b j' n' b' hj hL h1 h2 hb hd hj' hL' h1' h2' hb' hd' he
  · refine .inr ⟨q,h1,h2,.mk hsz (.inr h3),fun j hj hL hc=>?_,h5⟩
    rcases Ls.set hL with rfl|hL
    · omega
    · exact h4 j hj hL hc

/-- an operation that makes memory -/
theorem Inv.tame (F : RegF ops ms) (hI : Inv T B lo D m0 w0 a0 listed a w m) {i : Nat} {o : Oper} (ho : ops[i]? = some o) (hi : ¬ Ls listed i) (hpre : ∀ j, (nthN ms i).testBit j = true → Ls listed j) (hk : T.kd i = 1) (hA : HA T B lo D w0 listed w m)
    {h1 : List Blk} {v' : Value} {w' : World} {m' : NMap} (hs : (T.St (i + 1)).h = (T.St i).h ++ h1.drop (T.ln i)) (hp : Post w.heap.size (T.ln i) (Dp T D i) m (T.St i).h w m' h1 w') (hv : VR (Dx (Dp T D i) (T.ln i) h1.length) m' (T.V i) v') :
    ∃ m'',Inv T B lo D m0 w0 a0 (listed.setIfInBounds i true) (a.put o.dst v') w' m'':=by
  have hil:=lt_of_ops ho
  have hsz : i < listed.size:=by rw [hI.size];exact hil
  have hgr : T.ln i ≤ h1.length:=hp.grow
  have hln : T.ln (i + 1) = h1.length:=by
    unfold Trace.ln at *
    rw [hs]
    simp
    omega
  have hDlt : ∀ n,D n → n < T.ln i:=fun n hn=>Nat.lt_of_lt_of_le (by rw [Trace.ln0];exact hA.rel.dom n hn) (T.ln_mono (Nat.zero_le i) (by omega))
  have hDp : ∀ n,Dp T D i n → n < T.ln i:=by
    rintro n (hn|⟨j,h2,h3,h4⟩)
    · exact hDlt n hn
    · exact Nat.lt_of_lt_of_le h4 (T.ln_mono (F.lt i j h2) (by omega))
  let m'' : NMap:=fun n=>if T.ln i ≤ n ∧ n < T.ln (i + 1) then m' n else m n
  have e0 : ∀ n,¬ (T.ln i ≤ n ∧ n < T.ln (i + 1)) → m'' n = m n:=fun n hn=>if_neg hn
  have e1 : ∀ n,D n → m'' n = m n:=fun n hn=>e0 n (by have:=hDlt n hn;omega)
  have e2 : ∀ j n,j < ops.size → Ls listed j → Dm T D j n → m'' n = m n:=by
    rintro j n hj hL (hn|⟨k,h2,h3,h4⟩)
    · exact e1 n hn
    · have hLk : Ls listed k := by
        rcases h2 with rfl|h2
        · exact hL
        · exact hI.down j k hL h2
      have hkj : k ≤ j:=by
        rcases h2 with rfl|h2
        · exact Nat.le_refl _
        · exact Nat.le_of_lt (F.lt j k h2)
      have hne : k ≠ i:=fun e=>hi (e ▸ hLk)
      refine e0 n ?_
      rcases Nat.lt_or_ge k i with h|h
      · have:=T.ln_mono (i:=k + 1) (j:=i) h (by omega)
        omega
      · have:=T.ln_mono (i:=i + 1) (j:=k) (by omega) (by omega)
        omega
  have e3 : ∀ n,Dx (Dp T D i) (T.ln i) h1.length n → m'' n = m' n:=by
    rintro n (hn|hn)
    · rw [e0 n (by have:=hDp n hn;omega),hp.agree n hn]
    · exact if_pos ⟨hn.1,by rw [hln];exact hn.2⟩
  have sub : ∀ n,Dx (Dp T D i) (T.ln i) h1.length n → Dm T D i n:=by
    rintro n (hn|hn)
    · exact hn.dm
    · exact .inr ⟨i,.inl rfl,hn.1,by rw [hln];exact hn.2⟩
  have hb:=hp.below
  have hown : ∀ n,T.ln i ≤ n → n < T.ln (i + 1) → Dx (Dp T D i) (T.St i).h.length h1.length n:=fun n h2 h3=>.inr ⟨h2,by rw [← hln];exact h3⟩
  have hget : ∀ n,T.ln i ≤ n → (T.St (i + 1)).h[n]? = h1[n]?:=by
    intro n hn
    rw [hs,List.getElem?_append_right hn,List.getElem?_drop]
    congr 1
    unfold Trace.ln at *
    omega
  have inown : ∀ j n,T.ln j ≤ n → n < T.ln (j + 1) → Dm T D j n:=fun j n h2 h3=>.inr ⟨j,.inl rfl,h2,h3⟩
  refine ⟨m'',by simp [hI.size],down_set hI.down hsz hpre,fun n hn=>(e1 n hn).trans (hI.agree n hn),?_,hI.below.trans (hb.mono hA.rel.le),.inl ⟨?_,?_,?_,?_,?_⟩⟩
  · exact hI.tmps.put F ho hI.size (hv.mono sub e3) e1 e2
  · intro j hj hL h2
    rcases Ls.set hL with rfl|hL
    · omega
    · exact hA.noc j hj hL h2
  · exact (hA.rel.frame hb).congr e1
  · exact hA.bel.trans (hb.mono hA.bel.size)
  · intro j n b hj hL h2 h3 hbk
    rcases Ls.set hL with rfl|hL
    · rw [hget n h2] at hbk
      have hd:=hown n h2 h3
      refine ⟨(hp.rel.ok n b hd hbk).mono sub e3 (e3 n hd),fun hne=>?_,(hp.rel.own n b hd h2 hbk).congr (e3 n hd)⟩
      rw [e3 n hd]
      exact ⟨hp.rel.lt n b hd hbk hne,Nat.le_trans hA.bel.size (hp.rel.base n b hd h2 hbk hne)⟩
    · obtain ⟨h4,h5,h6⟩:=hA.blk j n b hj hL h2 h3 hbk
      have en:=e2 j n hj hL (inown j n h2 h3)
      have hkeep : b ≠ .dead → w'.heap[(m n).block]? = w.heap[(m n).block]?:=fun hd=>hb.block _ (h5 hd).1
      refine ⟨(h4.keep hkeep).mono (fun _ h=>h) (fun k hk=>e2 j k hj hL hk) en,fun hne=>?_,(h6.keep hkeep).congr en⟩
      rw [en]
      exact ⟨Nat.lt_of_lt_of_le (h5 hne).1 hb.size,(h5 hne).2⟩
  · intro j n b j' n' b' hj hL h2 h3 hbk hd hj' hL' h2' h3' hbk' hd' he
    rcases Ls.set hL with rfl|hLo
    · rw [hget n h2] at hbk
      have hdn:=hown n h2 h3
      rcases Ls.set hL' with rfl|hLo'
      · rw [hget n' h2'] at hbk'
        have hdn':=hown n' h2' h3'
        rw [e3 n hdn,e3 n' hdn'] at he
        exact hp.rel.inj n n' b b' hdn hdn' h2 h2' hbk hbk' hd hd' he
      · have en:=e2 j' n' hj' hLo' (inown j' n' h2' h3')
        rw [e3 n hdn,en] at he
        have x1:=hp.rel.base n b hdn h2 hbk hd
        have x2:=((hA.blk j' n' b' hj' hLo' h2' h3' hbk').2.1 hd').1
        omega
    · have en:=e2 j n hj hLo (inown j n h2 h3)
      rcases Ls.set hL' with rfl|hLo'
      · rw [hget n' h2'] at hbk'
        have hdn':=hown n' h2' h3'
        rw [en,e3 n' hdn'] at he
        have x1:=hp.rel.base n' b' hdn' h2' hbk' hd'
        have x2:=((hA.blk j n b hj hLo h2 h3 hbk).2.1 hd).1
        omega
      · have en':=e2 j' n' hj' hLo' (inown j' n' h2' h3')
        rw [en,en'] at he
        exact hA.inj j n b j' n' b' hj hLo h2 h3 hbk hd hj' hLo' h2' h3' hbk' hd' he

/-- what is asked at an operation that makes memory -/
theorem HA.ready (F : RegF ops ms) (hA : HA T B lo D w0 listed w m) {i : Nat} (hil : i < ops.size) (hk : T.kd i = 1) (hpre : ∀ j,(nthN ms i).testBit j = true → Ls listed j) : Rel w.heap.size (T.ln i) (Dp T D i) m (T.St i).h w:=by
  have hc : ∀ k,k < i → T.kd k ≠ 2:=fun k hk' h2=>by have:=T.tame_first hil hk h2;omega
  have old : ∀ n,D n → (T.St i).h[n]? = h0[n]?:=fun n hn=>by
    rw [T.front (Nat.zero_le i) (by omega) (fun k _ hk=>hc k hk) (by rw [Trace.ln0];exact hA.rel.dom n hn),T.st0]
  have hDp : ∀ n,Dp T D i n → n < T.ln i:=by
    rintro n (hn|⟨j,h2,h3,h4⟩)
    · exact Nat.lt_of_lt_of_le (by rw [Trace.ln0];exact hA.rel.dom n hn) (T.ln_mono (Nat.zero_le i) (by omega))
    · exact Nat.lt_of_lt_of_le h4 (T.ln_mono (F.lt i j h2) (by omega))
  have ok : ∀ n b,Dp T D i n → (T.St i).h[n]? = some b → BlkOk (Dp T D i) m w n b ∧ (b ≠ .dead → (m n).block < w.heap.size):=by
    rintro n b (hn|⟨j,h2,h3,h4⟩) hb
    · rw [old n hn] at hb
      exact ⟨(hA.rel.ok n b hn hb).mono (fun _=>.inl) (fun _ _=>rfl) rfl,hA.rel.lt n b hn hb⟩
    · have hji:=F.lt i j h2
      rw [T.front (i:=j + 1) hji (by omega) (fun k _ hk=>hc k hk) h4] at hb
      obtain ⟨x1,x2,_⟩:=hA.blk j n b (by omega) (hpre j h2) h3 h4 hb
      exact ⟨x1.mono (fun k hk=>hk.of_pred F h2) (fun _ _=>rfl) rfl,fun hd=>(x2 hd).1⟩
  refine ⟨Nat.le_refl _,hDp,fun n b hn hb=>(ok n b hn hb).1,fun n b hn hb=>(ok n b hn hb).2,?_,fun n b hn _ hb=>(ok n b hn hb).2,?_,?_⟩
  · intro n b hn hl;have:=hDp n hn;omega
  · intro n b hn hl;have:=hDp n hn;omega
  · intro n n' b b' hn hn' hl;have:=hDp n hn;omega
end
end Go.Rex

namespace Go.Rex
open Go.RowKit

section
variable {C : Ctx} {P : Program} {ops : Array Oper} {ms : List Nat} {tm0 : List Value} {h0 : List Blk} {T : Trace C P ops ms tm0 h0} {B lo : Nat} {D : Nat → Prop} {m0 : NMap} {w0 : World} {a0 : Act}
variable {listed : Array Bool} {a : Act} {w : World} {m : NMap}

/-- no operation of a chain that comes behind is done -/
theorem Inv.chain_lt (hI : Inv T B lo D m0 w0 a0 listed a w m) {i j : Nat} (hi : ¬ Ls listed i) (hk : T.kd i = 2) (hj : j < ops.size) (hL : Ls listed j) (hkj : T.kd j ≠ 0) : j < i:=by
  have hne : j ≠ i:=fun e=>hi (e ▸ hL)
  rcases T.kd_le hj with h|h|h
  · exact absurd h hkj
  · exact T.tame_first hj h hk
  · rcases Nat.lt_or_ge j i with h'|h'
    · exact h'
    · exact absurd (hI.down j i hL (T.chain_waits (i:=j) (j:=i) (by omega) hj h (by omega))) hi

/-- what is asked at an operation of the chain -/
theorem Inv.ready (F : RegF ops ms) (hr0 : Rel B lo D m0 h0 w0) (hlo : lo ≤ h0.length) (hI : Inv T B lo D m0 w0 a0 listed a w m) {i : Nat} (hil : i < ops.size) (hi : ¬ Ls listed i) (hpre : ∀ j, (nthN ms i).testBit j = true → Ls listed j) (hk : T.kd i = 2) :
    Rel B lo (Dx D h0.length (T.ln i)) m (T.St i).h w:=by
  have hl : ∀ k,k < i → T.kd k ≠ 0 → Ls listed k:=fun k hki hkk=>hpre k (T.chain_waits hki hil hk hkk)
  rcases hI.heap with hA|⟨q,h1,h2,h3,h4,h5⟩
  · exact hA.full hr0 hlo hI.agree F (by omega) hl
  · have hq:=hI.chain_lt hi hk h1 h3 (by omega)
    have hs:=T.same (i:=q + 1) (j:=i) hq (by omega) fun k hk1 hk2=>by
      by_cases h0 : T.kd k = 0
      · exact h0
      · have hLk:=hl k hk2 h0
        rcases T.kd_le (i:=k) (by omega) with h|h|h
        · exact h
        · have:=T.tame_first (by omega) h h2;omega
        · have:=h4 k (by omega) hLk h;omega
    have hln : T.ln i = T.ln (q + 1):=by unfold Trace.ln;rw [hs]
    rw [hln,hs]
    exact h5

theorem Inv.chain (F : RegF ops ms) (hI : Inv T B lo D m0 w0 a0 listed a w m) {i : Nat} {o : Oper} (ho : ops[i]? = some o) (hi : ¬ Ls listed i) (hpre : ∀ j, (nthN ms i).testBit j = true → Ls listed j) (hk : T.kd i = 2)
    {h1 : List Blk} {v' : Value} {w' : World} {m' : NMap} (hs : (T.St (i + 1)).h = h1) (hp : Post B lo (Dx D h0.length (T.ln i)) m (T.St i).h w m' h1 w') (hv : VR (Dx (Dx D h0.length (T.ln i)) (T.ln i) h1.length) m' (T.V i) v') :
    Inv T B lo D m0 w0 a0 (listed.setIfInBounds i true) (a.put o.dst v') w' m':=by
  have hil:=lt_of_ops ho
  have hsz : i < listed.size:=by rw [hI.size];exact hil
  have hgr : T.ln i ≤ h1.length:=hp.grow
  have hln : T.ln (i + 1) = h1.length:=by unfold Trace.ln;rw [hs]
  have h0l : h0.length ≤ T.ln i:=by rw [← Trace.ln0 (T:=T)];exact T.ln_mono (Nat.zero_le _) (by omega)
  have hnew : ∀ j n,j < ops.size → Ls listed j → Dm T D j n → m' n = m n:=by
    rintro j n hj hL (hn|⟨k,h2,h3,h4⟩)
    · exact hp.agree n (.inl hn)
    · have hLk : Ls listed k := by
        rcases h2 with rfl|h2
        · exact hL
        · exact hI.down j k hL h2
      have hkj : k ≤ j:=by
        rcases h2 with rfl|h2
        · exact Nat.le_refl _
        · exact Nat.le_of_lt (F.lt j k h2)
      have hki:=hI.chain_lt hi hk (j:=k) (by omega) hLk (T.loud (by omega) h3 h4)
      refine hp.agree n (.inr ⟨?_,Nat.lt_of_lt_of_le h4 (T.ln_mono hki (by omega))⟩)
      rw [← Trace.ln0 (T:=T)]
      exact Nat.le_trans (T.ln_mono (Nat.zero_le _) (by omega)) h3
  have hfull : Dx (Dx D h0.length (T.ln i)) (T.ln i) h1.length = Dx D h0.length (T.ln (i + 1)):=by rw [hln];exact Dx.trans h0l hgr
  have sub : ∀ n,Dx D h0.length (T.ln (i + 1)) n → Dm T D i n:=by
    rintro n (hn|hn)
    · exact .inl hn
    · obtain ⟨j,h2,h3,h4⟩:=T.owner (i:=i + 1) (by omega) (by rw [Trace.ln0];exact hn.1) hn.2
      refine .inr ⟨j,?_,h3,h4⟩
      rcases Nat.lt_or_ge j i with h|h
      · exact .inr (T.chain_waits h hil hk (T.loud (by omega) h3 h4))
      · exact .inl (by omega)
  refine ⟨by simp [hI.size],down_set hI.down hsz hpre,fun n hn=>(hp.agree n (.inl hn)).trans (hI.agree n hn),?_,hI.below.trans hp.below,.inr ⟨i,hil,hk,.mk hsz (.inl rfl),fun j hj hL hc=>?_,?_⟩⟩
  · exact hI.tmps.put F ho hI.size (by rw [hfull] at hv;exact hv.mono sub (fun _ _=>rfl)) (fun n hn=>hp.agree n (.inl hn)) hnew
  · rcases Ls.set hL with rfl|hL
    · exact Nat.le_refl _
    · exact Nat.le_of_lt (hI.chain_lt hi hk hj hL (by omega))
  · have:=hp.rel
    unfold Trace.ln at hfull
    rw [hs] at hfull ⊢
    unfold Trace.ln
    rw [hs]
    rwa [hfull] at this

/-- all is done -/
theorem Inv.done (F : RegF ops ms) (hr0 : Rel B lo D m0 h0 w0) (hlo : lo ≤ h0.length) (hI : Inv T B lo D m0 w0 a0 listed a w m) (hall : ∀ i, i < ops.size → Ls listed i) :
    Post B lo D m0 h0 w0 m (T.St ops.size).h w ∧ VRs (Dx D h0.length (T.ln ops.size)) m (T.St ops.size).tm a.tmps.toList ∧ a.defers = a0.defers:=by
  have h0l : h0.length ≤ T.ln ops.size:=by rw [← Trace.ln0 (T:=T)];exact T.ln_mono (Nat.zero_le _) (Nat.le_refl _)
  have hrel : Rel B lo (Dx D h0.length (T.ln ops.size)) m (T.St ops.size).h w:=by
    rcases hI.heap with hA|⟨q,h1,h2,h3,h4,h5⟩
    · exact hA.full hr0 hlo hI.agree F (Nat.le_refl _) fun k hk _=>hall k hk
    · have hs := T.same (i := q + 1) (j := ops.size) h1 (Nat.le_refl _) fun k hk1 hk2 => by
        rcases T.kd_le (i:=k) (by omega) with h|h|h
        · exact h
        · have:=T.tame_first (by omega) h h2;omega
        · have:=h4 k (by omega) (hall k hk2) h;omega
      have hln : T.ln ops.size = T.ln (q + 1):=by unfold Trace.ln;rw [hs]
      rw [hln,hs]
      exact h5
  refine ⟨⟨hI.agree,hrel,hI.below,h0l⟩,⟨by rw [hI.tmps.len,T.tm_len (Nat.le_refl _)],fun t v v' hv hv'=>?_⟩,hI.tmps.df⟩
  have hlen:=T.tm_len (i:=ops.size) (Nat.le_refl _)
  have htl : t < tm0.length:=by
    obtain ⟨h1,_⟩:=List.getElem?_eq_some_iff.1 hv
    rw [hlen] at h1
    exact h1
  by_cases hw : ∃ (j : Nat) (p : Oper),ops[j]? = some p ∧ p.dst = some t
  · obtain ⟨j,p,hp,hd⟩:=hw
    have hj:=lt_of_ops hp
    rw [T.tm_new F hj (Nat.le_refl _) hp hd htl] at hv
    obtain rfl:=Option.some.inj hv
    refine (hI.tmps.new j p t v' hp (hall j hj) hd hv').mono ?_ (fun _ _=>rfl)
    rintro n (hn|⟨k,h2,h3,h4⟩)
    · exact .inl hn
    · have hkj : k ≤ j := by
        rcases h2 with rfl|h2
        · exact Nat.le_refl _
        · exact Nat.le_of_lt (F.lt j k h2)
      refine .inr ⟨?_,Nat.lt_of_lt_of_le h4 (T.ln_mono (by omega) (Nat.le_refl _))⟩
      rw [← Trace.ln0 (T:=T)]
      exact Nat.le_trans (T.ln_mono (Nat.zero_le _) (by omega)) h3
  · rw [T.tm_old (Nat.le_refl _) fun k o _ ho hd=>hw ⟨k,o,ho,hd⟩] at hv
    exact (hI.tmps.old t v v' (fun k o ho _ hd=>hw ⟨k,o,ho,hd⟩) hv hv').mono (fun _=>.inl) (fun _ _=>rfl)

theorem ready_ls {i : Nat} (hsz : listed.size = ops.size) (hi : i ∈ Region.ready .any ops listed) : i < ops.size ∧ ¬ Ls listed i ∧ ∃ o,ops[i]? = some o ∧ ∀ e ∈ o.after,Region.binds .any e = true → Ls listed e.on:=by
  obtain ⟨h1,o,ho,h2⟩:=mem_ready.1 hi
  have hil:=lt_of_ops ho
  refine ⟨hil,fun h=>?_,o,ho,fun e he hb=>h2 e he hb⟩
  unfold Ls at h
  have hl : i < listed.size:=by omega
  simp only [Array.getD_eq_getD_getElem?,Array.getElem?_eq_getElem hl,Option.getD_some] at h h1
  rw [h1] at h
  cases h
theorem Inv.pre (F : RegF ops ms) (hI : Inv T B lo D m0 w0 a0 listed a w m) {i : Nat} {o : Oper} (ho : ops[i]? = some o) (h : ∀ e ∈ o.after,Region.binds .any e = true → Ls listed e.on) : ∀ j,(nthN ms i).testBit j = true → Ls listed j:=by
  intro j hj
  obtain ⟨e,he,hb,h2⟩:=(F.wait i o ho j).1 hj
  rcases h2 with rfl|h2
  · exact h e he hb
  · exact hI.down e.on j (h e he hb) h2
theorem ready_none (F : RegF ops ms) (hsz : listed.size = ops.size) (h : Region.ready .any ops listed = []) : ∀ i,i < ops.size → Ls listed i:=by
  intro i
  induction i using Nat.strongRecOn with
  | _ i ih =>
  intro hi
  by_cases hL : Ls listed i
  · exact hL
  · exfalso
    have ho : ops[i]? = some ops[i]:=Array.getElem?_eq_getElem hi
    have : i ∈ Region.ready .any ops listed:=by
      refine mem_ready.2 ⟨?_,ops[i],ho,fun e he hb=>ih e.on (F.lt i e.on ((F.wait i _ ho e.on).2 ⟨e,he,hb,.inl rfl⟩)) ?_⟩
      · unfold Ls at hL
        have hl : i < listed.size:=by omega
        simp only [Array.getD_eq_getD_getElem?,Array.getElem?_eq_getElem hl,Option.getD_some] at hL ⊢
        simpa using hL
      · have:=F.lt i e.on ((F.wait i _ ho e.on).2 ⟨e,he,hb,.inl rfl⟩)
        omega
    rw [h] at this
    cases this
theorem count_set {i : Nat} (hi : i < listed.size) (hL : ¬ Ls listed i) : (listed.setIfInBounds i true).toList.count false + 1 = listed.toList.count false:=by
  have hl : i < listed.toList.length:=by simpa using hi
  have hv : listed.toList[i] = false:=by
    unfold Ls at hL
    simp only [Array.getD_eq_getD_getElem?,Array.getElem?_eq_getElem hi,Option.getD_some] at hL
    simpa using hL
  rw [Array.toList_setIfInBounds,List.count_set hl,hv]
  have : 0 < listed.toList.count false:=List.count_pos_iff.2 (hv ▸ List.getElem_mem hl)
  rw [if_pos (show (false == false) = true from rfl),if_neg (show ¬ (true == false) = true by decide)]
  omega

/-- all orders -/
theorem Inv.all (hC : CtxOk P C) (F : RegF ops ms) (hr0 : Rel B lo D m0 h0 w0) (hlo : lo ≤ h0.length) (hwr : WrOk lo (T.St ops.size).wr) {ro : Option Nat} {n : Nat} {Q : Exit → Act → World → Prop}
    (hQ : ∀ a' w' m',Post B lo D m0 h0 w0 m' (T.St ops.size).h w' → VRs (Dx D h0.length (T.ln ops.size)) m' (T.St ops.size).tm a'.tmps.toList → a'.defers = a0.defers → Q .normal a' w') :
    ∀ (fuel : Nat) (listed : Array Bool) (a : Act) (w : World) (m : NMap),Inv T B lo D m0 w0 a0 listed a w m → listed.toList.count false ≤ fuel → wpAnyIn (Fw ro) n P .any ops Q fuel listed a w:=by
  intro fuel
  induction fuel with
  | zero =>
    intro listed a w m hI hc
    have hno : Region.ready .any ops listed = []:=by
      cases hr : Region.ready .any ops listed with
      | nil=>rfl
      | cons i l =>
        obtain ⟨h1,h2,_⟩:=ready_ls hI.size (hr ▸ List.mem_cons_self : i ∈ Region.ready .any ops listed)
        have:=count_set (by rw [hI.size];exact h1) h2
        omega
    obtain ⟨h1,h2,h3⟩:=hI.done F hr0 hlo (ready_none F hI.size hno)
    exact ⟨hno,hQ a w m h1 h2 h3⟩
  | succ fuel ih =>
    intro listed a w m hI hc
    refine ⟨fun hno=>?_,fun i hir=>?_⟩
    · obtain ⟨h1,h2,h3⟩:=hI.done F hr0 hlo (ready_none F hI.size hno)
      exact hQ a w m h1 h2 h3
    · obtain ⟨hil,hi,o,ho,hedge⟩:=ready_ls hI.size hir
      have hpre:=hI.pre F ho hedge
      have hcnt:=count_set (listed:=listed) (by rw [hI.size];exact hil) hi
      have hρ:=hI.tmps.operands F hI.down ho hi hpre
      have hwant:=hI.tmps.wanted F hI.down ho hi hpre
      unfold wpOpIn
      rw [ho]
      simp only
      rw [hwant]
      cases T.kdp i o ho with
      | skip kk vv hw hs =>
        rw [if_neg (by rw [hw];simp)]
        refine ⟨fun _ _=>trivial,?_⟩
        exact ih _ _ _ m (hI.quiet F ho hpre kk (by rw [vv];exact VR.undef)) (by omega)
      | pure kk hw hp hs =>
        rw [if_pos hw]
        obtain ⟨v',h1,h2⟩:=pop_sound hρ hp
        refine ⟨fun _ _=>trivial,?_⟩
        show o.uponIn (Fw ro) n P a _ Q ((o.semAt ro a.eval).run P w)
        rw [Oper.semAt_eq _ _ _ (pop_nodefer hp),h1 w]
        exact ih _ _ _ m (hI.quiet F ho hpre kk (h2.mono (fun _ h=>h.dm) (fun _ _=>rfl))) (by omega)
      | tame kk h1 w1 hw hx hch hg hs hl =>
        rw [if_pos hw]
        have hA : HA T B lo D w0 listed w m:=by
          rcases hI.heap with hA|⟨q,q1,q2,q3,q4,q5⟩
          · exact hA
          · exact absurd (hI.down q i q3 (T.chain_waits (T.tame_first hil kk q2) q1 q2 (by omega))) hi
        refine xop_in' hC (hA.ready F hil kk hpre) (Nat.le_refl _) hρ hx (wge_ok hg) _ fun v' w' m' hp hv=>?_
        obtain ⟨m'',hI'⟩:=hI.tame F ho hi hpre kk hA (h1:=h1) (by rw [hs]) hp hv
        exact ih _ _ _ m'' hI' (by omega)
      | chain kk h1 w1 hw hx hn hl hs =>
        rw [if_pos hw]
        have hR:=hI.ready F hr0 hlo hil hi hpre kk
        have hw1 : WrOk lo w1:=by
          have:=T.wr_le (i:=i + 1) (j:=ops.size) hil (Nat.le_refl _) hwr
          rw [hs] at this
          exact this.min.2
        have h0l : h0.length ≤ T.ln i:=by rw [← Trace.ln0 (T:=T)];exact T.ln_mono (Nat.zero_le _) (by omega)
        refine xop_in' hC hR (Nat.le_trans hlo h0l) (fun x hx'=>(hρ x hx').mono ?_ (fun _ _=>rfl)) hx hw1 _ fun v' w' m' hp hv=>?_
        · rintro k (hk|⟨j,h2,h3,h4⟩)
          · exact .inl hk
          · have hji:=F.lt i j h2
            refine .inr ⟨?_,Nat.lt_of_lt_of_le h4 (T.ln_mono hji (by omega))⟩
            rw [← Trace.ln0 (T:=T)]
            exact Nat.le_trans (T.ln_mono (Nat.zero_le _) (by omega)) h3
        · exact ih _ _ _ m' (hI.chain F ho hi hpre kk (h1:=h1) (by rw [hs]) hp hv) (by omega)
end

theorem drawSound1 {P : Program} {C : Ctx} (hC : CtxOk P C) (hm : P.follows .mixedOrders = true) {id : Nat} {ops : Array Oper} {tm tm' : List Value} {h h' : List Blk} {wr : Option Nat} (hv : runDraw1 C P ops tm h = some (tm', h', wr))
    {ro' : Option Nat} {n B lo : Nat} {D : Nat → Prop} {m : NMap} {w : World} {a : Act} {Q : Exit → Act → World → Prop} (hr : Rel B lo D m h w) (hlo : lo ≤ h.length) (hA : VRs D m tm a.tmps.toList) (hw : WrOk lo wr)
    (hQ : ∀ a' w' m',Post B lo D m h w m' h' w' → VRs (Dx D h.length h'.length) m' tm' a'.tmps.toList → a'.defers = a.defers → Q .normal a' w') : (Code.region id ops true).wpIn (Fw ro') n P Q a w:=by
  unfold runDraw1 at hv
  split at hv
  · rename_i hok
    have F:=drawOk_facts hok
    cases hx : drawAll C P ops (masks ops.toList []) ops.toList 0 { tm,h,np:=[],chain:=false,wr:=none } with
    | none=>rw [hx] at hv;cases hv
    | some s =>
      rw [hx] at hv
      obtain ⟨rfl,rfl,rfl⟩ : s.tm = tm' ∧ s.h = h' ∧ s.wr = wr:=by simpa using hv
      obtain ⟨T,hT⟩:=trace_of hx
      have hrd:=hr.frame (w':=w.drew) ((Below.refl _ _).drew)
      have hno : ∀ i,¬ Ls (Array.replicate ops.size false) i:=by
        intro i hi
        unfold Ls at hi
        simp only [Array.getD_eq_getD_getElem?,Array.getElem?_replicate] at hi
        split at hi<;>simp at hi
      refine wpIn_region_any hm ?_
      refine Inv.all (T:=T) (m0:=m) (w0:=w.drew) (a0:=a) hC F hrd hlo (by rw [hT];exact hw) ?_ ops.size _ a w.drew m ⟨by simp,fun i j hi=>absurd hi (hno i),fun _ _=>rfl,⟨rfl,hA.len,fun i o t v' _ hi=>absurd hi (hno i),fun t v v' _ h1 h2=>hA.at' t v v' h1 h2⟩,Below.refl _ _,
        .inl ⟨fun i _ hi=>absurd hi (hno i),hrd,Below.refl _ _,fun i n b _ hi=>absurd hi (hno i),fun i n b i' n' b' _ hi=>absurd hi (hno i)⟩⟩ ?_
      · intro a' w' m' hp hvs hd
        unfold Trace.ln at hvs
        rw [hT] at hp hvs
        exact hQ a' w' m' ((Post.frame hr (w':=w.drew) ((Below.refl _ _).drew)).trans (by rw [Dx.refl];exact hp)) hvs hd
      · rw [Array.toList_replicate,List.count_replicate];simp
  · cases hv
end Go.Rex

namespace Go.Rex
open Go.RowKit
theorem drawSound {P : Program} {C : Ctx} (hC : CtxOk P C) (hm : P.follows .mixedOrders = true) {id : Nat} {ops : Array Oper} {tm tm' : List Value} {h h' : List Blk} {wr : Option Nat} (hv : runDraw C P ops tm h = some (tm', h', wr))
    {ro' : Option Nat} {n B lo : Nat} {D : Nat → Prop} {m : NMap} {w : World} {a : Act} {Q : Exit → Act → World → Prop} (hr : Rel B lo D m h w) (hlo : lo ≤ h.length) (hA : VRs D m tm a.tmps.toList) (hw : WrOk lo wr)
    (hQ : ∀ a' w' m',Post B lo D m h w m' h' w' → VRs (Dx D h.length h'.length) m' tm' a'.tmps.toList → a'.defers = a.defers → Q .normal a' w') : (Code.region id ops true).wpIn (Fw ro') n P Q a w:=drawSound1 hC hm hv hr hlo hA hw hQ

theorem ctx_sound {P : Program} (hm : P.follows .mixedOrders = true) (k d : Nat) : CtxOk P (ctx P k d) :=
  ctx_ok (fun _ hC {_ _ _ _ _ _ _} hv {_ _ _ _ _ _ _ _ _} hr hlo hA hw hQ=>drawSound hC hm hv hr hlo hA hw hQ) k d

/-- a call that the executor carries out, in whatever world -/
theorem calls_of_ecall {P : Program} (hm : P.follows .mixedOrders = true) {k d : Nat} {f : FuncId} {args : List Value} {h h' : List Blk} {v : Value} {wr : Option Nat} (hv : ecall P k d f args h = some (v, h', wr))
    {B lo : Nat} {D : Nat → Prop} {m : NMap} {w : World} {args' : List Value} (hr : Rel B lo D m h w) (hlo : lo ≤ h.length) (hw : WrOk lo wr) (hargs : VRs D m args args') : Calls P f ⟨args'⟩ w (Good B lo D m h w v h') :=
  (ctx_sound hm k d).call hv hr hlo hw hargs

theorem Rel.empty (w : World) (m : NMap) : Rel w.heap.size 0 (fun _=>False) m [] w :=
  ⟨Nat.le_refl _,fun _ h=>h.elim,fun _ _ h=>h.elim,fun _ _ h=>h.elim,fun _ _ h=>h.elim,fun _ _ h=>h.elim,fun _ _ h=>h.elim,fun _ _ _ _ h=>h.elim⟩

def isTrue : AOut → Bool
  | some (.bool true,_,_)=>true
  | _=>false
/-- a closed call that yields true -/
theorem true_of_ecall {P : Program} (hm : P.follows .mixedOrders = true) {k d : Nat} {f : FuncId} (hv : isTrue (ecall P k d f [] []) = true) (w : World) :
    Calls P f #[] w fun e w'=>e = .returned (.bool true) ∧ Below w.heap.size w w':=by
  unfold isTrue at hv
  split at hv
  · rename_i h' wr hx
    refine (calls_of_ecall hm hx (Rel.empty w fun _=>⟨0,0,0,0⟩) (Nat.le_refl _) (fun n _=>Nat.zero_le n) (args':=[]) VRs.nil).mono ?_
    rintro e w' ⟨v',m',rfl,hp,hvr⟩
    cases hvr
    exact ⟨rfl,hp.below⟩
  · cases hv
end Go.Rex

namespace Go.Rex
open Go.RowKit

/-! ### more fuel,more depth: nothing else -/
section
variable {P : Program} {C : Ctx} {ro : Option Nat}

theorem exec_mono : ∀ (k : Nat) (c : Code) (a : AS) (h : List Blk) {r : Exit × AS × List Blk × Option Nat},exec C P ro k c a h = some r → ∀ j,exec C P ro (k + j) c a h = some r:=by
  intro k
  induction k using Nat.strongRecOn with
  | _ k ih =>
  cases k with
  | zero=>intro c a h r hv;simp [exec] at hv
  | succ k =>
  intro c a h r hv j
  rw [show k + 1 + j = k + j + 1 by omega]
  cases c with
  | seq x y =>
    simp only [exec] at hv ⊢
    cases hx : exec C P ro k x a h with
    | none=>rw [hx] at hv;cases hv
    | some r1 =>
      obtain ⟨e1,a1,h1,w1⟩:=r1
      rw [hx] at hv
      rw [ih k (by omega) x a h hx j]
      cases e1 with
      | normal =>
        simp only at hv ⊢
        cases hy : exec C P ro k y a1 h1 with
        | none=>rw [hy] at hv;cases hv
        | some r2 =>
          rw [hy] at hv
          rw [ih k (by omega) y a1 h1 hy j]
          exact hv
      | _=>exact hv
  | cond x y z =>
    simp only [exec] at hv ⊢
    split at hv
    · rename_i hc
      rw [if_pos hc]
      split at hv
      · rename_i t ht
        cases t with
        | true=>exact ih k (by omega) y a h hv j
        | false=>exact ih k (by omega) z a h hv j
      · cases hv
    · cases hv
  | block id b =>
    simp only [exec] at hv ⊢
    cases hx : exec C P ro k b a h with
    | none=>rw [hx] at hv;cases hv
    | some r1 =>
      rw [hx] at hv
      rw [ih k (by omega) b a h hx j]
      exact hv
  | loop b =>
    simp only [exec] at hv ⊢
    cases hx : exec C P ro k b a h with
    | none=>rw [hx] at hv;cases hv
    | some r1 =>
      obtain ⟨e1,a1,h1,w1⟩:=r1
      rw [hx] at hv
      rw [ih k (by omega) b a h hx j]
      cases e1 with
      | normal =>
        simp only at hv ⊢
        cases hy : exec C P ro k (.loop b) a1 h1 with
        | none=>rw [hy] at hv;cases hv
        | some r2 =>
          rw [hy] at hv
          rw [ih k (by omega) (.loop b) a1 h1 hy j]
          exact hv
      | _=>exact hv
  | _=>simpa only [exec] using hv
theorem exec_le {k k' : Nat} (hk : k ≤ k') {c : Code} {a : AS} {h : List Blk} {r : Exit × AS × List Blk × Option Nat} (hv : exec C P ro k c a h = some r) : exec C P ro k' c a h = some r:=by
  have:=exec_mono k c a h hv (k' - k)
  rwa [show k + (k' - k) = k' by omega] at this
end

def Evt (p : Nat → Nat → Prop) : Prop:=∃ N,∀ k d,N ≤ k → N ≤ d → p k d
theorem Evt.all {p : Nat → Nat → Prop} (h : ∀ k d,p k d) : Evt p:=⟨0,fun k d _ _=>h k d⟩
theorem Evt.and {p q : Nat → Nat → Prop} (h : Evt p) (g : Evt q) : Evt fun k d=>p k d ∧ q k d:=by
  obtain ⟨a,ha⟩:=h
  obtain ⟨b,hb⟩:=g
  exact ⟨max a b,fun k d hk hd=>⟨ha k d (by omega) (by omega),hb k d (by omega) (by omega)⟩⟩
theorem Evt.mono {p q : Nat → Nat → Prop} (h : Evt p) (g : ∀ k d,p k d → q k d) : Evt q:=by
  obtain ⟨a,ha⟩:=h
  exact ⟨a,fun k d hk hd=>g k d (ha k d hk hd)⟩

open Classical in
/-- what a call yields with as much fuel and depth as it takes -/
noncomputable def lim (P : Program) : Ctx :=
  ⟨fun f args h=>if hx : ∃ r,Evt fun k d=>(ctx P k d).call f args h = some r then some (Classical.choose hx) else none,
   fun l args h=>if hx : ∃ r,Evt fun k d=>(ctx P k d).round l args h = some r then some (Classical.choose hx) else none⟩

section
variable {P : Program}
theorem lim_call {f : FuncId} {args : List Value} {h : List Blk} {r : Value × List Blk × Option Nat} : (lim P).call f args h = some r ↔ Evt fun k d=>(ctx P k d).call f args h = some r:=by
  unfold lim
  simp only
  constructor
  · intro hv
    split at hv
    · rename_i hx
      obtain rfl:=Option.some.inj hv
      exact Classical.choose_spec hx
    · cases hv
  · intro hv
    have hx : ∃ r,Evt fun k d=>(ctx P k d).call f args h = some r:=⟨r,hv⟩
    rw [dif_pos hx]
    obtain ⟨N,hN⟩:=(Classical.choose_spec hx).and hv
    obtain ⟨h1,h2⟩:=hN N N (Nat.le_refl _) (Nat.le_refl _)
    rw [← h1,h2]
theorem lim_round {l : Nat} {args : List Value} {h : List Blk} {r : Value × List Blk × Option Nat} : (lim P).round l args h = some r ↔ Evt fun k d=>(ctx P k d).round l args h = some r:=by
  unfold lim
  simp only
  constructor
  · intro hv
    split at hv
    · rename_i hx
      obtain rfl:=Option.some.inj hv
      exact Classical.choose_spec hx
    · cases hv
  · intro hv
    have hx : ∃ r,Evt fun k d=>(ctx P k d).round l args h = some r:=⟨r,hv⟩
    rw [dif_pos hx]
    obtain ⟨N,hN⟩:=(Classical.choose_spec hx).and hv
    obtain ⟨h1,h2⟩:=hN N N (Nat.le_refl _) (Nat.le_refl _)
    rw [← h1,h2]

theorem xop_lim {ρ : Operand → Value} {o : Oper} {h : List Blk} {r : Value × List Blk × Option Nat} (hv : xop (lim P) P ρ o h = some r) : Evt fun k d=>xop (ctx P k d) P ρ o h = some r:=by
  unfold xop at hv ⊢
  split at hv
  · rename_i r' hh
    exact .all fun k d=>hv
  · split at hv
    · rename_i c hc
      unfold xcall at hv ⊢
      split at hv
      · rename_i f hf
        split at hv
        · rename_i fn first captured hfv
          split at hv
          · rename_i g
            split at hv
            · rename_i fd hfd
              split at hv
              · rename_i bd hbd
                split at hv
                · rename_i hn
                  simp only [if_pos hn]
                  exact lim_call.1 hv
                · cases hv
              · rename_i hbd
                exact .all fun k d=>hv
            · cases hv
          · rename_i l
            exact lim_round.1 hv
          · cases hv
        · cases hv
      · cases hv
    · cases hv

theorem runOps_lim {ops : Array Oper} : ∀ (l : List Oper) (tm : List Value) (h : List Blk) {r : List Value × List Blk × Option Nat},runOps (lim P) P ops l tm h = some r → Evt fun k d=>runOps (ctx P k d) P ops l tm h = some r
  | [],tm,h,r,hv=>.all fun k d=>hv
  | o :: l,tm,h,r,hv=>by
    simp only [runOps] at hv ⊢
    split at hv
    · rename_i hw
      simp only [if_pos hw]
      split at hv
      · rename_i v hp
        exact runOps_lim l _ h hv
      · rename_i hp
        split at hv
        · rename_i v h1 w1 hx
          cases hr : runOps (lim P) P ops l (putL tm o.dst v) h1 with
          | none=>rw [hr] at hv;cases hv
          | some r1 =>
            rw [hr] at hv
            exact ((xop_lim hx).and (runOps_lim l _ h1 hr)).mono fun k d ⟨e1,e2⟩=>by rw [e1];simp only;rw [e2];exact hv
        · cases hv
    · rename_i hw
      simp only [if_neg hw]
      exact runOps_lim l _ h hv

theorem drawStep_lim {ops : Array Oper} {m i : Nat} {o : Oper} {s s' : Dr} (hv : drawStep (lim P) P ops m i o s = some s') : Evt fun k d=>drawStep (ctx P k d) P ops m i o s = some s':=by
  unfold drawStep at hv ⊢
  split at hv
  · rename_i hw
    simp only [if_pos hw]
    split at hv
    · rename_i v hp
      exact .all fun k d=>hv
    · rename_i hp
      cases hx : xop (lim P) P (ev s.tm) o s.h with
      | none=>rw [hx] at hv;cases hv
      | some r =>
        rw [hx] at hv
        exact (xop_lim hx).mono fun k d e=>by rw [e];exact hv
  · rename_i hw
    simp only [if_neg hw]
    exact .all fun k d=>hv
theorem drawAll_lim {ops : Array Oper} {ms : List Nat} : ∀ (l : List Oper) (i : Nat) (s : Dr) {s' : Dr},drawAll (lim P) P ops ms l i s = some s' → Evt fun k d=>drawAll (ctx P k d) P ops ms l i s = some s'
  | [],i,s,s',hv=>.all fun k d=>hv
  | o :: l,i,s,s',hv=>by
    simp only [drawAll] at hv ⊢
    split at hv
    · rename_i s1 h1
      exact ((drawStep_lim h1).and (drawAll_lim l (i + 1) s1 hv)).mono fun k d ⟨e1,e2⟩=>by rw [e1];exact e2
    · cases hv
theorem runDraw1_lim {ops : Array Oper} {tm : List Value} {h : List Blk} {r : List Value × List Blk × Option Nat} (hv : runDraw1 (lim P) P ops tm h = some r) : Evt fun k d=>runDraw1 (ctx P k d) P ops tm h = some r:=by
  unfold runDraw1 at hv ⊢
  split at hv
  · rename_i hok
    simp only [if_pos hok]
    cases hx : drawAll (lim P) P ops (masks ops.toList []) ops.toList 0 { tm,h,np:=[],chain:=false,wr:=none } with
    | none=>rw [hx] at hv;cases hv
    | some s =>
      rw [hx] at hv
      exact (drawAll_lim _ _ _ hx).mono fun k d e=>by rw [e];exact hv
  · cases hv

theorem runDraw_lim {ops : Array Oper} {tm : List Value} {h : List Blk} {r : List Value × List Blk × Option Nat} (hv : runDraw (lim P) P ops tm h = some r) : Evt fun k d=>runDraw (ctx P k d) P ops tm h = some r:=by
  unfold runDraw at hv ⊢
  exact runDraw1_lim hv


theorem runRange_lim {ro : Option Nat} {g : Operand} {ps : Array Tmp} {assign body : Code} {a : AS} {h : List Blk} {r : Exit × AS × List Blk × Option Nat} (hv : runRange (lim P) P ro g ps assign body a h = some r) : Evt fun k d=>runRange (ctx P k d) P ro g ps assign body a h = some r:=by
  unfold runRange at hv ⊢
  split at hv
  · rename_i hg
    simp only [if_pos hg]
    split at hv
    · rename_i fn first captured hfv
      split at hv
      · rename_i gf
        split at hv
        · rename_i fd hfd
          split at hv
          · rename_i hc
            split at hv
            · cases hv
            · rename_i h1 d mark hst
              split at hv
              · rename_i v0 h2 w2 hcall
                refine (lim_call.1 hcall).mono fun k d' e=>?_
                simp only [if_pos hc,e]
                exact hv
              · cases hv
          · cases hv
        · cases hv
      · cases hv
    · cases hv
  · cases hv

theorem exec_lim {ro : Option Nat} : ∀ (K : Nat) (c : Code) (a : AS) (h : List Blk) {r : Exit × AS × List Blk × Option Nat},exec (lim P) P ro K c a h = some r → Evt fun k d=>exec (ctx P k d) P ro K c a h = some r:=by
  intro K
  induction K with
  | zero=>intro c a h r hv;simp [exec] at hv
  | succ K ih =>
  intro c a h r hv
  cases c with
  | seq x y =>
    simp only [exec] at hv ⊢
    cases hx : exec (lim P) P ro K x a h with
    | none=>rw [hx] at hv;cases hv
    | some r1 =>
      obtain ⟨e1,a1,h1,w1⟩:=r1
      rw [hx] at hv
      cases e1 with
      | normal =>
        simp only at hv
        cases hy : exec (lim P) P ro K y a1 h1 with
        | none=>rw [hy] at hv;cases hv
        | some r2 =>
          rw [hy] at hv
          exact ((ih x a h hx).and (ih y a1 h1 hy)).mono fun k d ⟨e1,e2⟩=>by rw [e1];simp only;rw [e2];exact hv
      | _=>exact (ih x a h hx).mono fun k d e1=>by rw [e1];exact hv
  | cond x y z =>
    simp only [exec] at hv ⊢
    split at hv
    · rename_i hc
      simp only [if_pos hc]
      split at hv
      · rename_i t ht
        cases t with
        | true=>exact ih y a h hv
        | false=>exact ih z a h hv
      · cases hv
    · cases hv
  | block id b =>
    simp only [exec] at hv ⊢
    cases hx : exec (lim P) P ro K b a h with
    | none=>rw [hx] at hv;cases hv
    | some r1 =>
      rw [hx] at hv
      exact (ih b a h hx).mono fun k d e1=>by rw [e1];exact hv
  | loop b =>
    simp only [exec] at hv ⊢
    cases hx : exec (lim P) P ro K b a h with
    | none=>rw [hx] at hv;cases hv
    | some r1 =>
      obtain ⟨e1,a1,h1,w1⟩:=r1
      rw [hx] at hv
      cases e1 with
      | normal =>
        simp only at hv
        cases hy : exec (lim P) P ro K (.loop b) a1 h1 with
        | none=>rw [hy] at hv;cases hv
        | some r2 =>
          rw [hy] at hv
          exact ((ih b a h hx).and (ih (.loop b) a1 h1 hy)).mono fun k d ⟨e1,e2⟩=>by rw [e1];simp only;rw [e2];exact hv
      | _=>exact (ih b a h hx).mono fun k d e1=>by rw [e1];exact hv
  | region id ops draw =>
    simp only [exec] at hv ⊢
    cases draw with
    | true =>
      simp only at hv ⊢
      cases hx : runDraw (lim P) P ops a.tm h with
      | none=>rw [hx] at hv;cases hv
      | some r1 =>
        rw [hx] at hv
        exact (runDraw_lim hx).mono fun k d e1=>by rw [e1];exact hv
    | false =>
      simp only at hv ⊢
      split at hv
      · rename_i hreg
        simp only [if_pos hreg]
        cases hx : runOps (lim P) P ops ops.toList a.tm h with
        | none=>rw [hx] at hv;cases hv
        | some r1 =>
          rw [hx] at hv
          exact (runOps_lim _ _ _ hx).mono fun k d e1=>by rw [e1];exact hv
      · cases hv
  | rangeFunc g ps assign body =>
    simp only [exec] at hv ⊢
    exact runRange_lim hv
  | _=>exact .all fun k d=>by simpa only [exec] using hv

/-- a function's call from its body -/
theorem lim_runCall {K : Nat} {f : FuncId} {args : List Value} {h : List Blk} {r : Value × List Blk × Option Nat} (hv : runCall (lim P) P K f args h = some r) : (lim P).call f args h = some r:=by
  rw [lim_call]
  unfold runCall at hv
  split at hv
  · cases hv
  · rename_i fd hfd
    split at hv
    · cases hv
    · rename_i c hc
      split at hv
      · rename_i e a1 h1 w1 hx
        obtain ⟨N,hN⟩:=exec_lim K c _ h hx
        refine ⟨max (N + 1) K,fun k d hk hd=>?_⟩
        obtain ⟨d,rfl⟩ : ∃ d',d = d' + 1:=⟨d - 1,by omega⟩
        have h2:=exec_le (k:=K) (k':=k) (by omega) (hN k d (by omega) (by omega))
        show runCall (ctx P k d) P k f args h = some r
        unfold runCall
        simp only [hfd,hc,h2]
        exact hv
      · cases hv
theorem lim_runRound {K : Nat} {l : Nat} {args : List Value} {h : List Blk} {r : Value × List Blk × Option Nat} (hv : runRound (lim P) P K l args h = some r) : (lim P).round l args h = some r:=by
  rw [lim_round]
  unfold runRound at hv
  split at hv
  · rename_i st pend tmps ps assign body d0 hl
    split at hv
    · rename_i hc
      split at hv
      · rename_i e a1 h1 w1 hx
        split at hv
        · split at hv
          · rename_i st1 pend1 t1 p1 as1 bd1 d1 hl1
            split at hv
            · rename_i hst
              split at hv
              · rename_i e2 a2 h2 w2 hx2
                obtain ⟨N,hN⟩:=(exec_lim K assign _ h hx).and (exec_lim K body _ _ hx2)
                refine ⟨max (N + 1) K,fun k d hk hd=>?_⟩
                obtain ⟨d,rfl⟩ : ∃ d',d = d' + 1:=⟨d - 1,by omega⟩
                obtain ⟨g1,g2⟩:=hN k d (by omega) (by omega)
                have g1:=exec_le (k:=K) (k':=k) (by omega) g1
                have g2:=exec_le (k:=K) (k':=k) (by omega) g2
                show runRound (ctx P k d) P k l args h = some r
                unfold runRound
                simp only [hl,if_pos hc,g1,hl1,if_pos hst,g2]
                exact hv
              · cases hv
            · cases hv
          · cases hv
        · cases hv
      · cases hv
    · cases hv
  · cases hv

theorem lim_ok (hm : P.follows .mixedOrders = true) : CtxOk P (lim P) :=
  ⟨fun hv=>by
    obtain ⟨N,hN⟩:=lim_call.1 hv
    exact (ctx_sound hm N N).call (hN N N (Nat.le_refl _) (Nat.le_refl _)),
   fun hv=>by
    obtain ⟨N,hN⟩:=lim_round.1 hv
    exact (ctx_sound hm N N).round (hN N N (Nat.le_refl _) (Nat.le_refl _))⟩
end
end Go.Rex

namespace Go.Rex
open Go.RowKit

theorem wge_min {a b : Option Nat} {k : Nat} (ha : wge a k = true) (hb : wge b k = true) : wge (wmin a b) k = true:=by
  cases a<;>cases b<;>simp_all [wge,wmin]
  omega

/-- a code ends so; it writes under no name below 'lo' -/
def XP (C : Ctx) (P : Program) (ro : Option Nat) (lo : Nat) (c : Code) (a : AS) (h : List Blk) (Q : Exit → AS → List Blk → Prop) : Prop :=
  ∃ K e a' h' wr,exec C P ro K c a h = some (e,a',h',wr) ∧ wge wr lo = true ∧ Q e a' h'

section
variable {C : Ctx} {P : Program} {ro : Option Nat} {lo : Nat} {a : AS} {h : List Blk} {Q : Exit → AS → List Blk → Prop}

theorem XP.mono {c : Code} {Q' : Exit → AS → List Blk → Prop} (hx : XP C P ro lo c a h Q) (hq : ∀ e a' h',Q e a' h' → Q' e a' h') : XP C P ro lo c a h Q':=by
  obtain ⟨K,e,a',h',wr,h1,h2,h3⟩:=hx
  exact ⟨K,e,a',h',wr,h1,h2,hq _ _ _ h3⟩
theorem XP.skip (hq : Q .normal a h) : XP C P ro lo .skip a h Q:=⟨1,_,_,_,none,rfl,rfl,hq⟩
theorem XP.exit {id : Nat} (hq : Q (.exit id) a h) : XP C P ro lo (.exit id) a h Q:=⟨1,_,_,_,none,rfl,rfl,hq⟩
theorem XP.ret (hq : Q .ret a h) : XP C P ro lo .ret a h Q:=⟨1,_,_,_,none,rfl,rfl,hq⟩
/-- behind a part of a sequence -/
def seqQ (next : AS → List Blk → Prop) (Q : Exit → AS → List Blk → Prop) : Exit → AS → List Blk → Prop
  | .normal,a,h=>next a h
  | e,a,h=>Q e a h
theorem XP.seq {x y : Code} (hx : XP C P ro lo x a h (seqQ (fun a h=>XP C P ro lo y a h Q) Q)) : XP C P ro lo (.seq x y) a h Q:=by
  obtain ⟨K,e,a1,h1,w1,hx,hw,hq⟩:=hx
  cases e with
  | normal =>
    obtain ⟨K2,e2,a2,h2,w2,hy,hw2,hq2⟩:=hq
    refine ⟨max K K2 + 1,e2,a2,h2,wmin w1 w2,?_,wge_min hw hw2,hq2⟩
    simp only [exec]
    rw [exec_le (Nat.le_max_left K K2) hx]
    simp only
    rw [exec_le (Nat.le_max_right K K2) hy]
    rfl
  | _=>exact ⟨K + 1,_,a1,h1,w1,by simp only [exec,hx],hw,hq⟩
theorem XP.cond_true {c : Operand} {x y : Code} (ho : opndOk c = true) (hc : ev a.tm c = .bool true) (hx : XP C P ro lo x a h Q) : XP C P ro lo (.cond c x y) a h Q:=by
  obtain ⟨K,e,a1,h1,w1,hx,hw,hq⟩:=hx
  exact ⟨K + 1,e,a1,h1,w1,by simp only [exec,ho,if_true,hc,hx],hw,hq⟩
theorem XP.cond_false {c : Operand} {x y : Code} (ho : opndOk c = true) (hc : ev a.tm c = .bool false) (hx : XP C P ro lo y a h Q) : XP C P ro lo (.cond c x y) a h Q:=by
  obtain ⟨K,e,a1,h1,w1,hx,hw,hq⟩:=hx
  exact ⟨K + 1,e,a1,h1,w1,by simp only [exec,ho,if_true,hc,hx],hw,hq⟩
def blockQ (id : Nat) (Q : Exit → AS → List Blk → Prop) : Exit → AS → List Blk → Prop
  | .exit id',a,h=>if id' = id then Q .normal a h else Q (.exit id') a h
  | e,a,h=>Q e a h
theorem XP.block {id : Nat} {b : Code} (hx : XP C P ro lo b a h (blockQ id Q)) : XP C P ro lo (.block id b) a h Q:=by
  obtain ⟨K,e,a1,h1,w1,hx,hw,hq⟩:=hx
  cases e with
  | exit id' =>
    by_cases hid : id' = id
    · refine ⟨K + 1,.normal,a1,h1,w1,by simp only [exec,hx,if_pos hid],hw,?_⟩
      simpa only [blockQ,if_pos hid] using hq
    · refine ⟨K + 1,.exit id',a1,h1,w1,by simp only [exec,hx,if_neg hid],hw,?_⟩
      simpa only [blockQ,if_neg hid] using hq
  | _=>exact ⟨K + 1,_,a1,h1,w1,by simp only [exec,hx],hw,hq⟩
theorem XP.loop {b : Code} (I : AS → List Blk → Prop) (μ : AS → List Blk → Nat) (h0 : I a h) (round : ∀ a h,I a h → XP C P ro lo b a h (seqQ (fun a' h'=>I a' h' ∧ μ a' h' < μ a h) Q)) : XP C P ro lo (.loop b) a h Q:=by
  generalize hn : μ a h = n
  induction n using Nat.strongRecOn generalizing a h with
  | _ n ih =>
  obtain ⟨K,e,a1,h1,w1,hx,hw,hq⟩:=round a h h0
  cases e with
  | normal =>
    obtain ⟨hI,hlt⟩:=hq
    obtain ⟨K2,e2,a2,h2,w2,hy,hw2,hq2⟩:=ih (μ a1 h1) (by omega) hI rfl
    refine ⟨max K K2 + 1,e2,a2,h2,wmin w1 w2,?_,wge_min hw hw2,hq2⟩
    simp only [exec]
    rw [exec_le (Nat.le_max_left K K2) hx]
    simp only
    rw [exec_le (Nat.le_max_right K K2) hy]
    rfl
  | _=>exact ⟨K + 1,_,a1,h1,w1,by simp only [exec,hx],hw,hq⟩
theorem XP.ops {id : Nat} {ops : Array Oper} {tm' : List Value} {h' : List Blk} {wr : Option Nat} (hreg : regOk ops.toList = true) (hr : runOps C P ops ops.toList a.tm h = some (tm', h', wr)) (hw : wge wr lo = true) (hq : Q .normal ⟨tm', a.df⟩ h') :
    XP C P ro lo (.region id ops false) a h Q:=⟨1,.normal,⟨tm',a.df⟩,h',wr,by simp only [exec,hreg,if_true,hr,liftE,Option.map_some],hw,hq⟩
theorem XP.draw {id : Nat} {ops : Array Oper} {tm' : List Value} {h' : List Blk} {wr : Option Nat} (hr : runDraw C P ops a.tm h = some (tm', h', wr)) (hw : wge wr lo = true) (hq : Q .normal ⟨tm', a.df⟩ h') :
    XP C P ro lo (.region id ops true) a h Q:=⟨1,.normal,⟨tm',a.df⟩,h',wr,by simp only [exec,hr,liftE,Option.map_some],hw,hq⟩

theorem XP.draws {id : Nat} {ops : Array Oper} {s : Dr} (hok : drawOk ops = true) (hr : drawAll C P ops (masks ops.toList []) ops.toList 0 { tm := a.tm, h, np := [], chain := false, wr := none } = some s) (hw : wge s.wr lo = true) (hq : Q .normal ⟨s.tm, a.df⟩ s.h) :
    XP C P ro lo (.region id ops true) a h Q:=XP.draw (tm':=s.tm) (h':=s.h) (wr:=s.wr) (runDraw_of1 (by simp only [runDraw1,hok,if_true,hr,Option.map_some])) hw hq

theorem seqQ_n {next : AS → List Blk → Prop} (hq : next a h) : seqQ next Q .normal a h:=hq
/-- a heap that has grown -/
def Ext (h h' : List Blk) : Prop:=∃ t,h' = h ++ t
theorem Ext.refl (h : List Blk) : Ext h h:=⟨[],by simp⟩
theorem Ext.trans {h1 h2 h3 : List Blk} (a : Ext h1 h2) (b : Ext h2 h3) : Ext h1 h3:=by
  obtain ⟨t,rfl⟩:=a
  obtain ⟨u,rfl⟩:=b
  exact ⟨t ++ u,by simp⟩
theorem Ext.app (h t : List Blk) : Ext h (h ++ t):=⟨t,rfl⟩
theorem Ext.le {h h' : List Blk} (a : Ext h h') : h.length ≤ h'.length:=by
  obtain ⟨t,rfl⟩:=a
  simp
theorem Ext.at {h h' : List Blk} (a : Ext h h') {n : Nat} {b : Blk} (hb : h[n]? = some b) : h'[n]? = some b:=by
  obtain ⟨t,rfl⟩:=a
  rw [List.getElem?_append_left (List.getElem?_eq_some_iff.1 hb).1,hb]
theorem drawHeap_ext {m i : Nat} {o : Oper} {tm : List Value} {np : List Nat} {v : Value} {h1 : List Blk} {wr : Option Nat} (hx : Ext h h1) : drawHeap m i o ⟨tm,h,np,false,wr⟩ (some (v,h1,none)) = some ⟨putL tm o.dst v,h1,i :: np,false,wr⟩:=by
  obtain ⟨t,rfl⟩:=hx
  simp only [drawHeap,wge]
  cases t<;>simp

/-- a function of the program, with a body -/
def goFn (P : Program) (g : FuncId) : Bool:=match P.funcs[g]? with
  | some fd=>match fd.body with
    | some _ => !(fd.name == "runtime.NumGoroutine")
    | none=>false
  | none=>false
def xslow (P : Program) (g : FuncId) (args : List Value) (h : List Blk) : AOut:=match P.funcs[g]? with
  | some fd=>match fd.body with
    | some _=>none
    | none=>(extV P g args).map fun v=>(v,h,none)
  | none=>none
theorem xcall_eq {C : Ctx} {ρ : Operand → Value} {c : Call} : xcall C P ρ c h = (match c.callee with
    | .value f=>match ρ f with
      | .func fn ⟨first⟩ ⟨captured⟩=>match fn with
        | .func g=>if goFn P g = true then C.call g (first ++ (c.args.toList.map ρ ++ captured)) h else xslow P g (first ++ (c.args.toList.map ρ ++ captured)) h
        | .yield l=>C.round l (c.args.toList.map ρ) h
        | _=>none
      | _=>none
    | _=>none):=by
  unfold xcall
  cases c.callee with
  | value f =>
    simp only
    cases ρ f with
    | func fn first captured =>
      obtain ⟨first⟩:=first
      obtain ⟨captured⟩:=captured
      cases fn with
      | func g =>
        rcases hf : P.funcs[g]? with _|fd
        · have hg : goFn P g = false:=by simp [goFn,hf]
          simp [hg,hf,xslow]
        · rcases hb : fd.body with _|b
          · have hg : goFn P g = false:=by simp [goFn,hf,hb]
            simp [hg,hf,hb,xslow]
          · cases hn : (fd.name == "runtime.NumGoroutine")
            · have hg : goFn P g = true:=by simp [goFn,hf,hb,hn]
              simp [hg,hf,hb,hn]
            · have hg : goFn P g = false:=by simp [goFn,hf,hb,hn]
              simp [hg,hf,hb,hn,xslow]
      | _=>rfl
    | _=>rfl
  | _=>rfl
theorem load1 {t n o : Nat} {es : Nat} {cs : List Value} {v : Value} (ha : aggB P t = some false) (hb : h[n]? = some (.cells es cs)) (hc : cs[o]? = some v) : loadV P t h n o = some v:=by
  have h2:=(List.getElem?_eq_some_iff.1 hc).1
  simp only [loadV,ha,readCells,hb]
  rw [if_pos (by omega)]
  have e : (cs.drop o).take 1 = [v]:=by
    rw [List.take_one,List.head?_drop,hc];rfl
  rw [e]
theorem wmin_n2 (b : Option Nat) : wmin b none = b:=by cases b<;>rfl
/-- a loop that counts -/
theorem XP.count {c : Code} (n : Nat) (I : Nat → AS → List Blk → Prop) (h0 : I 0 a h) (step : ∀ k a h,k ≤ n → I k a h → XP C P ro lo c a h (seqQ (fun a' h'=>k < n ∧ I (k + 1) a' h') Q)) : XP C P ro lo (.loop c) a h Q:=by
  suffices H : ∀ j k a h,n - k = j → k ≤ n → I k a h → XP C P ro lo (.loop c) a h Q from H n 0 a h rfl (Nat.zero_le _) h0
  intro j
  induction j with
  | zero =>
    intro k a h hj hk hI
    obtain ⟨K,e,a1,h1,w1,hx,hw,hq⟩:=step k a h hk hI
    cases e with
    | normal=>exact absurd hq.1 (by omega)
    | _=>exact ⟨K + 1,_,a1,h1,w1,by simp only [exec,hx],hw,hq⟩
  | succ j ih =>
    intro k a h hj hk hI
    obtain ⟨K,e,a1,h1,w1,hx,hw,hq⟩:=step k a h hk hI
    cases e with
    | normal =>
      obtain ⟨hlt,hI'⟩:=hq
      obtain ⟨K2,e2,a2,h2,w2,hy,hw2,hq2⟩:=ih (k + 1) a1 h1 (by omega) (by omega) hI'
      refine ⟨max K K2 + 1,e2,a2,h2,wmin w1 w2,?_,wge_min hw hw2,hq2⟩
      simp only [exec]
      rw [exec_le (Nat.le_max_left K K2) hx]
      simp only
      rw [exec_le (Nat.le_max_right K K2) hy]
      rfl
    | _=>exact ⟨K + 1,_,a1,h1,w1,by simp only [exec,hx],hw,hq⟩
end
/-- temporaries of a known number, one by one -/
def slots (j : Nat → Value) : Nat → Nat → List Value
  | 0,_=>[]
  | n + 1,i=>j i :: slots j n (i + 1)
def genS:=@genP
theorem genP_neg {P : Program} {ρ : Operand → Value} {d : Option Tmp} {t : TypeId} {x : Operand} {ty : TypeId} {pos : String} {aft : Array Edge} {gd : Option (Nat × Bool)} : genP P ρ { dst:=d,op:=.unOp .neg t x,type:=ty,pos:=pos,after:=aft,guard:=gd } = (match ρ x with|.int k a=>some (.int k (k.wrap (0 - a)))|_=>genS P ρ { dst:=d,op:=.unOp .neg t x,type:=ty,pos:=pos,after:=aft,guard:=gd }):=by
  cases hx : ρ x with
  | int k a =>
    have h1 : ([x].all fun x=>isClean (ρ x)) = true:=by simp only [List.all_cons,List.all_nil,hx];rfl
    have h2 : prun P (execOp ρ { dst:=d,op:=.unOp .neg t x,type:=ty,pos:=pos,after:=aft,guard:=gd }) = some (.value (.int k (k.wrap (0 - a)))):=by
      simp only [execOp,hx]
      rfl
    unfold genP
    simp only
    rw [show (Op.unOp UnOp.neg t x).operands.toList = [x] from rfl,if_pos h1,h2]
    rfl
  | _=>rfl
theorem genP_not {P : Program} {ρ : Operand → Value} {d : Option Tmp} {t : TypeId} {x : Operand} {ty : TypeId} {pos : String} {aft : Array Edge} {gd : Option (Nat × Bool)} : genP P ρ { dst:=d,op:=.unOp .not t x,type:=ty,pos:=pos,after:=aft,guard:=gd } = (match ρ x with|.bool a=>some (.bool !a)|_=>genS P ρ { dst:=d,op:=.unOp .not t x,type:=ty,pos:=pos,after:=aft,guard:=gd }):=by
  cases hx : ρ x with
  | bool a =>
    have h1 : ([x].all fun x=>isClean (ρ x)) = true:=by simp only [List.all_cons,List.all_nil,hx];rfl
    have h2 : prun P (execOp ρ { dst:=d,op:=.unOp .not t x,type:=ty,pos:=pos,after:=aft,guard:=gd }) = some (.value (.bool !a)):=by
      simp only [execOp,hx]
      rfl
    unfold genP
    simp only
    rw [show (Op.unOp UnOp.not t x).operands.toList = [x] from rfl,if_pos h1,h2]
    rfl
  | _=>rfl
end Go.Rex

namespace Go.Rex
open Go.RowKit

/-! ### region by region,operation by operation -/
def RO (C : Ctx) (P : Program) (lo : Nat) (ops : Array Oper) (l : List Oper) (tm : List Value) (h : List Blk) (Q : List Value → List Blk → Prop) : Prop :=
  ∃ tm' h' wr,runOps C P ops l tm h = some (tm',h',wr) ∧ wge wr lo = true ∧ Q tm' h'
section
variable {C : Ctx} {P : Program} {ro : Option Nat} {lo : Nat} {a : AS} {h : List Blk} {Q : Exit → AS → List Blk → Prop} {ops : Array Oper} {o : Oper} {rest : List Oper} {tm tm2 : List Value} {v : Value} {R : List Value → List Blk → Prop}
theorem RO.nil (hq : R tm h) : RO C P lo ops [] tm h R:=⟨tm,h,none,rfl,rfl,hq⟩
theorem RO.pop (hw : Region.wanted o (yielded ops ⟨tm⟩) = true) (hp : Rex.pop P (ev tm) o = some v) (ht : putL tm o.dst v = tm2) (hq : RO C P lo ops rest tm2 h R) : RO C P lo ops (o :: rest) tm h R:=by
  subst ht
  obtain ⟨tm',h',wr,h1,h2,h3⟩:=hq
  exact ⟨tm',h',wr,by simp only [runOps,if_pos hw,hp,h1],h2,h3⟩
theorem RO.act {h1 : List Blk} {w1 : Option Nat} (hw : Region.wanted o (yielded ops ⟨tm⟩) = true) (hp : Rex.pop P (ev tm) o = none) (hx : xop C P (ev tm) o h = some (v,h1,w1)) (hg : wge w1 lo = true) (ht : putL tm o.dst v = tm2) (hq : RO C P lo ops rest tm2 h1 R) : RO C P lo ops (o :: rest) tm h R:=by
  subst ht
  obtain ⟨tm',h',wr,h1',h2,h3⟩:=hq
  exact ⟨tm',h',wmin w1 wr,by simp only [runOps,if_pos hw,hp,hx,h1',Option.map_some],wge_min hg h2,h3⟩
theorem RO.skip (hw : Region.wanted o (yielded ops ⟨tm⟩) = false) (ht : putL tm o.dst undef = tm2) (hq : RO C P lo ops rest tm2 h R) : RO C P lo ops (o :: rest) tm h R:=by
  subst ht
  obtain ⟨tm',h',wr,h1,h2,h3⟩:=hq
  exact ⟨tm',h',wr,by simp only [runOps,hw,Bool.false_eq_true,if_false,h1],h2,h3⟩
theorem XP.region {id : Nat} {l : List Oper} (hl : ops.toList = l) (hreg : regOk l = true) (hr : RO C P lo ops l a.tm h (fun tm' h'=>Q .normal ⟨tm',a.df⟩ h')) : XP C P ro lo (.region id ops false) a h Q:=by
  subst hl
  obtain ⟨tm',h',wr,h1,h2,h3⟩:=hr
  exact XP.ops hreg h1 h2 h3

/-- a region that draws: so far -/
def RD (C : Ctx) (P : Program) (lo : Nat) (ops : Array Oper) (ms : List Nat) (l : List Oper) (i : Nat) (s : Dr) (R : List Value → List Blk → Prop) : Prop :=
  ∃ s',drawAll C P ops ms l i s = some s' ∧ wge s'.wr lo = true ∧ R s'.tm s'.h
variable {ms : List Nat} {i : Nat} {np : List Nat} {c : Bool} {wr : Option Nat}
theorem RD.nil (hw : wge wr lo = true) (hq : R tm h) : RD C P lo ops ms [] i ⟨tm,h,np,c,wr⟩ R:=⟨_,rfl,hw,hq⟩
theorem RD.pop (hw : Region.wanted o (yielded ops ⟨tm⟩) = true) (hp : Rex.pop P (ev tm) o = some v) (ht : putL tm o.dst v = tm2) (hq : RD C P lo ops ms rest (i + 1) ⟨tm2,h,np,c,wr⟩ R) : RD C P lo ops ms (o :: rest) i ⟨tm,h,np,c,wr⟩ R:=by
  subst ht
  obtain ⟨s',h1,h2⟩:=hq
  exact ⟨s',by simp only [drawAll,drawStep,if_pos hw,hp,h1],h2⟩
theorem RD.skip (hw : Region.wanted o (yielded ops ⟨tm⟩) = false) (ht : putL tm o.dst undef = tm2) (hq : RD C P lo ops ms rest (i + 1) ⟨tm2,h,np,c,wr⟩ R) : RD C P lo ops ms (o :: rest) i ⟨tm,h,np,c,wr⟩ R:=by
  subst ht
  obtain ⟨s',h1,h2⟩:=hq
  exact ⟨s',by simp only [drawAll,drawStep,hw,Bool.false_eq_true,if_false,h1],h2⟩
/-- what grows the memory only -/
theorem RD.act {h1 : List Blk} (hw : Region.wanted o (yielded ops ⟨tm⟩) = true) (hp : Rex.pop P (ev tm) o = none) (hx : xop C P (ev tm) o h = some (v,h1,none)) (he : Ext h h1) (ht : putL tm o.dst v = tm2) (hq : RD C P lo ops ms rest (i + 1) ⟨tm2,h1,i :: np,false,wr⟩ R) : RD C P lo ops ms (o :: rest) i ⟨tm,h,np,false,wr⟩ R:=by
  subst ht
  obtain ⟨s',h1',h2⟩:=hq
  exact ⟨s',by simp only [drawAll,drawStep,if_pos hw,hp,hx,drawHeap_ext he,h1'],h2⟩
/-- what writes: behind all that touched the memory -/
theorem RD.put {h1 : List Blk} {w1 : Option Nat} (hw : Region.wanted o (yielded ops ⟨tm⟩) = true) (hp : Rex.pop P (ev tm) o = none) (hx : xop C P (ev tm) o h = some (v, h1, w1)) (hc : c = true ∨ wge w1 h.length = false) (hn : np.all (fun j => (nthN ms i).testBit j) = true) (hl : h.length ≤ h1.length) (hg : wge w1 lo = true) (ht : putL tm o.dst v = tm2)
    (hq : RD C P lo ops ms rest (i + 1) ⟨tm2,h1,i :: np,true,wmin wr w1⟩ R) : RD C P lo ops ms (o :: rest) i ⟨tm,h,np,c,wr⟩ R:=by
  subst ht
  obtain ⟨s',h1',h2⟩:=hq
  refine ⟨s',?_,h2⟩
  simp only [drawAll,drawStep,if_pos hw,hp,hx,drawHeap]
  have hif : ¬ (c = false ∧ wge w1 h.length = true):=by
    rintro ⟨rfl,hg'⟩
    rcases hc with hc|hc
    · cases hc
    · rw [hc] at hg';cases hg'
  rw [if_neg hif,if_pos ⟨hn,hl⟩]
  exact h1'
theorem XP.drawn {id : Nat} {l : List Oper} {ms : List Nat} (hok : drawOk ops = true) (hl : ops.toList = l) (hm : masks l [] = ms) (hr : RD C P lo ops ms l 0 ⟨a.tm,h,[],false,none⟩ (fun tm' h'=>Q .normal ⟨tm',a.df⟩ h')) : XP C P ro lo (.region id ops true) a h Q:=by
  subst hl
  subst hm
  obtain ⟨s',h1,h2,h3⟩:=hr
  exact XP.draws hok h1 h2 h3
end

/-- a context that knows more -/
noncomputable def over (P : Program) (f : FuncId) : Ctx:=⟨fun g args h=>if g = f ∧ args = [] then some (.bool true,h,none) else (lim P).call g args h,(lim P).round⟩
/-- a function without arguments is true -/
def AwT (P : Program) (f : FuncId) : Prop:=∀ w,Calls P f ⟨[]⟩ w (fun e w'=>e = .returned (.bool true) ∧ Below w.heap.size w w')
theorem over_ok {P : Program} (hm : P.follows .mixedOrders = true) {f : FuncId} (hv : AwT P f) : CtxOk P (over P f) :=
  ⟨fun {g args h v h' wr} hv'=>by
    intro B lo D m w args' hr hlo hw hargs
    unfold over at hv'
    simp only at hv'
    split at hv'
    · rename_i hg
      obtain ⟨rfl,rfl⟩:=hg
      obtain ⟨rfl,rfl,rfl⟩ : Value.bool true = v ∧ h = h' ∧ none = wr:=by simpa using hv'
      obtain rfl : args' = []:=by have:=hargs.len;simpa using this
      refine (hv w).mono ?_
      rintro e w' ⟨rfl,hb⟩
      exact ⟨_,m,rfl,Post.frame hr hb,VR.of_clean depth _ rfl⟩
    · exact (lim_ok hm).call hv' hr hlo hw hargs,
   (lim_ok hm).round⟩
theorem over_call {P : Program} {f g : FuncId} {args : List Value} {h : List Blk} : (over P f).call g args h = if g = f ∧ args = [] then some (.bool true,h,none) else (lim P).call g args h:=rfl
/-- a law: it may call f, and then has its say -/
theorem law_call {P : Program} (hm : P.follows .mixedOrders = true) {f : FuncId} (hv : AwT P f) {g : FuncId} {fd : Func} {c : Code} {args : List Value} {h : List Blk} (hf : P.funcs[g]? = some fd) (hb : fd.body = some c)
    {tm : List Value} (htm : args ++ List.replicate (fd.ntmps - args.length) undef = tm)
    (hx : XP (over P f) P none h.length c ⟨tm,[]⟩ h (fun e a1 h1=>(e = .normal ∨ e = .ret) ∧ a1.df = [] ∧ ∃ vs,resAll P h1 a1.tm fd.results.toList = some vs ∧ oneOf vs = .bool true))
    {B lo : Nat} {D : Nat → Prop} {m : NMap} {w : World} {args' : List Value} (hr : Rel B lo D m h w) (hlo : lo ≤ h.length) (hargs : VRs D m args args') : Calls P g ⟨args'⟩ w (fun e w'=>e = .returned (.bool true) ∧ Below w.heap.size w w'):=by
  subst htm
  obtain ⟨K,e,a1,h1,w1,hx,hw,he,hdf,vs,hvs,hR⟩:=hx
  have hcall : runCall (over P f) P K g args h = some (.bool true,h,none):=by
    unfold runCall
    simp only [hf,hb,hx]
    have hend : runEnd P fd h.length h a1 h1 w1 = some (.bool true,h,none):=by
      simp [runEnd,hdf,takeDefers,hvs,hR,wmin_n2,hw,show isClean (.bool true) = true from rfl]
    rcases he with rfl|rfl<;>exact hend
  refine (runCall_sound (over_ok hm hv) (fun {_ _ _ _ _ _ _} hv' {_ _ _ _ _ _ _ _ _} hr hlo hA hw hQ=>drawSound (over_ok hm hv) hm hv' hr hlo hA hw hQ) hcall (hr.still h.length (Nat.le_refl _)) (Nat.le_refl _) (fun n hn=>by cases hn) hargs).mono ?_
  rintro e' w' ⟨v',m',rfl,hp,hvr⟩
  cases hvr
  exact ⟨rfl,hp.below⟩
end Go.Rex

namespace Go.Rex
open Go.RowKit
/-! ### builtins on values without names -/
theorem genP_max {P : Program} {ρ : Operand → Value} {d : Option Tmp} {x y : Operand} {tys : Array TypeId} {ty : TypeId} {pos : String} {aft : Array Edge} {gd : Option (Nat × Bool)} :
    genP P ρ { dst:=d,op:=.call { callee:=.builtin .max,args:=#[x,y],argTypes:=tys },type:=ty,pos:=pos,after:=aft,guard:=gd } = (match ρ x,ρ y with|.int k a,.int _ b=>some (.int k (if b > a then b else a))|_,_=>genS P ρ { dst:=d,op:=.call { callee:=.builtin .max,args:=#[x,y],argTypes:=tys },type:=ty,pos:=pos,after:=aft,guard:=gd }):=by
  split
  · rename_i k a k' b hx hy
    have h1 : ([x,y].all fun x=>isClean (ρ x)) = true:=by simp only [List.all_cons,List.all_nil,hx,hy];rfl
    have h2 : prun P (execOp ρ { dst:=d,op:=.call { callee:=.builtin .max,args:=#[x,y],argTypes:=tys },type:=ty,pos:=pos,after:=aft,guard:=gd }) = some (.value (.int k (if b > a then b else a))):=by
      simp [execOp,resolve,invoke,hx,hy]
      rfl
    unfold genP
    simp only
    rw [show (Op.call { callee:=.builtin .max,args:=#[x,y],argTypes:=tys }).operands.toList = [x,y] by simp [Op.operands,Call.operands],if_pos h1,h2]
    rfl
  · rfl
end Go.Rex
