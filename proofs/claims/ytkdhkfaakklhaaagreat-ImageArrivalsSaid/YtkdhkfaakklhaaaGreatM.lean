/- What these functions return: facts on lists and numbers. -/
import Derived.Test.YtkdhkfaakklhaaaGreatRexG8
import Derived.Test.YtkdhkfaakklhaaaGreatS
import Derived.ProofKit
import Derived.OpenShut
import Derived.ShutString
import Derived.ChangeOld
import Derived.Below
import Derived.Lib.SmallJoins
import Derived.ChangeShapes
import Derived.ChangeArms
import Derived.WideShapes
set_option linter.unusedSimpArgs false
set_option linter.unusedVariables false
set_option linter.defProp false
namespace Go.Rex
/-! ### plain facts for shallow functions -/
theorem w64 {x : Int} (h : -9223372036854775808 ≤ x ∧ x ≤ 9223372036854775807) : IntKind.i64.wrap x = x:=IntWalk.i64_in x (by omega)
/-- a loop that counts -/
theorem run_count {σ ε : Type} {step : σ → Option (σ ⊕ ε)} (f : Nat → σ) {n : Nat} {e : ε} (h : ∀ k,k < n → step (f k) = some (.inl (f (k + 1)))) (hn : step (f n) = some (.inr e)) : run step (f 0) = some e:=by
  suffices H : ∀ j k,n - k = j → k ≤ n → run step (f k) = some e from H n 0 (by omega) (Nat.zero_le _)
  intro j
  induction j with
  | zero => intro k hj hk; obtain rfl : k = n := by omega
            exact run_stop hn
  | succ j ih=>intro k hj hk;rw [run_next (h k (by omega))];exact ih (k + 1) (by omega) (by omega)
theorem getI_nat {α : Type} {xs : List α} {k : Nat} : getI xs (k : Int) = xs[k]?:=by
  unfold getI
  rw [if_pos (by omega),Int.toNat_natCast]
theorem appI_one {α : Type} {b : Nat} {xs : List α} {y : α} (h : xs.length < 2 ^ 40) (hb : b ≤ 128) : appI b xs [y] = some (xs ++ [y]):=by
  unfold appI
  rw [if_pos]
  refine ⟨by simp;omega,?_⟩
  have h1 : (xs.length + [y].length) * b ≤ 2 ^ 40 * 128:=Nat.mul_le_mul (by simp;omega) hb
  omega
end Go.Rex

namespace Go.Rex
/-! ### a loop that walks a list,gathers,and may end early -/
end Go.Rex

open Go Go.Rex
namespace Go.Rex
set_option maxRecDepth 100000
/-! ### loops,once more -/
theorem wsucc {k : Nat} {n : Nat} (h : k ≤ n) (hn : n ≤ 2 ^ 62) : IntKind.i64.wrap ((k : Int) + 1) = ((k + 1 : Nat) : Int):=by rw [w64 (by omega)];omega
/-- the first one that has an answer -/
def firstOf {ε : Type} (p : Nat → Option ε) (n : Nat) : Option ε:=(List.range n).findSome? p
theorem firstOf_none {ε : Type} {p : Nat → Option ε} {n : Nat} : firstOf p n = none ↔ ∀ k,k < n → p k = none:=by
  unfold firstOf
  rw [List.findSome?_eq_none_iff]
  constructor
  · intro h k hk;exact h k (List.mem_range.2 hk)
  · intro h k hk;exact h k (List.mem_range.1 hk)
theorem firstOf_succ {ε : Type} {p : Nat → Option ε} {n : Nat} : firstOf p (n + 1) = match firstOf p n with|some e=>some e|none=>p n:=by
  unfold firstOf
  rw [List.range_succ,List.findSome?_append]
  cases h : List.findSome? p (List.range n) with
  | some e=>rfl
  | none=>simp
theorem run_find {ε δ : Type} {step : Int → Option (Int ⊕ (ε ⊕ δ))} {n : Nat} {p : Nat → Option ε} {r : δ}
    (h : ∀ k : Nat,k < n → (∀ j,j < k → p j = none) → step (k : Int) = some (match p k with|none=>.inl ((k + 1 : Nat) : Int)|some e=>.inr (.inl e))) (he : (∀ j,j < n → p j = none) → step (n : Int) = some (.inr (.inr r))) : run step 0 = some (match firstOf p n with|some e=>.inl e|none=>.inr r):=by
  suffices H : ∀ m,m ≤ n → firstOf p m = none → run step 0 = run step (m : Int) by
    cases hf : firstOf p n with
    | none =>
      simp only
      rw [H n (Nat.le_refl _) hf]
      exact run_stop (he (firstOf_none.1 hf))
    | some e =>
      simp only
      have : ∃ m,m < n ∧ firstOf p m = none ∧ p m = some e:=by
        clear h he H
        induction n with
        | zero=>simp [firstOf] at hf
        | succ n ih =>
          rw [firstOf_succ] at hf
          cases hn : firstOf p n with
          | none=>rw [hn] at hf;exact ⟨n,by omega,hn,hf⟩
          | some e'=>rw [hn] at hf;cases hf;obtain ⟨m,h1,h2⟩:=ih hn;exact ⟨m,by omega,h2⟩
      obtain ⟨m,hm,h1,h2⟩:=this
      rw [H m (by omega) h1]
      have:=h m hm (firstOf_none.1 h1)
      rw [h2] at this
      exact run_stop this
  intro m
  induction m with
  | zero=>intro _ _;rfl
  | succ m ih =>
    intro hm hf
    have hf':=firstOf_none.1 hf
    rw [ih (by omega) (firstOf_none.2 fun k hk=>hf' k (by omega))]
    have:=h m (by omega) (fun j hj=>hf' j (by omega))
    rw [hf' m (by omega)] at this
    exact run_next this
def iter {β : Type} (g : Nat → β → β) : Nat → β → β
  | 0,b=>b
  | k + 1,b=>g k (iter g k b)
theorem run_iter {β σ ε : Type} {step : σ → Option (σ ⊕ ε)} (st : Nat → β → σ) (g : Nat → β → β) (fin : β → ε) (n : Nat) (Inv : Nat → β → Prop) {b0 : β} (h0 : Inv 0 b0)
    (hs : ∀ k b,k < n → Inv k b → step (st k b) = some (.inl (st (k + 1) (g k b))) ∧ Inv (k + 1) (g k b)) (he : ∀ b,Inv n b → step (st n b) = some (.inr (fin b))) :
    run step (st 0 b0) = some (fin (iter g n b0)) ∧ ∀ k,k ≤ n → Inv k (iter g k b0):=by
  have hI : ∀ k,k ≤ n → Inv k (iter g k b0):=by
    intro k
    induction k with
    | zero=>intro _;exact h0
    | succ k ih=>intro hk;exact (hs k _ (by omega) (ih (by omega))).2
  refine ⟨?_,hI⟩
  exact run_count (fun k=>st k (iter g k b0)) (fun k hk=>(hs k _ hk (hI k (by omega))).1) (he _ (hI n (Nat.le_refl _)))
theorem getI_lt' {α : Type} {l : List α} {k : Nat} (h : k < l.length) : getI l (k : Int) = some l[k]:=by
  rw [getI_nat];exact List.getElem?_eq_getElem h
/-! ### small things -/
/-! ### sums of lists -/
end Go.Rex

open Go Go.Rex
namespace Go.Rex
set_option maxRecDepth 100000
theorem withinB (a b c : Int) : base_Within a b c = some (decide (b ≤ a ∧ a ≤ c)):=by
  unfold base_Within
  by_cases h1 : b ≤ a<;>by_cases h2 : a ≤ c<;>simp [h1,h2]
theorem iRefuse' (b : Bool) (e : Int) : image_refuse_c1_11f9 b e = some (if b = true then e else 0):=by
  unfold image_refuse_c1_11f9;cases b<;>rfl
theorem iWithin' (n a b : Int) : image_within n a b = some (decide (n < a ∨ n > b),2):=by
  unfold image_within image_refuse
  by_cases h : n < a
  · simp [h]
  · simp [h]
/-! ### roots -/
def IsRt (n r : Int) : Prop:=0 ≤ r ∧ r ≤ 2147483648 ∧ r * r ≤ n ∧ n < (r + 1) * (r + 1)
theorem IsRt.unique {n r s : Int} (h : IsRt n r) (g : IsRt n s) : r = s:=by
  obtain ⟨h0,h1,h2,h3⟩:=h
  obtain ⟨g0,g1,g2,g3⟩:=g
  rcases Int.lt_trichotomy r s with q|q|q
  · have:=Int.mul_le_mul (show r + 1 ≤ s by omega) (show r + 1 ≤ s by omega) (by omega) g0
    omega
  · exact q
  · have:=Int.mul_le_mul (show s + 1 ≤ r by omega) (show s + 1 ≤ r by omega) (by omega) h0
    omega
theorem shr1_eq {x : Int} (h0 : 0 ≤ x) (h1 : x < 9223372036854775808) : shI .shr .u64 (IntKind.u64.wrap x) 1 = some (x / 2):=by
  have hw : IntKind.u64.wrap x = x:=by
    unfold IntKind.wrap
    show x.emod (2 ^ 64) = x
    exact Int.emod_eq_of_lt h0 (by omega)
  rw [hw]
  unfold shI
  rw [if_neg (by omega)]
  dsimp only
  have : min (1 : Int).toNat IntKind.u64.bits = 1:=by decide
  rw [this,Int.fdiv_eq_ediv_of_nonneg _ (Int.pow_nonneg (by omega))]
  rfl
theorem search_run {n : Int} (h0 : 0 ≤ n) (h1 : n < 4611686018427387904) : ∀ (d lo hi : Nat),hi - lo ≤ d → lo ≤ hi → hi ≤ 2147483648 → ((lo : Int) * lo ≤ n) → (n < ((hi : Int) + 1) * ((hi : Int) + 1)) → ∃ i : Nat,run (sort_Search_5a34_l1 n) ((lo : Int),(hi : Int)) = some (i : Int) ∧ (i : Int) * i ≤ n ∧ n < ((i : Int) + 1) * ((i : Int) + 1) ∧ i ≤ 2147483648:=by
  intro d
  induction d with
  | zero =>
    intro lo hi hd hle hhi hl hh
    obtain rfl : lo = hi:=by omega
    refine ⟨lo,run_stop ?_,hl,hh,hhi⟩
    dsimp only [sort_Search_5a34_l1]
    rw [if_neg (by simp)]
  | succ d ih =>
    intro lo hi hd hle hhi hl hh
    by_cases q : lo < hi
    · obtain ⟨m,hm⟩ : ∃ m : Nat,m = (lo + hi) / 2:=⟨_,rfl⟩
      have hmi : ((lo : Int) + hi) / 2 = (m : Int):=by omega
      have hmb : ((m : Int) + 1) * ((m : Int) + 1) ≤ 2147483648 * 2147483648:=Int.mul_le_mul (by omega) (by omega) (by omega) (by omega)
      have hm0 : 0 ≤ ((m : Int) + 1) * ((m : Int) + 1):=Int.mul_nonneg (by omega) (by omega)
      have hst : sort_Search_5a34_l1 n ((lo : Int),(hi : Int)) = if decide (((m : Int) + 1) * ((m : Int) + 1) > n) = true then some (.inl ((lo : Int),(m : Int))) else some (.inl (((m + 1 : Nat) : Int),(hi : Int))):=by
        dsimp only [sort_Search_5a34_l1]
        rw [if_pos (by simp only [decide_eq_true_eq];omega),w64 (x:=(lo : Int) + hi) (by omega),shr1_eq (by omega) (by omega),Option.bind_some,hmi,w64 (x:=(m : Int)) (by omega)]
        unfold image_root_c1_d3d3
        rw [w64 (x:=(m : Int) + 1) (by omega),w64 (x:=((m : Int) + 1) * ((m : Int) + 1)) (by omega),Option.bind_some]
        rfl
      by_cases q2 : ((m : Int) + 1) * ((m : Int) + 1) > n
      · rw [run_next (s':=((lo : Int),(m : Int))) (by rw [hst,if_pos (by simpa using q2)])]
        exact ih lo m (by omega) (by omega) (by omega) hl q2
      · rw [run_next (s':=(((m + 1 : Nat) : Int),(hi : Int))) (by rw [hst,if_neg (by simpa using q2)])]
        exact ih (m + 1) hi (by omega) (by omega) (by omega) (by have e : (((m + 1 : Nat)) : Int) = (m : Int) + 1 := by omega
                                                                 rw [e];omega) hh
    · obtain rfl : lo = hi:=by omega
      refine ⟨lo,run_stop ?_,hl,hh,hhi⟩
      dsimp only [sort_Search_5a34_l1]
      rw [if_neg (by simp)]
theorem rootP {n : Int} (h0 : 0 ≤ n) (h1 : n < 4611686018427387904) : ∃ r : Int,IsRt n r ∧ image_root n = some (r,if r * r = n then r else r + 1):=by
  obtain ⟨i,hi,hl,hh,hb⟩:=search_run h0 h1 2147483648 0 2147483648 (by omega) (by omega) (by omega) (by simpa using h0) (by simpa using by omega)
  have m0 : (0 : Int) ≤ (i : Int) * i:=Int.mul_nonneg (by omega) (by omega)
  refine ⟨i,⟨by omega,by omega,hl,hh⟩,?_⟩
  unfold image_root sort_Search_5a34
  rw [show ((0 : Nat) : Int) = 0 from rfl,show ((2147483648 : Nat) : Int) = 2147483648 from rfl] at hi
  rw [hi,Option.bind_some,Option.bind_some,w64 (x:=(i : Int) * i) (by omega),w64 (x:=(i : Int) + 1) (by omega)]
  by_cases q : (i : Int) * i = n
  · rw [if_pos (by simpa using q),if_pos q]
  · rw [if_neg (by simpa using q),if_neg q]
theorem Root_run {n : Int} (h0 : 0 ≤ n) (h1 : n < 4611686018427387904) : ∀ (k : Nat) (r : Int),k ≤ 30 → 0 ≤ r → r + 2 * 2 ^ k ≤ 2147483648 → r * r ≤ n → n < (r + 2 * 2 ^ k) * (r + 2 * 2 ^ k) → ∃ s,run (base_Root_l1 n) (r,2 ^ k) = some s ∧ IsRt n s:=by
  intro k
  induction k with
  | zero =>
    intro r _ hr hb hl hh
    have e : (2 : Int) ^ 0 = 1:=rfl
    rw [e] at hh hb ⊢
    have m1 : (r + 1) * (r + 1) ≤ 2147483648 * 2147483648:=Int.mul_le_mul (by omega) (by omega) (by omega) (by omega)
    have m0 : 0 ≤ (r + 1) * (r + 1):=Int.mul_nonneg (by omega) (by omega)
    have stop : ∀ s,IsRt n s → run (base_Root_l1 n) (s,0) = some s:=fun s _=>run_stop (by dsimp only [base_Root_l1];rw [if_neg (by decide)])
    by_cases q : (r + 1) * (r + 1) ≤ n
    · have hR : IsRt n (r + 1):=⟨by omega,by omega,q,by rw [show r + 1 + 1 = r + 2 * 1 by omega];exact hh⟩
      refine ⟨r + 1,?_,hR⟩
      rw [run_next (s':=(r + 1,0)) (by
        dsimp only [base_Root_l1]
        rw [if_pos (by decide),w64 (x:=r + 1) (by omega),w64 (x:=(r + 1) * (r + 1)) (by omega),if_pos (by simpa using q)]
        rfl)]
      exact stop _ hR
    · have hR : IsRt n r:=⟨hr,by omega,hl,by omega⟩
      refine ⟨r,?_,hR⟩
      rw [run_next (s':=(r,0)) (by
        dsimp only [base_Root_l1]
        rw [if_pos (by decide),w64 (x:=r + 1) (by omega),w64 (x:=(r + 1) * (r + 1)) (by omega),if_neg (by simpa using q)]
        rfl)]
      exact stop _ hR
  | succ k ih =>
    intro r hk hr hb hl hh
    obtain ⟨c,hc⟩ : ∃ c : Int,c = 2 ^ k:=⟨_,rfl⟩
    have hc0 : 0 < c:=by rw [hc];exact Int.pow_pos (by omega)
    have e : (2 : Int) ^ (k + 1) = 2 * c:=by rw [Int.pow_succ,← hc];omega
    rw [e] at hh hb ⊢
    have m1 : (r + 2 * c) * (r + 2 * c) ≤ 2147483648 * 2147483648:=Int.mul_le_mul (by omega) (by omega) (by omega) (by omega)
    have m0 : 0 ≤ (r + 2 * c) * (r + 2 * c):=Int.mul_nonneg (by omega) (by omega)
    have hd : IntKind.i64.wrap ((2 * c).tdiv 2) = c:=by rw [Int.tdiv_eq_ediv_of_nonneg (by omega),show 2 * c / 2 = c by omega,w64 (by omega)]
    by_cases q : (r + 2 * c) * (r + 2 * c) ≤ n
    · rw [run_next (s' := (r + 2 * c, c)) (by
        dsimp only [base_Root_l1]
        rw [if_pos (by simp only [decide_eq_true_eq];omega),w64 (x:=r + 2 * c) (by omega),w64 (x:=(r + 2 * c) * (r + 2 * c)) (by omega),if_pos (by simpa using q),hd]),hc]
      rw [← hc]
      have:=ih (r + 2 * c) (by omega) (by omega) (by rw [← hc];omega) q (by rw [← hc,show r + 2 * c + 2 * c = r + 2 * (2 * c) by omega];exact hh)
      rw [← hc] at this
      exact this
    · rw [run_next (s' := (r, c)) (by
        dsimp only [base_Root_l1]
        rw [if_pos (by simp only [decide_eq_true_eq];omega),w64 (x:=r + 2 * c) (by omega),w64 (x:=(r + 2 * c) * (r + 2 * c)) (by omega),if_neg (by simpa using q),hd]),hc]
      rw [← hc]
      have:=ih r (by omega) hr (by rw [← hc];omega) hl (by rw [← hc];omega)
      rw [← hc] at this
      exact this
theorem rootR {n r : Int} (h0 : 0 ≤ n) (h1 : n < 4611686018427387904) (hr : IsRt n r) : base_Root n = some r ∧ base_RootUp n = some (if r * r = n then r else r + 1):=by
  obtain ⟨s,hs,hS⟩:=Root_run h0 h1 30 0 (by omega) (by omega) (by decide) (by simpa using h0) (by
    have e : (0 + 2 * 2 ^ 30 : Int) * (0 + 2 * 2 ^ 30) = 4611686018427387904:=by decide
    rw [e];exact h1)
  obtain rfl:=hr.unique hS
  have e : base_Root n = some r:=by
    unfold base_Root
    rw [show ((0 : Int),(1073741824 : Int)) = ((0 : Int),(2 : Int) ^ 30) from rfl,hs]
    rfl
  refine ⟨e,?_⟩
  obtain ⟨a,b,c,d⟩:=hr
  have m0 : 0 ≤ r * r:=Int.mul_nonneg a a
  unfold base_RootUp
  rw [e,Option.bind_some,w64 (x:=r * r) (by omega),w64 (x:=r + 1) (by omega)]
  by_cases q : r * r = n
  · rw [if_neg (by simp only [decide_eq_true_eq];omega),if_pos q]
  · rw [if_pos (by simp only [decide_eq_true_eq];omega),if_neg q]
/-! ### lengths and delays -/
/-- what a square says of the length -/
structure Lens (q a b : Int) : Prop where
  p : ∀ (v1 : List Int) (v2 : List (Int × Int × Int × Int)),image_lengthOf v1 v2 q = some (a,b)
  r : ref02_LengthOf q = some (a,b)
  le : 0 ≤ a ∧ a ≤ b ∧ b ≤ 2147483649
theorem lens_ex {q : Int} (h : 1 ≤ q ∧ q ≤ 24300000000) : ∃ a b,Lens q a b:=by
  obtain ⟨r,hr,hp⟩:=rootP (n:=100000000 * q) (by omega) (by omega)
  obtain ⟨h1,h2⟩:=rootR (n:=100000000 * q) (by omega) (by omega) hr
  refine ⟨r,if r * r = 100000000 * q then r else r + 1,fun v1 v2=>?_,?_,?_⟩
  · unfold image_lengthOf
    rw [w64 (by omega),hp,Option.bind_some]
  · unfold ref02_LengthOf
    rw [w64 (by omega),Int.mul_comm q,h1,Option.bind_some,h2,Option.bind_some]
  · have:=hr.1;have:=hr.2.1
    split<;>omega
theorem floorN {a d : Int} (h0 : 0 ≤ a) (h1 : a ≤ 9000000000000000000) (hd : 0 < d) : base_Floor a d = some (a / d):=by
  have e:=Int.ediv_le_self d h0
  have e0:=Int.ediv_nonneg h0 (show 0 ≤ d by omega)
  unfold base_Floor
  rw [if_neg (by omega),if_neg (by simp only [decide_eq_true_eq];rw [Int.tmod_eq_emod_of_nonneg h0];have:=Int.emod_nonneg a (show d ≠ 0 by omega);omega),Int.tdiv_eq_ediv_of_nonneg h0,w64 (by omega)]
theorem ceilN {a d : Int} (h0 : 0 ≤ a) (h1 : a ≤ 4000000000000000000) (hd : 0 < d) (hd1 : d ≤ 1000000000000) : base_Ceil a d = some ((a + d - 1) / d):=by
  have e : (0 - a).tdiv d = - (a / d):=by rw [Int.zero_sub,Int.neg_tdiv,Int.tdiv_eq_ediv_of_nonneg h0]
  have f : (0 - a).tmod d = - (a % d):=by rw [Int.zero_sub,Int.neg_tmod,Int.tmod_eq_emod_of_nonneg h0]
  have hm:=Int.emod_nonneg a (show d ≠ 0 by omega)
  have hm2:=Int.emod_lt_of_pos a hd
  have hdm:=Int.mul_ediv_add_emod a d
  have hq0:=Int.ediv_nonneg h0 (show 0 ≤ d by omega)
  have hq1:=Int.ediv_le_self d h0
  unfold base_Ceil base_Floor
  rw [w64 (x:=0 - a) (by omega),if_neg (by omega),e,f]
  by_cases c : -(a % d) < 0
  · have key : (a + d - 1) / d = a / d + 1 := by
      rw [Int.ediv_eq_iff_of_pos hd]<;>try exact hd
      rw [Int.add_mul,Int.mul_comm (a / d)]
      omega
    rw [if_pos (by simpa using c),Option.bind_some,w64 (x:=-(a / d)) (by omega),w64 (x:=-(a / d) - 1) (by omega),w64 (by omega),key]
    congr 1;omega
  · have key : (a + d - 1) / d = a / d := by
      rw [Int.ediv_eq_iff_of_pos hd]<;>try exact hd
      rw [Int.mul_comm (a / d)]
      omega
    rw [if_neg (by simpa using c),Option.bind_some,w64 (x:=-(a / d)) (by omega),w64 (by omega),key]
    congr 1;omega
end Go.Rex

open Go Go.Rex
namespace Go.Rex
set_option maxRecDepth 100000
/-- delays of a length -/
structure Dels (q v a b : Int) : Prop where
  p : ∀ (v1 : List Int) (v2 : List (Int × Int × Int × Int)),image_delayOf v1 v2 q v = some (a,b)
  r : ref02_DelayOf q v = some (a,b)
  le : 0 ≤ a ∧ a ≤ b ∧ b ≤ 8000000
theorem scaledP {a b m d : Int} (h : 0 ≤ a ∧ a ≤ b) (hm : 0 ≤ m) (hb : b * m ≤ 4000000000000000000) (hd : 0 < d) (hd1 : d ≤ 1000000000000) : image_scaled a b m d = some (a * m / d,(b * m + d - 1) / d) ∧ 0 ≤ a * m ∧ a * m ≤ b * m:=by
  have m0 : 0 ≤ a * m:=Int.mul_nonneg h.1 hm
  have m1 : a * m ≤ b * m:=Int.mul_le_mul_of_nonneg_right h.2 hm
  have q1:=Int.ediv_le_self d m0
  have q0:=Int.ediv_nonneg m0 (show 0 ≤ d by omega)
  have q3:=Int.ediv_le_self d (show 0 ≤ b * m + d - 1 by omega)
  have q4:=Int.ediv_nonneg (show 0 ≤ b * m + d - 1 by omega) (show 0 ≤ d by omega)
  refine ⟨?_,m0,m1⟩
  unfold image_scaled
  rw [if_neg (by omega),w64 (x:=a * m) (by omega),Int.tdiv_eq_ediv_of_nonneg m0,w64 (x:=a * m / d) (by omega),w64 (x:=b * m) (by omega),w64 (x:=b * m + d) (by omega),w64 (x:=b * m + d - 1) (by omega),Int.tdiv_eq_ediv_of_nonneg (by omega),w64 (by omega)]
theorem dels_ex {q v : Int} (h : 1 ≤ q ∧ q ≤ 24300000000) (hv : 30000 ≤ v ∧ v ≤ 40000) : ∃ a b,Dels q v a b:=by
  obtain ⟨a,b,L⟩:=lens_ex h
  obtain ⟨h1,h2,h3⟩:=L.le
  obtain ⟨s,m0,m1⟩:=scaledP (a:=a) (b:=b) (m:=100) (d:=v) ⟨h1,h2⟩ (by omega) (by omega) (by omega) (by omega)
  refine ⟨a * 100 / v,(b * 100 + v - 1) / v,fun v1 v2=>?_,?_,?_⟩
  · unfold image_delayOf
    rw [L.p,Option.bind_some]
    simp only
    rw [s,Option.bind_some]
  · unfold ref02_DelayOf
    rw [L.r,Option.bind_some]
    simp only
    rw [w64 (x:=100 * a) (by omega),floorN (by omega) (by omega) (by omega),Option.bind_some,w64 (x:=100 * b) (by omega),ceilN (by omega) (by omega) (by omega) (by omega),Option.bind_some,Int.mul_comm 100 a,Int.mul_comm 100 b]
  · refine ⟨Int.ediv_nonneg m0 (by omega),Int.ediv_le_ediv (by omega) (by omega),?_⟩
    have e1 : (b * 100 + v - 1) / v ≤ (214748364900 + 40000) / v:=Int.ediv_le_ediv (by omega) (by omega)
    have e2 : (214748364900 + 40000) / v ≤ 8000000:=by
      refine Int.ediv_le_of_le_mul (by omega) ?_
      omega
    omega
structure Sams (q v t a b : Int) : Prop where
  p : ∀ c d,Dels q v c d → image_scaled c d t 1000000 = some (a,b)
  r : ref02_SamplesOf q v t = some (a,b)
/-! ### errors -/
def pathErr (v1 : List Int) (v2 : List (Int × Int × Int × Int)) (q : Int) : Int:=if v2.length ≠ v1.length then 10 else if v1.length > 4 then 8 else if q < 1 ∨ q > 24300000000 then 2 else 0
def spErr (v : Int) : Int:=if v < 30000 ∨ v > 40000 then 2 else 0
theorem wholeP (v1 : List Int) (v2 : List (Int × Int × Int × Int)) (q : Int) : image_whole_c1_fa7c v1 v2 q = some (pathErr v1 v2 q):=by
  unfold image_whole_c1_fa7c image_firstError_262d pathErr
  rw [show ∀ (b : Bool) (e : Int),image_refuse b e = some (b,e) from fun _ _=>rfl,Option.bind_some]
  simp only
  rw [show ∀ (b : Bool) (e : Int),image_refuse b e = some (b,e) from fun _ _=>rfl,Option.bind_some]
  simp only [iWithin',iRefuse',Option.bind_some]
  by_cases c1 : v2.length ≠ v1.length
  · have : (v2.length : Int) ≠ (v1.length : Int):=by omega
    simp [c1,this]
  · have d1 : ¬ (v2.length : Int) ≠ (v1.length : Int):=by omega
    by_cases c2 : v1.length > 4
    · have : (v1.length : Int) > 4:=by omega
      simp [c1,d1,c2,this]
    · have d2 : ¬ (v1.length : Int) > 4:=by omega
      by_cases c3 : q < 1 ∨ q > 24300000000<;>simp [c1,d1,c2,d2,c3]
theorem pathR (v1 : List Int) (v2 : List (Int × Int × Int × Int)) (q : Int) : ref02_PathErr v1 v2 q = some (pathErr v1 v2 q):=by
  unfold ref02_PathErr pathErr
  by_cases c1 : v2.length ≠ v1.length
  · rw [if_pos (by simp only [decide_eq_true_eq];omega),if_pos c1]
  rw [if_neg (by simp only [decide_eq_true_eq];omega),if_neg c1]
  by_cases c2 : v1.length > 4
  · rw [if_pos (by simp only [decide_eq_true_eq];omega),if_pos c2]
  rw [if_neg (by simp only [decide_eq_true_eq];omega),if_neg c2,withinB,Option.bind_some]
  by_cases c3 : q < 1 ∨ q > 24300000000
  · rw [if_neg (by simp only [decide_eq_true_eq];omega),if_pos c3]
  · rw [if_pos (by simp only [decide_eq_true_eq];omega),if_neg c3]
theorem speedR (v : Int) : ref02_SpeedErr v = some (spErr v):=by
  unfold ref02_SpeedErr spErr
  rw [withinB,Option.bind_some]
  by_cases c3 : v < 30000 ∨ v > 40000
  · rw [if_neg (by simp only [decide_eq_true_eq];omega),if_pos c3]
  · rw [if_pos (by simp only [decide_eq_true_eq];omega),if_neg c3]
theorem pathErr0 {v1 : List Int} {v2 : List (Int × Int × Int × Int)} {q : Int} (h : pathErr v1 v2 q = 0) : v2.length = v1.length ∧ v1.length ≤ 4 ∧ 1 ≤ q ∧ q ≤ 24300000000:=by
  unfold pathErr at h
  by_cases c1 : v2.length ≠ v1.length
  · rw [if_pos c1] at h;cases h
  rw [if_neg c1] at h
  by_cases c2 : v1.length > 4
  · rw [if_pos c2] at h;cases h
  rw [if_neg c2] at h
  by_cases c3 : q < 1 ∨ q > 24300000000
  · rw [if_pos c3] at h;cases h
  · exact ⟨by omega,by omega,by omega,by omega⟩
theorem spErr0 {v : Int} (h : spErr v = 0) : 30000 ≤ v ∧ v ≤ 40000:=by
  unfold spErr at h
  by_cases c3 : v < 30000 ∨ v > 40000
  · rw [if_pos c3] at h;cases h
  · omega
end Go.Rex

open Go Go.Rex
namespace Go.Rex
set_option maxRecDepth 100000
/-! ### lists turned in place -/
structure RevI {α : Type} (l c : List α) (k : Nat) : Prop where
  len : c.length = l.length
  at_ : ∀ p,p < l.length → c[p]? = if p < k ∨ l.length - k ≤ p then l[l.length - 1 - p]? else l[p]?
abbrev Ptx:=Int × Int × Int × Int
theorem copyA {α : Type} {b : Nat} {l : List α} (h : l.length ≤ 16) (hb : b ≤ 128) : appI b ([] : List α) l = some l:=by
  unfold appI
  rw [if_pos (by
    refine ⟨by simp;omega,?_⟩
    have : (([] : List α).length + l.length) * b ≤ 16 * 128:=Nat.mul_le_mul (by simpa using h) hb
    omega)]
  simp
theorem copyPath (v1 : List Int) (v2 : List Ptx) (q : Int) (h1 : v1.length ≤ 6) (h2 : v2.length ≤ 6) : ref02_CopyPath v1 v2 q = some (v1,v2,q):=by
  unfold ref02_CopyPath base_CopyInts
  rw [copyA (by omega) (by omega),Option.bind_some,Option.bind_some,copyA (by omega) (by omega),Option.bind_some]
end Go.Rex

open Go Go.Rex
namespace Go.Rex
set_option maxRecDepth 100000
abbrev Pth:=List Int × List Ptx × Int
def FewA (l : List Pth) : Prop:=l.length ≤ 202 ∧ ∀ x ∈ l,x.1.length ≤ 6 ∧ x.2.1.length ≤ 6
theorem short_run (l : List Pth) (hl : l.length ≤ 202) {step : Int → Option (Int ⊕ (Unit ⊕ Unit))} (hs : step = law02_ImageArrivals_l1 l ∨ step = law02_ImageArrivals_l2 l) : (∃ u,run step 0 = some (.inl u)) ∨ (run step 0 = some (.inr ()) ∧ FewA l):=by
  have:=run_find (step:=step) (n:=l.length) (p:=fun k=>if ((l.getD k ([],[],0)).1.length ≤ 6 ∧ (l.getD k ([],[],0)).2.1.length ≤ 6) then none else some ()) (r:=()) (fun k hk _=>by
    have e : l.getD k ([],[],0) = l[k]:=by simp [List.getD_eq_getElem?_getD,List.getElem?_eq_getElem hk]
    rw [e]
    have key : ∀ {α : Type} (a b c : α),(if decide ((l[k].1.length : Int) > 6) = true then a else if decide ((l[k].2.1.length : Int) > 6) = true then b else c) = if l[k].1.length ≤ 6 then (if l[k].2.1.length ≤ 6 then c else b) else a:=by
      intro α a b c
      by_cases c1 : l[k].1.length ≤ 6
      · rw [if_neg (by simp only [decide_eq_true_eq];omega),if_pos c1]
        by_cases c2 : l[k].2.1.length ≤ 6
        · rw [if_neg (by simp only [decide_eq_true_eq];omega),if_pos c2]
        · rw [if_pos (by simp only [decide_eq_true_eq];omega),if_neg c2]
      · rw [if_pos (by simp only [decide_eq_true_eq];omega),if_neg c1]
    rcases hs with rfl|rfl
    · unfold law02_ImageArrivals_l1
      rw [if_pos (by simp only [decide_eq_true_eq];omega),getI_lt' hk,Option.bind_some]
      try simp only
      rw [key,wsucc (n:=l.length) (by omega) (by omega)]
      by_cases c1 : l[k].1.length ≤ 6<;>by_cases c2 : l[k].2.1.length ≤ 6<;>simp [c1,c2]
    · unfold law02_ImageArrivals_l2
      rw [if_pos (by simp only [decide_eq_true_eq];omega),getI_lt' hk,Option.bind_some]
      try simp only
      rw [key,wsucc (n:=l.length) (by omega) (by omega)]
      by_cases c1 : l[k].1.length ≤ 6<;>by_cases c2 : l[k].2.1.length ≤ 6<;>simp [c1,c2]) (fun _=>by
    rcases hs with rfl|rfl
    · unfold law02_ImageArrivals_l1;rw [if_neg (by simp)]
    · unfold law02_ImageArrivals_l2;rw [if_neg (by simp)])
  cases hf : firstOf (fun k=>if ((l.getD k ([],[],0)).1.length ≤ 6 ∧ (l.getD k ([],[],0)).2.1.length ≤ 6) then none else some ()) l.length with
  | some u=>rw [hf] at this;exact .inl ⟨u,this⟩
  | none =>
    rw [hf] at this
    refine .inr ⟨this,hl,fun x hx=>?_⟩
    obtain ⟨k,hk,rfl⟩:=List.getElem_of_mem hx
    have h0:=firstOf_none.1 hf k hk
    have e : l.getD k ([],[],0) = l[k]:=by simp [List.getD_eq_getElem?_getD,List.getElem?_eq_getElem hk]
    rw [e] at h0
    by_cases c : l[k].1.length ≤ 6 ∧ l[k].2.1.length ≤ 6
    · exact c
    · rw [if_neg c] at h0;cases h0
theorem copyPaths {l : List Pth} (h : FewA l) : ref02_CopyPaths l = some l:=by
  have hlen:=h.1
  unfold ref02_CopyPaths
  have:=(run_iter (step:=ref02_CopyPaths_l1 l) (fun k (b : List Pth)=>(b,(k : Int))) (fun k b=>l.take (k + 1)) id l.length (fun k b=>b = l.take k) (b0:=[]) (by simp) (fun k b hk hI=>by
    subst hI
    refine ⟨?_,rfl⟩
    unfold ref02_CopyPaths_l1
    try simp only
    have hm:=h.2 _ (List.getElem_mem hk)
    rw [if_pos (by simp only [decide_eq_true_eq];omega),getI_lt' hk,Option.bind_some]
    try simp only
    rw [copyPath _ _ _ hm.1 hm.2,Option.bind_some]
    try simp only
    rw [appI_one (by rw [List.length_take];omega) (by omega),Option.bind_some,wsucc (n:=l.length) (by omega) (by omega)]
    have e : l.take (k + 1) = l.take k ++ [l[k]]:=by rw [List.take_add_one,List.getElem?_eq_getElem hk];rfl
    rw [e]) (fun b hI=>by
    subst hI
    unfold ref02_CopyPaths_l1
    try simp only
    rw [if_neg (by simp)]
    rfl))
  obtain ⟨h1,h3⟩:=this
  rw [show ((([] : List Pth),(0 : Int)) = (([] : List Pth),((0 : Nat) : Int))) from rfl,h1,h3 l.length (Nat.le_refl _),Option.bind_some]
  simp
/-! ### which lists are right -/
def sqAt (l : List Pth) (k : Nat) : Int:=(l.getD k ([],[],0)).2.2
def elErr (l : List Pth) (k : Nat) : Int:=if pathErr (l.getD k ([],[],0)).1 (l.getD k ([],[],0)).2.1 (sqAt l k) ≠ 0 then pathErr (l.getD k ([],[],0)).1 (l.getD k ([],[],0)).2.1 (sqAt l k) else if 0 < k ∧ sqAt l k < sqAt l (k - 1) then 9 else 0
def elP (l : List Pth) (k : Nat) : Option Int:=if elErr l k ≠ 0 then some (elErr l k) else none
def listErr (l : List Pth) : Int:=if l.length > 200 then 8 else match firstOf (elP l) l.length with|some e=>e|none=>0
theorem getDl {l : List Pth} {k : Nat} (hk : k < l.length) : l.getD k ([],[],0) = l[k]:=by simp [List.getD_eq_getElem?_getD,List.getElem?_eq_getElem hk]
theorem first9 (v1 : List Int) (v2 : List Ptx) (q : Int) (b : Bool) : image_firstError_cd3e v1 v2 q b 9 = some (if pathErr v1 v2 q ≠ 0 then pathErr v1 v2 q else if b = true then 9 else 0):=by
  unfold image_firstError_cd3e
  simp only [wholeP,iRefuse',Option.bind_some]
  by_cases c : pathErr v1 v2 q = 0
  · cases b<;>simp [c]
  · simp [c]
theorem listP (l : List Pth) (hl : l.length ≤ 202) : image_listed_c1_26c7 l = some (listErr l):=by
  unfold image_listed_c1_26c7 listErr
  by_cases c : l.length > 200
  · rw [if_pos (by simp only [decide_eq_true_eq];omega),if_pos c]
  rw [if_neg (by simp only [decide_eq_true_eq];omega),if_neg c]
  have:=run_find (step:=image_listed_c1_26c7_l1 l) (n:=l.length) (p:=elP l) (r:=()) (fun k hk _=>by
    unfold image_listed_c1_26c7_l1 elP elErr sqAt
    rw [getDl hk,if_pos (by simp only [decide_eq_true_eq];omega),getI_lt' hk,Option.bind_some]
    try simp only
    by_cases c0 : 0 < k
    · rw [if_pos (by simp only [decide_eq_true_eq];omega),w64 (x:=(k : Int) - 1) (by omega),show (k : Int) - 1 = ((k - 1 : Nat) : Int) by omega,getI_lt' (show k - 1 < l.length by omega),Option.bind_some,getDl (show k - 1 < l.length by omega)]
      try simp only
      rw [show ∀ (a : List Int) (b : List Ptx) (c : Int),image_whole a b c = some (a,b,c) from fun _ _ _=>rfl,Option.bind_some]
      try simp only
      rw [show ∀ (b : Bool) (e : Int),image_refuse b e = some (b,e) from fun _ _=>rfl,Option.bind_some]
      try simp only
      rw [first9,Option.bind_some,wsucc (n:=l.length) (by omega) (by omega)]
      by_cases c1 : pathErr l[k].1 l[k].2.1 l[k].2.2 = 0
      · by_cases c2 : l[k].2.2 < l[k - 1].2.2<;>simp [c0,c1,c2]
      · simp [c0,c1]
    · rw [if_neg (by simp only [decide_eq_true_eq];omega)]
      rw [show ∀ (a : List Int) (b : List Ptx) (c : Int),image_whole a b c = some (a,b,c) from fun _ _ _=>rfl,Option.bind_some]
      try simp only
      rw [show ∀ (b : Bool) (e : Int),image_refuse b e = some (b,e) from fun _ _=>rfl,Option.bind_some]
      try simp only
      rw [first9,Option.bind_some,wsucc (n:=l.length) (by omega) (by omega)]
      by_cases c1 : pathErr l[k].1 l[k].2.1 l[k].2.2 = 0<;>simp [c0,c1]) (fun _=>by
    unfold image_listed_c1_26c7_l1
    rw [if_neg (by simp)])
  rw [this,Option.bind_some]
  cases firstOf (elP l) l.length with
  | none=>rfl
  | some e=>rfl
theorem listR (l : List Pth) (hl : l.length ≤ 202) : ref02_ListErr l = some (listErr l):=by
  unfold ref02_ListErr listErr
  by_cases c : l.length > 200
  · rw [if_pos (by simp only [decide_eq_true_eq];omega),if_pos c]
  rw [if_neg (by simp only [decide_eq_true_eq];omega),if_neg c]
  have:=run_find (step:=ref02_ListErr_l1 l) (n:=l.length) (p:=elP l) (r:=()) (fun k hk _=>by
    unfold ref02_ListErr_l1 elP elErr sqAt
    rw [getDl hk,if_pos (by simp only [decide_eq_true_eq];omega),getI_lt' hk,Option.bind_some]
    try simp only
    rw [pathR,Option.bind_some,wsucc (n:=l.length) (by omega) (by omega)]
    by_cases c1 : pathErr l[k].1 l[k].2.1 l[k].2.2 = 0
    · rw [if_neg (by simpa using c1)]
      by_cases c0 : 0 < k
      · rw [if_pos (by simp only [decide_eq_true_eq];omega),w64 (x:=(k : Int) - 1) (by omega),show (k : Int) - 1 = ((k - 1 : Nat) : Int) by omega,getI_lt' (show k - 1 < l.length by omega),Option.bind_some,getDl (show k - 1 < l.length by omega)]
        try simp only
        by_cases c2 : l[k].2.2 < l[k - 1].2.2<;>simp [c0,c1,c2]
      · rw [if_neg (by simp only [decide_eq_true_eq];omega)]
        simp [c0,c1]
    · rw [if_pos (by simpa using c1)]
      simp [c1]) (fun _=>by
    unfold ref02_ListErr_l1
    rw [if_neg (by simp)])
  rw [this,Option.bind_some]
  cases firstOf (elP l) l.length with
  | none=>rfl
  | some e=>rfl
theorem right_at {l : List Pth} (h : listErr l = 0) : l.length ≤ 200 ∧ ∀ x ∈ l,1 ≤ x.2.2 ∧ x.2.2 ≤ 24300000000:=by
  unfold listErr at h
  by_cases c : l.length > 200
  · rw [if_pos c] at h;cases h
  rw [if_neg c] at h
  refine ⟨by omega,fun x hx=>?_⟩
  obtain ⟨k,hk,rfl⟩:=List.getElem_of_mem hx
  have hf : firstOf (elP l) l.length = none:=by
    cases hf : firstOf (elP l) l.length with
    | none=>rfl
    | some v =>
      rw [hf] at h
      unfold firstOf at hf
      obtain ⟨j,_,hj⟩:=List.exists_of_findSome?_eq_some hf
      unfold elP at hj
      by_cases c : elErr l j ≠ 0
      · rw [if_pos c] at hj;cases hj;exact absurd h c
      · rw [if_neg c] at hj;cases hj
  have h0:=firstOf_none.1 hf k hk
  unfold elP at h0
  by_cases c : elErr l k ≠ 0
  · rw [if_pos c] at h0;cases h0
  · have c' : elErr l k = 0:=by simpa using c
    unfold elErr sqAt at c'
    rw [getDl hk] at c'
    by_cases c1 : pathErr l[k].1 l[k].2.1 l[k].2.2 = 0
    · have:=pathErr0 c1;exact this.2.2
    · rw [if_pos c1] at c';exact absurd c' c1
/-! ### the gap,and what has arrived -/
theorem first30 (l : List Pth) (hl : l.length ≤ 202) (v : Int) (b : Bool) (e : Int) : image_firstError_30b3 l (decide (v < 30000 ∨ v > 40000)) 2 b e = some (if listErr l ≠ 0 then listErr l else if spErr v ≠ 0 then spErr v else if b = true then e else 0):=by
  unfold image_firstError_30b3 spErr
  simp only [listP l hl,iRefuse',Option.bind_some]
  by_cases c : listErr l = 0
  · by_cases d : v < 30000 ∨ v > 40000
    · simp [c,d]
    · cases b
      · simp [c,d]
      · by_cases z : e = 0<;>simp [c,d,z]
  · simp [c]
def gapErr (l : List Pth) (v : Int) : Int:=if listErr l ≠ 0 then listErr l else if spErr v ≠ 0 then spErr v else if l.length < 2 then 10 else 0
theorem gapP (l : List Pth) (h : FewA l) (v : Int) : (gapErr l v ≠ 0 ∧ image_GapOf l v = some (0,0,gapErr l v)) ∨ (gapErr l v = 0 ∧ ∃ a b,image_GapOf l v = some (a,b,0) ∧ ref02_GapOf l v = some (a,b)):=by
  have e0 : (if listErr l ≠ 0 then listErr l else if spErr v ≠ 0 then spErr v else if decide ((l.length : Int) < 2) = true then 10 else 0) = gapErr l v:=by
    unfold gapErr
    by_cases c : l.length < 2
    · have : (l.length : Int) < 2:=by omega
      simp [c,this]
    · have : ¬ (l.length : Int) < 2:=by omega
      simp [c,this]
  unfold image_GapOf image_listed image_audible image_refuse
  simp only [Option.bind_some,iWithin',first30 l h.1,e0]
  by_cases c : gapErr l v = 0
  · refine .inr ⟨c,?_⟩
    have c0:=c
    unfold gapErr at c
    by_cases c1 : listErr l = 0
    · rw [if_neg (by simpa using c1)] at c
      by_cases c2 : spErr v = 0
      · rw [if_neg (by simpa using c2)] at c
        by_cases c3 : l.length < 2
        · rw [if_pos c3] at c;cases c
        · obtain ⟨_,hr⟩:=right_at c1
          have k0 : 0 < l.length:=by omega
          have k1 : 1 < l.length:=by omega
          obtain ⟨a0,b0,D0⟩:=dels_ex (hr _ (List.getElem_mem k0)) (spErr0 c2)
          obtain ⟨a1,b1,D1⟩:=dels_ex (hr _ (List.getElem_mem k1)) (spErr0 c2)
          have l0:=D0.le
          have l1:=D1.le
          have g0 : getI l 0 = some l[0]:=getI_lt' (l:=l) (k:=0) k0
          have g1 : getI l 1 = some l[1]:=getI_lt' (l:=l) (k:=1) k1
          refine ⟨if a1 - b0 > 0 then a1 - b0 else 0,IntKind.i64.wrap (b1 - a0),?_,?_⟩
          · rw [if_neg (by simpa using c0),g0,Option.bind_some]
            try simp only
            rw [D0.p,Option.bind_some]
            try simp only
            rw [g1,Option.bind_some]
            try simp only
            rw [D1.p,Option.bind_some,w64 (x:=a1 - b0) (by omega)]
            have : (if 0 > a1 - b0 then 0 else a1 - b0) = if a1 - b0 > 0 then a1 - b0 else 0:=by split<;>split<;>omega
            rw [this]
          · unfold ref02_GapOf
            rw [g0,Option.bind_some]
            try simp only
            rw [D0.r,Option.bind_some]
            try simp only
            rw [g1,Option.bind_some]
            try simp only
            rw [D1.r,Option.bind_some,w64 (x:=a1 - b0) (by omega)]
      · rw [if_pos (by simpa using c2)] at c;exact absurd c c2
    · rw [if_pos (by simpa using c1)] at c;exact absurd c c1
  · refine .inl ⟨c,?_⟩
    rw [if_pos (by simpa using c)]
def arErr (l : List Pth) (v m : Int) : Int:=if listErr l ≠ 0 then listErr l else if spErr v ≠ 0 then spErr v else if m < 0 ∨ m > 10000000 then 2 else 0
noncomputable def arK (l : List Pth) (v m : Int) (k : Nat) (b : Int × Int) : Int × Int:=match ref02_DelayOf (sqAt l k) v with
  | some (lo,hi)=>(if hi ≤ m then b.1 + 1 else b.1,if lo ≤ m then b.2 + 1 else b.2)
  | none=>b
theorem arrivedP (l : List Pth) (h : FewA l) (v m : Int) : (arErr l v m ≠ 0 ∧ image_Arrived l v m = some (0,0,arErr l v m)) ∨ (arErr l v m = 0 ∧ ∃ a b,a ≤ b ∧ image_Arrived l v m = some (a,b,0) ∧ ref02_Arrived l v m = some (a,b)):=by
  have e0 : (if listErr l ≠ 0 then listErr l else if spErr v ≠ 0 then spErr v else if decide (m < 0 ∨ m > 10000000) = true then 2 else 0) = arErr l v m:=by
    unfold arErr
    by_cases c : m < 0 ∨ m > 10000000<;>simp [c]
  unfold image_Arrived image_listed image_audible
  simp only [Option.bind_some,iWithin',first30 l h.1,e0]
  by_cases c : arErr l v m = 0
  · refine .inr ⟨c,?_⟩
    have c0:=c
    unfold arErr at c
    by_cases c1 : listErr l = 0
    · rw [if_neg (by simpa using c1)] at c
      by_cases c2 : spErr v = 0
      · obtain ⟨hl,hr⟩:=right_at c1
        have hv:=spErr0 c2
        have inv : ∀ k b,k < l.length → (0 ≤ b.1 ∧ b.1 ≤ b.2 ∧ b.2 ≤ (k : Int)) → (0 ≤ (arK l v m k b).1 ∧ (arK l v m k b).1 ≤ (arK l v m k b).2 ∧ (arK l v m k b).2 ≤ ((k + 1 : Nat) : Int)):=by
          intro k b hk hI
          obtain ⟨x,y,D⟩:=dels_ex (hr _ (List.getElem_mem hk)) hv
          have hle:=D.le
          unfold arK sqAt
          rw [getDl hk,D.r]
          try simp only
          by_cases d1 : y ≤ m
          · have d2 : x ≤ m:=by omega
            rw [if_pos d1,if_pos d2];omega
          · rw [if_neg d1]
            split<;>omega
        have hp:=run_iter (step:=image_Arrived_l1 l v m) (fun k (b : Int × Int)=>(b.1,b.2,(k : Int))) (arK l v m) id l.length (fun k b=>0 ≤ b.1 ∧ b.1 ≤ b.2 ∧ b.2 ≤ (k : Int)) (b0:=(0,0)) (by simp) (fun k b hk hI=>by
          refine ⟨?_,inv k b hk hI⟩
          obtain ⟨x,y,D⟩:=dels_ex (hr _ (List.getElem_mem hk)) hv
          unfold image_Arrived_l1 arK sqAt
          try simp only
          rw [getDl hk,D.r,if_pos (by simp only [decide_eq_true_eq];omega),getI_lt' hk,Option.bind_some]
          try simp only
          rw [D.p,Option.bind_some]
          try simp only
          rw [w64 (x:=b.1 + 1) (by omega),w64 (x:=b.2 + 1) (by omega),wsucc (n:=l.length) (by omega) (by omega)]
          by_cases d1 : y ≤ m<;>by_cases d2 : x ≤ m<;>simp [d1,d2]) (fun b hI=>by
          unfold image_Arrived_l1
          try simp only
          rw [if_neg (by simp)]
          rfl)
        have hq:=run_iter (step:=ref02_Arrived_l1 l v m) (fun k (b : Int × Int)=>(b.1,b.2,(k : Int))) (arK l v m) id l.length (fun k b=>0 ≤ b.1 ∧ b.1 ≤ b.2 ∧ b.2 ≤ (k : Int)) (b0:=(0,0)) (by simp) (fun k b hk hI=>by
          refine ⟨?_,inv k b hk hI⟩
          obtain ⟨x,y,D⟩:=dels_ex (hr _ (List.getElem_mem hk)) hv
          unfold ref02_Arrived_l1 arK sqAt
          try simp only
          rw [getDl hk,D.r,if_pos (by simp only [decide_eq_true_eq];omega),getI_lt' hk,Option.bind_some]
          try simp only
          rw [D.r,Option.bind_some]
          try simp only
          rw [w64 (x:=b.1 + 1) (by omega),w64 (x:=b.2 + 1) (by omega),wsucc (n:=l.length) (by omega) (by omega)]
          by_cases d1 : y ≤ m<;>by_cases d2 : x ≤ m<;>simp [d1,d2]) (fun b hI=>by
          unfold ref02_Arrived_l1
          try simp only
          rw [if_neg (by simp)]
          rfl)
        refine ⟨_,_,(hp.2 _ (Nat.le_refl _)).2.1,?_,?_⟩
        · rw [if_neg (by simpa using c0),show ((0 : Int),(0 : Int),(0 : Int)) = ((0 : Int),(0 : Int),((0 : Nat) : Int)) from rfl,hp.1,Option.bind_some]
          rfl
        · unfold ref02_Arrived
          rw [show ((0 : Int),(0 : Int),(0 : Int)) = ((0 : Int),(0 : Int),((0 : Nat) : Int)) from rfl,hq.1,Option.bind_some]
          rfl
      · rw [if_pos (by simpa using c2)] at c;exact absurd c c2
    · rw [if_pos (by simpa using c1)] at c;exact absurd c c1
  · refine .inl ⟨c,?_⟩
    rw [if_pos (by simpa using c)]
end Go.Rex

open Go Go.Rex
namespace Go.Rex
set_option maxRecDepth 100000
theorem body_true {l : List Pth} {v m : Int} (h : FewA l) : ((ref02_CopyPaths l).bind fun v14 =>
          (image_GapOf v14 v).bind fun (v15,v16,v17) =>
          (ref02_CopyPaths l).bind fun v18 =>
          (image_Arrived v18 v m).bind fun (v19,v20,v21) =>
          (ref02_ListErr l).bind fun v22 =>
          if (decide (v22 = 0)) = true then
            ((ref02_SpeedErr v).bind fun v23 =>
            if (decide (v23 ≠ 0)) = true then
              (if (decide (v17 = v23)) = true then
                (if (decide (v21 = v23)) = true then
                  (if ([v15 == 0,v16 == 0].all id) = true then
                    (some (([v19 == 0,v20 == 0].all id)))
                  else
                    (some (false)))
                else
                  (some (false)))
              else
                (some (false)))
            else
              (if (decide ((l.length : Int) < 2)) = true then
                (if (decide (v17 ≠ 10)) = true then
                  (some (false))
                else
                  (if ([v15 == 0,v16 == 0].all id) = true then
                    (if (decide ((l.length : Int) ≥ 2)) = true then
                      (if (decide (v17 ≠ 0)) = true then
                        (some (false))
                      else
                        ((ref02_GapOf l v).bind fun (v24,v25) =>
                        if ([v15 == v24,v16 == v25].all id) = true then
                          ((base_Within m 0 10000000).bind fun v26 =>
                          if v26 = true then
                            (if (decide (v21 = 0)) = true then
                              ((ref02_Arrived l v m).bind fun (v27,v28) =>
                              if ([v19 == v27,v20 == v28].all id) = true then
                                (some ((decide (v19 ≤ v20))))
                              else
                                (some (false)))
                            else
                              (some (false)))
                          else
                            (if (decide (v21 = 2)) = true then
                              (some (([v19 == 0,v20 == 0].all id)))
                            else
                              (some (false))))
                        else
                          (some (false))))
                    else
                      ((base_Within m 0 10000000).bind fun v29 =>
                      if v29 = true then
                        (if (decide (v21 = 0)) = true then
                          ((ref02_Arrived l v m).bind fun (v30,v31) =>
                          if ([v19 == v30,v20 == v31].all id) = true then
                            (some ((decide (v19 ≤ v20))))
                          else
                            (some (false)))
                        else
                          (some (false)))
                      else
                        (if (decide (v21 = 2)) = true then
                          (some (([v19 == 0,v20 == 0].all id)))
                        else
                          (some (false)))))
                  else
                    (some (false))))
              else
                (if (decide ((l.length : Int) ≥ 2)) = true then
                  (if (decide (v17 ≠ 0)) = true then
                    (some (false))
                  else
                    ((ref02_GapOf l v).bind fun (v32,v33) =>
                    if ([v15 == v32,v16 == v33].all id) = true then
                      ((base_Within m 0 10000000).bind fun v34 =>
                      if v34 = true then
                        (if (decide (v21 = 0)) = true then
                          ((ref02_Arrived l v m).bind fun (v35,v36) =>
                          if ([v19 == v35,v20 == v36].all id) = true then
                            (some ((decide (v19 ≤ v20))))
                          else
                            (some (false)))
                        else
                          (some (false)))
                      else
                        (if (decide (v21 = 2)) = true then
                          (some (([v19 == 0,v20 == 0].all id)))
                        else
                          (some (false))))
                    else
                      (some (false))))
                else
                  ((base_Within m 0 10000000).bind fun v37 =>
                  if v37 = true then
                    (if (decide (v21 = 0)) = true then
                      ((ref02_Arrived l v m).bind fun (v38,v39) =>
                      if ([v19 == v38,v20 == v39].all id) = true then
                        (some ((decide (v19 ≤ v20))))
                      else
                        (some (false)))
                    else
                      (some (false)))
                  else
                    (if (decide (v21 = 2)) = true then
                      (some (([v19 == 0,v20 == 0].all id)))
                    else
                      (some (false)))))))
          else
            (if (decide (v22 ≠ 0)) = true then
              (if (decide (v17 = v22)) = true then
                (if (decide (v21 = v22)) = true then
                  (if ([v15 == 0,v16 == 0].all id) = true then
                    (some (([v19 == 0,v20 == 0].all id)))
                  else
                    (some (false)))
                else
                  (some (false)))
              else
                (some (false)))
            else
              (if (decide ((l.length : Int) < 2)) = true then
                (if (decide (v17 ≠ 10)) = true then
                  (some (false))
                else
                  (if ([v15 == 0,v16 == 0].all id) = true then
                    (if (decide ((l.length : Int) ≥ 2)) = true then
                      (if (decide (v17 ≠ 0)) = true then
                        (some (false))
                      else
                        ((ref02_GapOf l v).bind fun (v40,v41) =>
                        if ([v15 == v40,v16 == v41].all id) = true then
                          ((base_Within m 0 10000000).bind fun v42 =>
                          if v42 = true then
                            (if (decide (v21 = 0)) = true then
                              ((ref02_Arrived l v m).bind fun (v43,v44) =>
                              if ([v19 == v43,v20 == v44].all id) = true then
                                (some ((decide (v19 ≤ v20))))
                              else
                                (some (false)))
                            else
                              (some (false)))
                          else
                            (if (decide (v21 = 2)) = true then
                              (some (([v19 == 0,v20 == 0].all id)))
                            else
                              (some (false))))
                        else
                          (some (false))))
                    else
                      ((base_Within m 0 10000000).bind fun v45 =>
                      if v45 = true then
                        (if (decide (v21 = 0)) = true then
                          ((ref02_Arrived l v m).bind fun (v46,v47) =>
                          if ([v19 == v46,v20 == v47].all id) = true then
                            (some ((decide (v19 ≤ v20))))
                          else
                            (some (false)))
                        else
                          (some (false)))
                      else
                        (if (decide (v21 = 2)) = true then
                          (some (([v19 == 0,v20 == 0].all id)))
                        else
                          (some (false)))))
                  else
                    (some (false))))
              else
                (if (decide ((l.length : Int) ≥ 2)) = true then
                  (if (decide (v17 ≠ 0)) = true then
                    (some (false))
                  else
                    ((ref02_GapOf l v).bind fun (v48,v49) =>
                    if ([v15 == v48,v16 == v49].all id) = true then
                      ((base_Within m 0 10000000).bind fun v50 =>
                      if v50 = true then
                        (if (decide (v21 = 0)) = true then
                          ((ref02_Arrived l v m).bind fun (v51,v52) =>
                          if ([v19 == v51,v20 == v52].all id) = true then
                            (some ((decide (v19 ≤ v20))))
                          else
                            (some (false)))
                        else
                          (some (false)))
                      else
                        (if (decide (v21 = 2)) = true then
                          (some (([v19 == 0,v20 == 0].all id)))
                        else
                          (some (false))))
                    else
                      (some (false))))
                else
                  ((base_Within m 0 10000000).bind fun v53 =>
                  if v53 = true then
                    (if (decide (v21 = 0)) = true then
                      ((ref02_Arrived l v m).bind fun (v54,v55) =>
                      if ([v19 == v54,v20 == v55].all id) = true then
                        (some ((decide (v19 ≤ v20))))
                      else
                        (some (false)))
                    else
                      (some (false)))
                  else
                    (if (decide (v21 = 2)) = true then
                      (some (([v19 == 0,v20 == 0].all id)))
                    else
                      (some (false))))))) : Option Bool) = some true:=by
  have all2 : ∀ {a b : Int},(([a == a,b == b] : List Bool).all id) = true:=fun {a b}=>by simp
  have hl:=h.1
  have hc:=copyPaths h
  simp only [hc,Option.bind_some,listR l hl,speedR]
  by_cases c1 : listErr l = 0
  · by_cases c2 : spErr v = 0
    · have ea : arErr l v m = if m < 0 ∨ m > 10000000 then 2 else 0:=by unfold arErr;rw [if_neg (by simpa using c1),if_neg (by simpa using c2)]
      have eg : gapErr l v = if l.length < 2 then 10 else 0:=by unfold gapErr;rw [if_neg (by simpa using c1),if_neg (by simpa using c2)]
      have hm : (arErr l v m = 0 ↔ 0 ≤ m ∧ m ≤ 10000000) ∧ (arErr l v m ≠ 0 → arErr l v m = 2):=by
        rw [ea]
        by_cases z : m < 0 ∨ m > 10000000
        · rw [if_pos z];exact ⟨⟨fun h=>(by cases h),fun h=>by omega⟩,fun _=>rfl⟩
        · rw [if_neg z];exact ⟨⟨fun _=>by omega,fun _=>rfl⟩,fun h=>absurd rfl h⟩
      rcases gapP l h v with ⟨g1,g2⟩|⟨g1,a,b,g2,g3⟩
      · have n2 : l.length < 2 := by
          by_cases z : l.length < 2
          · exact z
          · rw [eg,if_neg z] at g1;exact absurd rfl g1
        have g10 : gapErr l v = 10:=by rw [eg,if_pos n2]
        have n2i : (l.length : Int) < 2:=by omega
        have n2j : ¬ (l.length : Int) ≥ 2:=by omega
        rcases arrivedP l h v m with ⟨r1,r2⟩|⟨r1,x,y,r2,r3,r4⟩
        · have hw : ¬ (0 ≤ m ∧ m ≤ 10000000):=fun z=>r1 (hm.1.2 z)
          simp only [g2,r2,g10,hm.2 r1,c1,c2,n2i,n2j,withinB,hw,Option.bind_some,decide_true,decide_false,ne_eq,not_true,not_false_eq_true,if_true,if_false,Bool.false_eq_true,all2]
        · have hw:=hm.1.1 r1
          simp only [g2,r3,r4,g10,c1,c2,n2i,n2j,withinB,hw,and_self,Option.bind_some,decide_true,decide_false,ne_eq,not_true,not_false_eq_true,if_true,if_false,Bool.false_eq_true,all2,r2]
      · have n2 : ¬ l.length < 2 := by
          intro z
          rw [eg,if_pos z] at g1;cases g1
        have n2i : ¬ (l.length : Int) < 2:=by omega
        have n2j : (l.length : Int) ≥ 2:=by omega
        rcases arrivedP l h v m with ⟨r1,r2⟩|⟨r1,x,y,r2,r3,r4⟩
        · have hw : ¬ (0 ≤ m ∧ m ≤ 10000000):=fun z=>r1 (hm.1.2 z)
          simp only [g2,g3,r2,hm.2 r1,c1,c2,n2i,n2j,withinB,hw,Option.bind_some,decide_true,decide_false,ne_eq,not_true,not_false_eq_true,if_true,if_false,Bool.false_eq_true,all2]
        · have hw:=hm.1.1 r1
          simp only [g2,g3,r3,r4,c1,c2,n2i,n2j,withinB,hw,and_self,Option.bind_some,decide_true,decide_false,ne_eq,not_true,not_false_eq_true,if_true,if_false,Bool.false_eq_true,all2,r2]
    · have ea : arErr l v m = spErr v:=by unfold arErr;rw [if_neg (by simpa using c1),if_pos c2]
      have eg : gapErr l v = spErr v:=by unfold gapErr;rw [if_neg (by simpa using c1),if_pos c2]
      rcases gapP l h v with ⟨_,g2⟩|⟨g1,_⟩
      · rcases arrivedP l h v m with ⟨_,r2⟩|⟨r1,_⟩
        · rw [ea] at r2
          rw [eg] at g2
          simp only [g2,r2,c1,c2,Option.bind_some,decide_true,decide_false,ne_eq,not_true,not_false_eq_true,if_true,if_false,Bool.false_eq_true,all2]
        · exact absurd (ea ▸ r1) c2
      · exact absurd (eg ▸ g1) c2
  · have ea : arErr l v m = listErr l:=by unfold arErr;rw [if_pos c1]
    have eg : gapErr l v = listErr l:=by unfold gapErr;rw [if_pos c1]
    rcases gapP l h v with ⟨_,g2⟩|⟨g1,_⟩
    · rcases arrivedP l h v m with ⟨_,r2⟩|⟨r1,_⟩
      · rw [ea] at r2
        rw [eg] at g2
        simp only [g2,r2,c1,Option.bind_some,decide_true,decide_false,ne_eq,not_true,not_false_eq_true,if_true,if_false,Bool.false_eq_true,all2]
      · exact absurd (ea ▸ r1) c1
    · exact absurd (eg ▸ g1) c1

theorem arrivals_true (l : List Pth) (v u m : Int) : law02_ImageArrivals l v u m = some true:=by
  unfold law02_ImageArrivals
  by_cases c1 : (l.length : Int) > 12
  · rw [if_pos (by simpa using c1)]
    by_cases c2 : (l.length : Int) ≤ 200
    · rw [if_pos (by simpa using c2)]
    rw [if_neg (by simpa using c2)]
    by_cases c3 : (l.length : Int) > 202
    · rw [if_pos (by simpa using c3)]
    rw [if_neg (by simpa using c3)]
    rcases short_run l (by omega) (.inl rfl) with ⟨u,hr⟩|⟨hr,h⟩
    · rw [hr];rfl
    · rw [hr,Option.bind_some]
      exact body_true h
  · rw [if_neg (by simpa using c1)]
    by_cases c3 : (l.length : Int) > 202
    · rw [if_pos (by simpa using c3)]
    rw [if_neg (by simpa using c3)]
    rcases short_run l (by omega) (.inr rfl) with ⟨u,hr⟩|⟨hr,h⟩
    · rw [hr];rfl
    · rw [hr,Option.bind_some]
      exact body_true h
end Go.Rex

namespace Go.Rex
open Go Go.ChangeShapes Go.WideShapes Go.ChangeAt Go.RowKit Go.Joins Go.Proofs
/-! ### arguments: what they are as trees,and the names of their blocks -/
structure Arg (W : World) (v' : Value) (p : TV) (bs : List Blk) (is : List Info) (av : Nat → Value) : Prop where
  vr : ∀ (D : Nat → Prop) (m : NMap) n,(∀ j,j < bs.length → D (n + j)) → (∀ (j : Nat) i,is[j]? = some i → m (n + j) = i) → VR D m (av n) v'
  vl : ∀ (Fz : Nat → Prop) (h : List Blk) n,(∀ j,j < bs.length → Fz (n + j)) → (∀ (j : Nat) b,bs[j]? = some b → h[n + j]? = some b) → VL Fz h noL p (av n)
  ok : ∀ (D : Nat → Prop) (m : NMap) n,(∀ j,j < bs.length → D (n + j)) → (∀ (j : Nat) i,is[j]? = some i → m (n + j) = i) → ∀ (j : Nat) b,bs[j]? = some b → BlkOk D m W (n + j) b
  lt : ∀ (j : Nat) b i,bs[j]? = some b → is[j]? = some i → b ≠ .dead → i.block < W.heap.size
  len : is.length = bs.length
structure Args (W : World) (vs' : List Value) (ps : List TV) (bs : List Blk) (is : List Info) (av : Nat → List Value) : Prop where
  vr : ∀ (D : Nat → Prop) (m : NMap) n,(∀ j,j < bs.length → D (n + j)) → (∀ (j : Nat) i,is[j]? = some i → m (n + j) = i) → VRs D m (av n) vs'
  vl : ∀ (Fz : Nat → Prop) (h : List Blk) n,(∀ j,j < bs.length → Fz (n + j)) → (∀ (j : Nat) b,bs[j]? = some b → h[n + j]? = some b) → VLs Fz h noL ps (av n)
  ok : ∀ (D : Nat → Prop) (m : NMap) n,(∀ j,j < bs.length → D (n + j)) → (∀ (j : Nat) i,is[j]? = some i → m (n + j) = i) → ∀ (j : Nat) b,bs[j]? = some b → BlkOk D m W (n + j) b
  lt : ∀ (j : Nat) b i,bs[j]? = some b → is[j]? = some i → b ≠ .dead → i.block < W.heap.size
  len : is.length = bs.length
/-- the names of the arguments -/
def nm (is : List Info) : NMap:=fun n=>is.getD n ⟨0,0,0,0⟩
section
variable {W : World} {vs' : List Value} {ps : List TV} {bs : List Blk} {is : List Info} {av : Nat → List Value}
end
theorem len1 {α : Type} {l : List α} (h : l.length = 1) : ∃ x0,l = [x0]:=by
  match l,h with
  | [x0],_=>exact ⟨_,rfl⟩
theorem len3 {α : Type} {l : List α} (h : l.length = 3) : ∃ x0 x1 x2,l = [x0,x1,x2]:=by
  match l,h with
  | [x0,x1,x2],_=>exact ⟨_,_,_,rfl⟩
theorem len4 {α : Type} {l : List α} (h : l.length = 4) : ∃ x0 x1 x2 x3,l = [x0,x1,x2,x3]:=by
  match l,h with
  | [x0,x1,x2,x3],_=>exact ⟨_,_,_,_,rfl⟩
/-! ### arguments without names -/
def AtomV (c : Value) : Prop:=isAtom c = true ∧ ∀ D m,VR D m c c
theorem atomV_int (k : IntKind) (n : Int) : AtomV (.int k n):=⟨rfl,fun _ _=>.int _ _⟩
theorem Arg.atom {W : World} {v : Value} (h : AtomV v) : Arg W v (.v v) [] [] (fun _=>v) :=
  ⟨fun _ _ _ _ _=>h.2 _ _,fun _ _ _ _ _=>.v _ _ h.1,fun _ _ _ _ _ j b h=>by simp at h,fun j b i h=>by simp at h,rfl⟩
theorem Arg.agg {W : World} {l : List Value} (h : ∀ c ∈ l,AtomV c) : Arg W (.agg ⟨l⟩) (.agg (l.map .v)) [] [] (fun _=>.agg ⟨l⟩):=by
  refine ⟨fun _ _ _ _ _=>.agg _ _ rfl fun i v v' hv hv'=>?_,fun _ _ _ _ _=>.agg _ _ _ (by simp) fun i p x hp hx=>?_,fun _ _ _ _ _ j b h=>by simp at h,fun j b i h=>by simp at h,rfl⟩
  · obtain rfl : v = v':=Option.some.inj (hv.symm.trans hv')
    exact (h v (List.mem_of_getElem? hv)).2 _ _
  · rw [List.getElem?_map,hx] at hp
    obtain rfl:=Option.some.inj hp
    exact .v _ _ (h x (List.mem_of_getElem? hx)).1
/-! ### a slice of rows -/
theorem choose_list {α : Type} {Q : Nat → α → Prop} : ∀ n,(∀ i,i < n → ∃ x,Q i x) → ∃ xs : List α,xs.length = n ∧ ∀ (i : Nat) x,xs[i]? = some x → Q i x
  | 0,_=>⟨[],rfl,fun i x h=>by simp at h⟩
  | n + 1,h=>by
    obtain ⟨xs,hl,hq⟩:=choose_list n (fun i hi=>h i (by omega))
    obtain ⟨x,hx⟩:=h n (by omega)
    refine ⟨xs ++ [x],by simp [hl],fun i y hy=>?_⟩
    rcases Nat.lt_or_ge i n with hi|hi
    · rw [List.getElem?_append_left (by omega)] at hy
      exact hq i y hy
    · rw [List.getElem?_append_right (by omega),hl] at hy
      have : i = n:=by
        rcases Nat.lt_or_ge 0 (i - n) with g|g
        · rw [List.getElem?_eq_none (by simp;omega)] at hy;cases hy
        · omega
      subst this
      simp at hy
      subst hy
      exact hx
section
variable {H : Type} {enc : TypeId × Value → H} {W : World} {base : Nat} {spare : Nat → Bool} {held : Bool}
/-! ### aggregates of ints -/
def AI (cs : List Value) : Prop:=∀ c ∈ cs,∃ n : Int,c = .int .i64 n
theorem AI.list {cs : List Value} (h : AI cs) : ∃ l : List Int,cs = l.map (.int .i64):=by
  induction cs with
  | nil=>exact ⟨[],rfl⟩
  | cons c t ih =>
    obtain ⟨n,rfl⟩:=h c (by simp)
    obtain ⟨l,rfl⟩:=ih fun c hc=>h c (by simp [hc])
    exact ⟨n :: l,rfl⟩
variable {P : Program}
theorem okW_int {t : TypeId} (ht : P.underlying t = some (.int .i64)) {r : Reach} {b : Nat} {v : Value} (w : Cell.okWide P W r b t v) : ∃ n : Int,v = .int .i64 n:=by
  unfold Cell.okWide at w
  simp only [ht] at w
  unfold Cell.ok at w
  simp only [ht] at w
  cases v<;>first|exact ⟨_,by rw [w.1]⟩|exact absurd w (by simp)
theorem open_sti {t ti : TypeId} {fs : Array Field} {n : Nat} (ht : P.underlying t = some (.struct fs)) (hti : P.underlying ti = some (.int .i64)) (hct : P.cellTypes P.depth t = some (List.replicate n ti)) (hn : P.cellsOf t = n)
    {r : Reach} {b : Nat} {v : Value} (w : Value.okWide P W r b t v) : ∃ l : List Int,l.length = n ∧ v = .agg ⟨l.map (.int .i64)⟩:=by
  unfold Value.okWide at w
  simp only [ht] at w
  obtain ⟨cs,rfl,hs,ts,hts,_,hc⟩:=w
  rw [hct] at hts
  obtain rfl:=Option.some.inj hts
  obtain ⟨l⟩:=cs
  have : AI l:=by
    intro c hcm
    obtain ⟨j,hj,rfl⟩:=List.mem_iff_getElem.1 hcm
    obtain ⟨u,hu,hok⟩:=hc j l[j] (by simp)
    have:=List.eq_of_mem_replicate (List.mem_of_getElem? hu)
    subst this
    exact okW_int hti hok
  obtain ⟨l',rfl⟩:=this.list
  refine ⟨l',?_,rfl⟩
  simpa [hn] using hs
theorem arg_ints (l : List Int) : Arg W (.agg ⟨l.map (.int .i64)⟩) (.agg (l.map fun x=>.v (.int .i64 x))) [] [] (fun _=>.agg ⟨l.map (.int .i64)⟩):=by
  have:=Arg.agg (W:=W) (l:=l.map (.int .i64)) fun c hc=>by obtain ⟨x,_,rfl⟩:=List.mem_map.1 hc;exact atomV_int _ _
  rwa [List.map_map] at this
theorem st_field {t : TypeId} {fs : Array Field} {i : Nat} {f : Field} (ht : P.underlying t = some (.struct fs)) (hf : fs[i]? = some f) {fuel : Nat} {cs : List Value} {x : DataW H × List MemPlace} (h : DataW.trod enc P W base spare held fuel t cs = some x) :
    ∃ n y,DataW.trod enc P W base spare held n f.type ((cs.drop f.offset).take (P.cellsOf f.type)) = some y:=by
  obtain ⟨xs,n,_,_,hl,hx,hi⟩:=DataW.trod_struct ht h
  have:=hi i f hf
  have hil : i < fs.size:=(Array.getElem?_eq_some_iff.1 hf).1
  rw [List.getElem?_eq_getElem (by omega)] at this
  exact ⟨n,_,this⟩
end
end Go.Rex

namespace Go.Rex
open Go Go.ChangeShapes Go.WideShapes Go.ChangeAt Go.RowKit Go.Joins Go.Proofs
/-! ### arguments whose blocks name one another: lists of lists -/
structure NArg (W : World) (v' : Value) (p : TV) (bs : Nat → List Blk) (is : List Info) (av : Nat → Value) : Prop where
  vr : ∀ (D : Nat → Prop) (m : NMap) n,(∀ j,j < is.length → D (n + j)) → (∀ (j : Nat) i,is[j]? = some i → m (n + j) = i) → VR D m (av n) v'
  vl : ∀ (Fz : Nat → Prop) (h : List Blk) n,(∀ j,j < is.length → Fz (n + j)) → (∀ (j : Nat) b,(bs n)[j]? = some b → h[n + j]? = some b) → VL Fz h noL p (av n)
  ok : ∀ (D : Nat → Prop) (m : NMap) n,(∀ j,j < is.length → D (n + j)) → (∀ (j : Nat) i,is[j]? = some i → m (n + j) = i) → ∀ (j : Nat) b,(bs n)[j]? = some b → BlkOk D m W (n + j) b
  lt : ∀ n (j : Nat) b i,(bs n)[j]? = some b → is[j]? = some i → b ≠ .dead → i.block < W.heap.size
  len : ∀ n,(bs n).length = is.length
structure NArgs (W : World) (vs' : List Value) (ps : List TV) (bs : Nat → List Blk) (is : List Info) (av : Nat → List Value) : Prop where
  vr : ∀ (D : Nat → Prop) (m : NMap) n,(∀ j,j < is.length → D (n + j)) → (∀ (j : Nat) i,is[j]? = some i → m (n + j) = i) → VRs D m (av n) vs'
  vl : ∀ (Fz : Nat → Prop) (h : List Blk) n,(∀ j,j < is.length → Fz (n + j)) → (∀ (j : Nat) b,(bs n)[j]? = some b → h[n + j]? = some b) → VLs Fz h noL ps (av n)
  ok : ∀ (D : Nat → Prop) (m : NMap) n,(∀ j,j < is.length → D (n + j)) → (∀ (j : Nat) i,is[j]? = some i → m (n + j) = i) → ∀ (j : Nat) b,(bs n)[j]? = some b → BlkOk D m W (n + j) b
  lt : ∀ n (j : Nat) b i,(bs n)[j]? = some b → is[j]? = some i → b ≠ .dead → i.block < W.heap.size
  len : ∀ n,(bs n).length = is.length
theorem Arg.n {W : World} {v' : Value} {p : TV} {bs : List Blk} {is : List Info} {av : Nat → Value} (a : Arg W v' p bs is av) : NArg W v' p (fun _=>bs) is av :=
  ⟨fun D m n hD hm=>a.vr D m n (by rw [← a.len];exact hD) hm,fun Fz h n hF hh=>a.vl Fz h n (by rw [← a.len];exact hF) hh,fun D m n hD hm=>a.ok D m n (by rw [← a.len];exact hD) hm,fun _=>a.lt,fun _=>a.len.symm⟩
theorem NArgs.nil (W : World) : NArgs W [] [] (fun _=>[]) [] (fun _=>[]) :=
  ⟨fun _ _ _ _ _=>⟨rfl,fun i a a' h=>by simp at h⟩,fun _ _ _ _ _=>.nil,fun _ _ _ _ _ j b h=>by simp at h,fun _ j b i h=>by simp at h,fun _=>rfl⟩
theorem NArgs.cons {W : World} {v' : Value} {p : TV} {bs bs2 : Nat → List Blk} {is is2 : List Info} {av : Nat → Value} {vs' : List Value} {ps : List TV} {avs : Nat → List Value}
    (a : NArg W v' p bs is av) (az : NArgs W vs' ps bs2 is2 avs) : NArgs W (v' :: vs') (p :: ps) (fun n=>bs n ++ bs2 (n + is.length)) (is ++ is2) (fun n=>av n :: avs (n + is.length)):=by
  have cD : ∀ (D : Nat → Prop) n,(∀ j,j < (is ++ is2).length → D (n + j)) → (∀ j,j < is.length → D (n + j)) ∧ (∀ j,j < is2.length → D (n + is.length + j)):=by
    intro D n h
    refine ⟨fun j hj=>h j (by simp;omega),fun j hj=>?_⟩
    have:=h (is.length + j) (by simp;omega)
    rwa [← Nat.add_assoc] at this
  have cI : ∀ (m : NMap) n,(∀ (j : Nat) i,(is ++ is2)[j]? = some i → m (n + j) = i) → (∀ (j : Nat) i,is[j]? = some i → m (n + j) = i) ∧ (∀ (j : Nat) i,is2[j]? = some i → m (n + is.length + j) = i):=by
    intro m n h
    refine ⟨fun j i hj=>h j i (by rw [List.getElem?_append_left (List.getElem?_eq_some_iff.1 hj).1];exact hj),fun j i hj=>?_⟩
    have:=h (is.length + j) i (by rw [List.getElem?_append_right (by omega),Nat.add_sub_cancel_left];exact hj)
    rwa [← Nat.add_assoc] at this
  refine ⟨fun D m n hD hm=>?_,fun Fz h n hF hh=>?_,fun D m n hD hm j b hb=>?_,fun n j b i hb hi hd=>?_,fun n=>by simp [a.len,az.len]⟩
  · have h1:=a.vr D m n (cD D n hD).1 (cI m n hm).1
    have h2:=az.vr D m (n + is.length) (cD D n hD).2 (cI m n hm).2
    refine ⟨by simp [h2.len],fun i x x' hx hx'=>?_⟩
    cases i with
    | zero=>simp at hx hx';subst hx hx';exact h1
    | succ i=>simp at hx hx';exact h2.at' i x x' hx hx'
  · refine .cons (a.vl Fz h n (cD Fz n hF).1 fun j b hb=>hh j b (by rw [List.getElem?_append_left (List.getElem?_eq_some_iff.1 hb).1];exact hb)) (az.vl Fz h (n + is.length) (cD Fz n hF).2 fun j b hb=>?_)
    have:=hh (is.length + j) b (by rw [List.getElem?_append_right (by rw [a.len];omega),a.len,Nat.add_sub_cancel_left];exact hb)
    rwa [← Nat.add_assoc] at this
  · rcases Nat.lt_or_ge j is.length with hj|hj
    · rw [List.getElem?_append_left (by rw [a.len];exact hj)] at hb
      exact a.ok D m n (cD D n hD).1 (cI m n hm).1 j b hb
    · rw [List.getElem?_append_right (by rw [a.len];exact hj),a.len] at hb
      have:=az.ok D m (n + is.length) (cD D n hD).2 (cI m n hm).2 _ b hb
      rwa [show n + is.length + (j - is.length) = n + j by omega] at this
  · rcases Nat.lt_or_ge j is.length with hj|hj
    · rw [List.getElem?_append_left (by rw [a.len];exact hj)] at hb
      rw [List.getElem?_append_left hj] at hi
      exact a.lt n j b i hb hi hd
    · rw [List.getElem?_append_right (by rw [a.len];exact hj),a.len] at hb
      rw [List.getElem?_append_right hj] at hi
      exact az.lt _ _ b i hb hi hd
section
variable {W : World} {vs' : List Value} {ps : List TV} {bs : Nat → List Blk} {is : List Info} {av : Nat → List Value}
/-- the names of the variables of packages come first -/
def gnm (is : List Info) : NMap:=fun k=>if k < NG then gm k else is.getD (k - NG) ⟨0,0,0,0⟩
theorem gnm_at {is : List Info} {j : Nat} {i : Info} (h : is[j]? = some i) : gnm is (NG + j) = i:=by
  unfold gnm
  rw [if_neg (by omega),Nat.add_sub_cancel_left,List.getD_eq_getElem?_getD,h]
  rfl
theorem gh_len : GH.length = NG:=rfl
theorem NArgs.rel (a : NArgs W vs' ps bs is av) (hw : GW W) (hs : NG ≤ W.heap.size) : Rel W.heap.size (GH ++ bs NG).length (fun k=>k < (GH ++ bs NG).length) (gnm is) (GH ++ bs NG) W:=by
  have hl:=a.len NG
  have hn : (GH ++ bs NG).length = NG + is.length:=by rw [List.length_append,gh_len,hl]
  have old : ∀ k,k < NG → gnm is k = gm k:=fun k hk=>if_pos hk
  have parts : ∀ n b,n < (GH ++ bs NG).length → (GH ++ bs NG)[n]? = some b → (n < NG ∧ GH[n]? = some b) ∨ ∃ j,n = NG + j ∧ (bs NG)[j]? = some b:=by
    intro n b hn' hb
    rcases Nat.lt_or_ge n NG with h|h
    · rw [List.getElem?_append_left h] at hb;exact .inl ⟨h,hb⟩
    · rw [List.getElem?_append_right h,gh_len] at hb;exact .inr ⟨n - NG,by omega,hb⟩
  have st:=Rel.start W hw hs
  have lt : ∀ n b,n < (GH ++ bs NG).length → (GH ++ bs NG)[n]? = some b → b ≠ .dead → (gnm is n).block < W.heap.size:=by
    intro n b hn' hb hd
    rcases parts n b hn' hb with ⟨h1,h2⟩|⟨j,rfl,h2⟩
    · rw [old n h1];exact st.lt n b h1 h2 hd
    · have hj : j < is.length:=by omega
      rw [gnm_at (List.getElem?_eq_getElem hj)]
      exact a.lt NG j b _ h2 (List.getElem?_eq_getElem hj) hd
  refine ⟨Nat.le_refl _,fun _ h=>h,fun n b hn' hb=>?_,lt,fun n b hD hl=>absurd hD (by omega),fun n b hn' _ hb hd=>lt n b hn' hb hd,fun n b hD hl=>absurd hD (by omega),fun n n' b b' hD _ hl=>absurd hD (by omega),⟨fun g hg=>⟨?_,?_⟩,hs,hw⟩⟩
  · rcases parts n b hn' hb with ⟨h1,h2⟩|⟨j,rfl,h2⟩
    · exact (st.ok n b h1 h2).mono (fun k hk=>by have hk' : k < NG:=hk;show k < (GH ++ bs NG).length;omega) (fun k hk=>old k hk) (old n h1)
    · exact a.ok (fun k=>k < (GH ++ bs NG).length) (gnm is) NG (fun j hj=>by omega) (fun j i hi=>gnm_at hi) j b h2
  · show g < (GH ++ bs NG).length;omega
  · rw [old g hg];exact gm_at g
theorem NArgs.vls (a : NArgs W vs' ps bs is av) : VLs (fun k=>k < (GH ++ bs NG).length) (GH ++ bs NG) noL ps (av NG):=by
  have hn : (GH ++ bs NG).length = NG + is.length:=by rw [List.length_append,gh_len,a.len NG]
  exact a.vl _ _ NG (fun j hj=>by omega) (fun j b hb=>by rw [List.getElem?_append_right (by rw [gh_len];omega),gh_len,Nat.add_sub_cancel_left];exact hb)
theorem NArgs.vrs (a : NArgs W vs' ps bs is av) : VRs (fun k=>k < (GH ++ bs NG).length) (gnm is) (av NG) vs':=by
  have hn : (GH ++ bs NG).length = NG + is.length:=by rw [List.length_append,gh_len,a.len NG]
  exact a.vr _ _ NG (fun j hj=>by omega) (fun j i hi=>gnm_at hi)
/-- many arguments of a kind -/
theorem nargs_list {α : Type} {F : α → TV} : ∀ (vs' : List Value), (∀ c ∈ vs', ∃ (x : α) (bs : Nat → List Blk) (is : List Info) (av : Nat → Value), NArg W c (F x) bs is av) →
    ∃ (xs : List α) (bs : Nat → List Blk) (is : List Info) (av : Nat → List Value),xs.length = vs'.length ∧ NArgs W vs' (xs.map F) bs is av
  | [],_=>⟨[],_,_,_,rfl,NArgs.nil W⟩
  | c :: t,h=>by
    obtain ⟨xs,_,_,_,hl,a⟩:=nargs_list t (fun c hc=>h c (by simp [hc]))
    obtain ⟨x,_,_,_,b⟩:=h c (by simp)
    exact ⟨x :: xs,_,_,_,by simp [hl],NArgs.cons b a⟩
end
section
variable {H : Type} {enc : TypeId × Value → H} {W : World} {base : Nat} {spare : Nat → Bool} {held : Bool}
theorem cells_spot {gb : Nat} {o : Nat} {s : Option Nat} {k : Nat} {v : Value} (h : W.cell? ⟨gb,o + k,s⟩ = some v) : s = none ∧ gb < W.heap.size:=by
  unfold World.cell? at h
  split at h
  · rename_i hb
    refine ⟨?_,?_⟩
    · cases s with
      | none=>rfl
      | some s=>simp at h
    · rcases Nat.lt_or_ge gb W.heap.size with hg|hg
      · exact hg
      · rw [Array.getElem?_eq_none hg] at hb
        cases hb
  · cases h
/-- a slice that can be read: a row of values that can be read -/
theorem open_any {P : Program} {t te : TypeId} (ht : P.underlying t = some (.slice te)) {es : Nat} (he : 0 < es) (hC : P.cellsOf te = es) {v' : Value} {fuel : Nat} {x : DataW H × List MemPlace} (h : DataW.trod enc P W base spare held fuel t [v'] = some x) :
    v' = .slice none 0 0 ∨ (∃ a c,v' = .slice (some a) 0 c) ∨ ∃ gb o len cap n,v' = .slice (some ⟨gb,o,none⟩) len cap ∧ 0 < len ∧ len ≤ cap ∧ gb < W.heap.size ∧
      ∀ i,i < len → ∃ cs y,cs.length = es ∧ DataW.trod enc P W base spare held n te cs = some y ∧ ∀ j,j < es → W.cell? ⟨gb,o + i * es + j,none⟩ = cs[j]?:=by
  rcases DataW.trod_slice ht h with ⟨hv,_⟩|⟨a,len,cap,elems,rest,n,_,hv,_,hb,hlc,hcm,hel,hel2,_,_⟩
  · exact .inl (by simpa using hv)
  · obtain rfl : v' = .slice (some a) len cap:=by simpa using hv
    rcases Nat.eq_zero_or_pos len with h0|h0
    · subst h0
      exact .inr (.inl ⟨a,cap,rfl⟩)
    · obtain ⟨gb,o,s⟩:=a
      have first : s = none ∧ gb < W.heap.size:=by
        have h1:=hel2 0 h0
        rw [List.getElem?_eq_getElem (by omega),Option.bind_eq_some_iff] at h1
        obtain ⟨cs,hcs,htr⟩:=h1
        rw [hC] at hcs
        unfold World.cells? at hcs
        split at hcs
        · have hlen:=mapM_some_length hcs
          simp at hlen
          have h2:=mapM_some_get hcs 0 0 (by simp [he])
          have e : ((⟨gb,o,s⟩ : Addr).add (0 * es)).add 0 = ⟨gb,o + 0,s⟩:=by simp [Addr.add]
          rw [e] at h2
          exact cells_spot (h2.trans (List.getElem?_eq_getElem (by omega)))
        · cases hcs
      obtain ⟨rfl,hgb⟩:=first
      refine .inr (.inr ⟨gb,o,len,cap,n,rfl,h0,hlc,hgb,fun i hi=>?_⟩)
      have h1:=hel2 i hi
      rw [List.getElem?_eq_getElem (by omega),Option.bind_eq_some_iff] at h1
      obtain ⟨cs,hcs,htr⟩:=h1
      rw [hC] at hcs
      unfold World.cells? at hcs
      split at hcs
      · have hlen:=mapM_some_length hcs
        simp at hlen
        refine ⟨cs,_,hlen,htr,fun j hj=>?_⟩
        have:=mapM_some_get hcs j j (by simp [hj])
        have e : ((⟨gb,o,none⟩ : Addr).add (i * es)).add j = ⟨gb,o + i * es + j,none⟩:=by
          unfold Addr.add
          split<;>split<;>simp_all
        rw [← e]
        exact this
      · cases hcs
/-- a slice of what can be read az trees -/
theorem open_lists {α : Type} {F : α → TV} {P : Program} {t te : TypeId} (ht : P.underlying t = some (.slice te)) (hC : P.cellsOf te = 1)
    (elem : ∀ n c y,DataW.trod enc P W base spare held n te [c] = some y → ∃ (x : α) (bs : Nat → List Blk) (is : List Info) (av : Nat → Value),NArg W c (F x) bs is av)
    {v' : Value} {fuel : Nat} {x : DataW H × List MemPlace} (h : DataW.trod enc P W base spare held fuel t [v'] = some x) : ∃ (xs : List α) (bs : Nat → List Blk) (is : List Info) (av : Nat → Value),NArg W v' (.list 1 (xs.map fun x=>[F x])) bs is av:=by
  rcases open_any ht (by decide) hC h with rfl|⟨a,c,rfl⟩|⟨gb,o,len,cap,n,rfl,h0,hlc,hgb,key⟩
  · exact ⟨[],fun _=>[],[],fun _=>.slice none 0 0,fun _ _ _ _ _=>.nilSlice 0 0,fun _ _ _ _ _=>.nillist _ _,fun _ _ _ _ _ j b h=>by simp at h,fun _ j b i h=>by simp at h,fun _=>rfl⟩
  · exact ⟨[],fun _=>[],[],fun _=>vag,fun _ _ _ _ _=>.vague a c,fun _ _ _ _ _=>.vague _ _,fun _ _ _ _ _ j b h=>by simp at h,fun _ j b i h=>by simp at h,fun _=>rfl⟩
  · have key2 : ∀ i, i < len → ∃ c : Value, W.cell? ⟨gb, o + i, none⟩ = some c ∧ ∃ y, DataW.trod enc P W base spare held n te [c] = some y := fun i hi => by
      obtain ⟨cs,y,hl,htr,hcell⟩:=key i hi
      obtain ⟨c,rfl⟩:=len1 hl
      refine ⟨c,?_,y,htr⟩
      have:=hcell 0 (by decide)
      simpa using this
    obtain ⟨cs,hcl,hq⟩:=choose_list len key2
    obtain ⟨xs,bs,is,avs,hxl,az⟩:=nargs_list (W:=W) (F:=F) cs (fun c hc=>by
      obtain ⟨i,hi,rfl⟩:=List.mem_iff_getElem.1 hc
      obtain ⟨_,y,hy⟩:=hq i _ (List.getElem?_eq_getElem hi)
      exact elem n _ y hy)
    subst hcl
    have sD : ∀ (D : Nat → Prop) n,(∀ j,j < is.length + 1 → D (n + j)) → D n ∧ ∀ j,j < is.length → D (n + 1 + j):=by
      intro D n hD
      refine ⟨by simpa using hD 0 (by omega),fun j hj=>?_⟩
      have:=hD (j + 1) (by omega)
      rwa [show n + 1 + j = n + (j + 1) by omega]
    have sI : ∀ (m : NMap) n,(∀ (j : Nat) i,((⟨gb,o,cap * 1,1⟩ : Info) :: is)[j]? = some i → m (n + j) = i) → m n = ⟨gb,o,cap * 1,1⟩ ∧ ∀ (j : Nat) i,is[j]? = some i → m (n + 1 + j) = i:=by
      intro m n hm
      refine ⟨by simpa using hm 0 _ rfl,fun j i hi=>?_⟩
      have:=hm (j + 1) i (by simpa using hi)
      rwa [show n + 1 + j = n + (j + 1) by omega]
    refine ⟨xs,fun n=>.cells 1 (avs (n + 1)) :: bs (n + 1),⟨gb,o,cap * 1,1⟩ :: is,fun n=>.slice (some ⟨n,0,none⟩) xs.length xs.length,fun D m n hD hm=>?_,fun Fz h n hF hh=>?_,fun D m n hD hm j b hb=>?_,fun n j b i hb hi hd=>?_,fun n=>by simp [az.len]⟩
    · have e:=(sI m n hm).1
      have:=VR.slice (D:=D) (m:=m) n 0 xs.length xs.length cap (sD D n (by simpa using hD)).1 (Nat.le_refl _) (by omega) (.inr (by rw [e];simp))
      rw [e] at this
      rw [hxl] at this ⊢
      exact this
    · have hs := az.vl Fz h (n + 1) (sD Fz n (by simpa using hF)).2 (fun j b hb => by
        have:=hh (j + 1) b (by simpa using hb)
        rwa [show n + 1 + j = n + (j + 1) by omega])
      have hlen:=hs.len
      have hflat : (xs.map fun x=>[F x]).flatten = xs.map F:=by
        clear hlen hs az hxl
        induction xs with
        | nil=>rfl
        | cons a t ih=>simp [ih]
      have h0':=hh 0 (.cells 1 (avs (n + 1))) rfl
      have:=VL.list (Fz:=Fz) (h:=h) noL 1 (xs.map fun x=>[F x]) n 0 xs.length (avs (n + 1)) 1 (sD Fz n (by simpa using hF)).1 h0' (.inl rfl) (fun r hr=>by obtain ⟨x,_,rfl⟩:=List.mem_map.1 hr;rfl) (by simp) (by simp only [List.length_map] at hlen ⊢;omega) (fun j p x hp hx=>by
        rw [hflat] at hp
        rw [Nat.zero_add] at hx
        exact hs.at' j p x hp hx)
      rw [List.length_map] at this
      exact this
    · cases j with
      | zero =>
        obtain rfl:=Option.some.inj hb
        have e:=(sI m n hm).1
        have hv:=az.vr D m (n + 1) (sD D n (by simpa using hD)).2 (sI m n hm).2
        rw [Nat.add_zero]
        refine ⟨by rw [e],fun i v hi=>?_⟩
        obtain ⟨v',h1,h2⟩:=hv.at hi
        refine ⟨v',?_,h2⟩
        rw [e]
        exact (hq i v' h1).1
      | succ j =>
        have:=az.ok D m (n + 1) (sD D n (by simpa using hD)).2 (sI m n hm).2 j b (by simpa using hb)
        rwa [show n + 1 + j = n + (j + 1) by omega] at this
    · cases j with
      | zero =>
        obtain rfl:=Option.some.inj hi
        exact hgb
      | succ j=>exact az.lt _ j b i (by simpa using hb) (by simpa using hi) hd
/-- a slice of ints that can be read -/
theorem open_ints {P : Program} {t te : TypeId} (ht : P.underlying t = some (.slice te)) (hte : P.underlying te = some (.int .i64)) (hC : P.cellsOf te = 1) {f : Int → List TV} (hf : ∀ x, f x = [.v (.int .i64 x)])
    {v' : Value} {fuel : Nat} {x : DataW H × List MemPlace} (h : DataW.trod enc P W base spare held fuel t [v'] = some x) : ∃ (xs : List Int) (bs : Nat → List Blk) (is : List Info) (av : Nat → Value),NArg W v' (.list 1 (xs.map f)) bs is av:=by
  obtain rfl : f = fun x=>[.v (.int .i64 x)]:=funext hf
  exact open_lists (F:=fun x : Int=>.v (.int .i64 x)) ht hC (fun n c y hy=>by
    obtain ⟨z,hz,_⟩:=DataW.trod_int hte hy
    obtain rfl : c = .int .i64 z:=by simpa using hz
    exact ⟨z,_,_,_,(Arg.atom (atomV_int .i64 z)).n⟩) h
end

theorem NArgs.append {W : World} {vs1 : List Value} {ps1 : List TV} {bs bs2 : Nat → List Blk} {is is2 : List Info} {av avs : Nat → List Value} {vs' : List Value} {ps : List TV}
    (a : NArgs W vs1 ps1 bs is av) (az : NArgs W vs' ps bs2 is2 avs) : NArgs W (vs1 ++ vs') (ps1 ++ ps) (fun n=>bs n ++ bs2 (n + is.length)) (is ++ is2) (fun n=>av n ++ avs (n + is.length)):=by
  have cD : ∀ (D : Nat → Prop) n,(∀ j,j < (is ++ is2).length → D (n + j)) → (∀ j,j < is.length → D (n + j)) ∧ (∀ j,j < is2.length → D (n + is.length + j)):=by
    intro D n h
    refine ⟨fun j hj=>h j (by simp;omega),fun j hj=>?_⟩
    have:=h (is.length + j) (by simp;omega)
    rwa [← Nat.add_assoc] at this
  have cI : ∀ (m : NMap) n,(∀ (j : Nat) i,(is ++ is2)[j]? = some i → m (n + j) = i) → (∀ (j : Nat) i,is[j]? = some i → m (n + j) = i) ∧ (∀ (j : Nat) i,is2[j]? = some i → m (n + is.length + j) = i):=by
    intro m n h
    refine ⟨fun j i hj=>h j i (by rw [List.getElem?_append_left (List.getElem?_eq_some_iff.1 hj).1];exact hj),fun j i hj=>?_⟩
    have:=h (is.length + j) i (by rw [List.getElem?_append_right (by omega),Nat.add_sub_cancel_left];exact hj)
    rwa [← Nat.add_assoc] at this
  refine ⟨fun D m n hD hm=>?_,fun Fz h n hF hh=>?_,fun D m n hD hm j b hb=>?_,fun n j b i hb hi hd=>?_,fun n=>by simp [a.len,az.len]⟩
  · exact (a.vr D m n (cD D n hD).1 (cI m n hm).1).append (az.vr D m (n + is.length) (cD D n hD).2 (cI m n hm).2)
  · refine (a.vl Fz h n (cD Fz n hF).1 fun j b hb=>hh j b (by rw [List.getElem?_append_left (List.getElem?_eq_some_iff.1 hb).1];exact hb)).append (az.vl Fz h (n + is.length) (cD Fz n hF).2 fun j b hb=>?_)
    have:=hh (is.length + j) b (by rw [List.getElem?_append_right (by rw [a.len];omega),a.len,Nat.add_sub_cancel_left];exact hb)
    rwa [← Nat.add_assoc] at this
  · rcases Nat.lt_or_ge j is.length with hj|hj
    · rw [List.getElem?_append_left (by rw [a.len];exact hj)] at hb
      exact a.ok D m n (cD D n hD).1 (cI m n hm).1 j b hb
    · rw [List.getElem?_append_right (by rw [a.len];exact hj),a.len] at hb
      have:=az.ok D m (n + is.length) (cD D n hD).2 (cI m n hm).2 _ b hb
      rwa [show n + is.length + (j - is.length) = n + j by omega] at this
  · rcases Nat.lt_or_ge j is.length with hj|hj
    · rw [List.getElem?_append_left (by rw [a.len];exact hj)] at hb
      rw [List.getElem?_append_left hj] at hi
      exact a.lt n j b i hb hi hd
    · rw [List.getElem?_append_right (by rw [a.len];exact hj),a.len] at hb
      rw [List.getElem?_append_right hj] at hi
      exact az.lt _ _ b i hb hi hd
/-- rows of values that can be read -/
theorem nargs_rows {W : World} {α : Type} {F : α → List TV} : ∀ (rows : List (List Value)), (∀ r ∈ rows, ∃ (x : α) (bs : Nat → List Blk) (is : List Info) (av : Nat → List Value), NArgs W r (F x) bs is av) →
    ∃ (xs : List α) (bs : Nat → List Blk) (is : List Info) (av : Nat → List Value),xs.length = rows.length ∧ NArgs W rows.flatten (xs.map F).flatten bs is av
  | [],_=>⟨[],_,_,_,rfl,NArgs.nil W⟩
  | r :: t,h=>by
    obtain ⟨xs,_,_,_,hl,a⟩:=nargs_rows t (fun c hc=>h c (by simp [hc]))
    obtain ⟨x,_,_,_,b⟩:=h r (by simp)
    exact ⟨x :: xs,_,_,_,by simp [hl],NArgs.append b a⟩
theorem flatN_at {α : Type} {es : Nat} : ∀ (rows : List (List α)) (_ : ∀ r ∈ rows,r.length = es) (i j : Nat),j < es → rows.flatten[i * es + j]? = (rows[i]?).bind (·[j]?)
  | [],_,i,j,_=>by simp
  | r :: t,h,0,j,hj=>by
    have:=h r (by simp)
    rw [Nat.zero_mul,Nat.zero_add,List.flatten_cons,List.getElem?_append_left (by omega)]
    rfl
  | r :: t,h,i + 1,j,hj=>by
    have hr:=h r (by simp)
    rw [List.flatten_cons,List.getElem?_append_right (by rw [Nat.add_mul];omega),show (i + 1) * es + j - r.length = i * es + j by rw [Nat.add_mul];omega]
    exact flatN_at t (fun r hr=>h r (by simp [hr])) i j hj
section
variable {H : Type} {enc : TypeId × Value → H} {W : World} {base : Nat} {spare : Nat → Bool} {held : Bool}
/-- a slice of structures that can be read az trees -/
theorem open_rowsN {α : Type} {F : α → List TV} {es : Nat} (he : 0 < es) (hF : ∀ x, (F x).length = es) {P : Program} {t te : TypeId} (ht : P.underlying t = some (.slice te)) (hC : P.cellsOf te = es)
    (elem : ∀ n cs y,cs.length = es → DataW.trod enc P W base spare held n te cs = some y → ∃ (x : α) (bs : Nat → List Blk) (is : List Info) (av : Nat → List Value),NArgs W cs (F x) bs is av)
    {v' : Value} {fuel : Nat} {x : DataW H × List MemPlace} (h : DataW.trod enc P W base spare held fuel t [v'] = some x) : ∃ (xs : List α) (bs : Nat → List Blk) (is : List Info) (av : Nat → Value),NArg W v' (.list es (xs.map F)) bs is av:=by
  rcases open_any ht he hC h with rfl|⟨a,c,rfl⟩|⟨gb,o,len,cap,n,rfl,h0,hlc,hgb,key⟩
  · exact ⟨[],fun _=>[],[],fun _=>.slice none 0 0,fun _ _ _ _ _=>.nilSlice 0 0,fun _ _ _ _ _=>.nillist _ _,fun _ _ _ _ _ j b h=>by simp at h,fun _ j b i h=>by simp at h,fun _=>rfl⟩
  · exact ⟨[],fun _=>[],[],fun _=>vag,fun _ _ _ _ _=>.vague a c,fun _ _ _ _ _=>.vague _ _,fun _ _ _ _ _ j b h=>by simp at h,fun _ j b i h=>by simp at h,fun _=>rfl⟩
  · obtain ⟨rows,hrl,hq⟩:=choose_list len key
    have hw : ∀ r ∈ rows,r.length = es:=fun r hr=>by
      obtain ⟨i,hi,rfl⟩:=List.mem_iff_getElem.1 hr
      obtain ⟨y,h1,_⟩:=hq i _ (List.getElem?_eq_getElem hi)
      exact h1
    obtain ⟨xs,bs,is,avs,hxl,az⟩:=nargs_rows (W:=W) (F:=F) rows (fun c hc=>by
      obtain ⟨i,hi,rfl⟩:=List.mem_iff_getElem.1 hc
      obtain ⟨y,h1,h2,_⟩:=hq i _ (List.getElem?_eq_getElem hi)
      exact elem n _ y h1 h2)
    have hcell : ∀ i v,rows.flatten[i]? = some v → W.cell? ⟨gb,o + i,none⟩ = some v:=fun i v hv=>by
      have e : i = i / es * es + i % es:=by rw [Nat.mul_comm];exact (Nat.div_add_mod i es).symm
      rw [e,flatN_at rows hw _ _ (Nat.mod_lt _ he)] at hv
      obtain ⟨r,hr,hv⟩:=Option.bind_eq_some_iff.1 hv
      obtain ⟨y,h1,h2,h3⟩:=hq _ _ hr
      have:=h3 (i % es) (Nat.mod_lt _ he)
      rw [hv] at this
      rw [← this]
      congr 2
      omega
    subst hrl
    have sD : ∀ (D : Nat → Prop) n,(∀ j,j < is.length + 1 → D (n + j)) → D n ∧ ∀ j,j < is.length → D (n + 1 + j):=by
      intro D n hD
      refine ⟨by simpa using hD 0 (by omega),fun j hj=>?_⟩
      have:=hD (j + 1) (by omega)
      rwa [show n + 1 + j = n + (j + 1) by omega]
    have sI : ∀ (m : NMap) n,(∀ (j : Nat) i,((⟨gb,o,cap * es,es⟩ : Info) :: is)[j]? = some i → m (n + j) = i) → m n = ⟨gb,o,cap * es,es⟩ ∧ ∀ (j : Nat) i,is[j]? = some i → m (n + 1 + j) = i:=by
      intro m n hm
      refine ⟨by simpa using hm 0 _ rfl,fun j i hi=>?_⟩
      have:=hm (j + 1) i (by simpa using hi)
      rwa [show n + 1 + j = n + (j + 1) by omega]
    refine ⟨xs,fun n=>.cells es (avs (n + 1)) :: bs (n + 1),⟨gb,o,cap * es,es⟩ :: is,fun n=>.slice (some ⟨n,0,none⟩) xs.length xs.length,fun D m n hD hm=>?_,fun Fz h n hF' hh=>?_,fun D m n hD hm j b hb=>?_,fun n j b i hb hi hd=>?_,fun n=>by simp [az.len]⟩
    · have e:=(sI m n hm).1
      have:=VR.slice (D:=D) (m:=m) n 0 xs.length xs.length cap (sD D n (by simpa using hD)).1 (Nat.le_refl _) (by omega) (.inr (by rw [e];simp))
      rw [e] at this
      rw [hxl] at this ⊢
      exact this
    · have hs := az.vl Fz h (n + 1) (sD Fz n (by simpa using hF')).2 (fun j b hb => by
        have:=hh (j + 1) b (by simpa using hb)
        rwa [show n + 1 + j = n + (j + 1) by omega])
      have hlen:=hs.len
      have hfl : ((xs.map F).flatten).length = xs.length * es:=by
        clear hlen hs az hxl
        induction xs with
        | nil=>simp
        | cons a t ih=>simp only [List.map_cons,List.flatten_cons,List.length_append,hF,ih,List.length_cons,Nat.add_mul];omega
      have h0':=hh 0 (.cells es (avs (n + 1))) rfl
      have:=VL.list (Fz:=Fz) (h:=h) noL es (xs.map F) n 0 xs.length (avs (n + 1)) es (sD Fz n (by simpa using hF')).1 h0' (.inl rfl) (fun r hr=>by obtain ⟨x,_,rfl⟩:=List.mem_map.1 hr;exact hF x) (by simp) (by simp only [List.length_map] at hlen ⊢;omega) (fun j p x hp hx=>by
        rw [Nat.zero_add] at hx
        exact hs.at' j p x hp hx)
      rw [List.length_map] at this
      exact this
    · cases j with
      | zero =>
        obtain rfl:=Option.some.inj hb
        have e:=(sI m n hm).1
        have hv:=az.vr D m (n + 1) (sD D n (by simpa using hD)).2 (sI m n hm).2
        rw [Nat.add_zero]
        refine ⟨by rw [e],fun i v hi=>?_⟩
        obtain ⟨v',h1,h2⟩:=hv.at hi
        refine ⟨v',?_,h2⟩
        rw [e]
        exact hcell i v' h1
      | succ j =>
        have:=az.ok D m (n + 1) (sD D n (by simpa using hD)).2 (sI m n hm).2 j b (by simpa using hb)
        rwa [show n + 1 + j = n + (j + 1) by omega] at this
    · cases j with
      | zero =>
        obtain rfl:=Option.some.inj hi
        exact hgb
      | succ j=>exact az.lt _ j b i (by simpa using hb) (by simpa using hi) hd
end
end Go.Rex
