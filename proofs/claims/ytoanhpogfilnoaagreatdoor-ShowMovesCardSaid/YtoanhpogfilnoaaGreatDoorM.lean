/- What these functions return: facts on lists and numbers. -/
import Derived.Test.YtoanhpogfilnoaaGreatDoorRexG8
import Derived.Test.YtoanhpogfilnoaaGreatDoorRexG9
import Derived.Test.YtoanhpogfilnoaaGreatDoorS
import Derived.ProofKit
import Derived.OpenShut
import Derived.ShutString
import Derived.ChangeOld
import Derived.Below
import Derived.Lib.SmallJoins
import Derived.ChangeShapes
import Derived.ChangeArms
import Derived.WideShapes
import Derived.Lay
import Derived.MakeChecks
import Derived.SevenTiedAt
set_option linter.unusedSimpArgs false
set_option linter.unusedVariables false
set_option linter.defProp false
set_option linter.unusedSectionVars false
namespace Go.Rex
/-! ### plain facts for shallow functions -/
theorem w64 {x : Int} (h : -9223372036854775808 ≤ x ∧ x ≤ 9223372036854775807) : IntKind.i64.wrap x = x:=IntWalk.i64_in x (by omega)
/-- a loop that counts -/
theorem run_count {σ ε : Type} {step : σ → Option (σ ⊕ ε)} (f : Nat → σ) {n : Nat} {e : ε} (h : ∀ k,k < n → step (f k) = some (.inl (f (k + 1)))) (hn : step (f n) = some (.inr e)) : run step (f 0) = some e:=by
  suffices H : ∀ j k,n - k = j → k ≤ n → run step (f k) = some e from H n 0 (by omega) (Nat.zero_le _)
  intro j
  induction j with
  | zero => intro k hj hk; obtain rfl : k = n := by omega
            exact run_stop hn
  | succ j ih=>intro k hj hk;rw [run_next (h k (by omega))];exact ih (k + 1) (by omega) (by omega)
theorem getI_nat {α : Type} {xs : List α} {k : Nat} : getI xs (k : Int) = xs[k]?:=by
  unfold getI
  rw [if_pos (by omega),Int.toNat_natCast]
theorem appI_one {α : Type} {b : Nat} {xs : List α} {y : α} (h : xs.length < 2 ^ 40) (hb : b ≤ 128) : appI b xs [y] = some (xs ++ [y]):=by
  unfold appI
  rw [if_pos]
  refine ⟨by simp;omega,?_⟩
  have h1 : (xs.length + [y].length) * b ≤ 2 ^ 40 * 128:=Nat.mul_le_mul (by simp;omega) hb
  omega
end Go.Rex

namespace Go.Rex
/-! ### a loop that walks a list,gathers,and may end early -/
def walk {α β ε : Type} (f : β → α → β ⊕ ε) (fin : β → ε) : β → List α → ε
  | b,[]=>fin b
  | b,x :: t=>match f b x with
    | .inl b'=>walk f fin b' t
    | .inr e=>e
theorem run_walk {α β σ ε : Type} {step : σ → Option (σ ⊕ ε)} (st : Nat → β → σ) (f : β → α → β ⊕ ε) (fin : β → ε) (Inv : Nat → β → Prop) (l : List α)
    (hs : ∀ (k : Nat) (x : α) (b : β),l[k]? = some x → Inv k b → step (st k b) = some (match f b x with|.inl b'=>.inl (st (k + 1) b')|.inr e=>.inr e) ∧ ∀ b',f b x = .inl b' → Inv (k + 1) b')
    (he : ∀ b,Inv l.length b → step (st l.length b) = some (.inr (fin b))) {b0 : β} (h0 : Inv 0 b0) : run step (st 0 b0) = some (walk f fin b0 l):=by
  suffices H : ∀ (t : List α) (k : Nat) (b : β),l.drop k = t → k ≤ l.length → Inv k b → run step (st k b) = some (walk f fin b t) from H l 0 b0 rfl (Nat.zero_le _) h0
  intro t
  induction t with
  | nil =>
    intro k b hk hkl hI
    have : k = l.length:=by
      have:=congrArg List.length hk
      simp at this
      omega
    subst this
    exact run_stop (he b hI)
  | cons x t ih =>
    intro k b hk hkl hI
    have hx : l[k]? = some x:=by
      have:=congrArg (fun l=>l[0]?) hk
      simpa using this
    have hlt:=(List.getElem?_eq_some_iff.1 hx).1
    obtain ⟨h1,h2⟩:=hs k x b hx hI
    have ht : l.drop (k + 1) = t:=by
      have:=congrArg List.tail hk
      simpa using this
    cases hf : f b x with
    | inl b' =>
      rw [hf] at h1
      rw [run_next h1,ih (k + 1) b' ht (by omega) (h2 b' hf)]
      simp only [walk,hf]
    | inr e =>
      rw [hf] at h1
      rw [run_stop h1]
      simp only [walk,hf]
end Go.Rex

open Go Go.Rex
namespace Go.Rex
set_option maxRecDepth 100000
/-! ### loops,once more -/
theorem wsucc {k : Nat} {n : Nat} (h : k ≤ n) (hn : n ≤ 2 ^ 62) : IntKind.i64.wrap ((k : Int) + 1) = ((k + 1 : Nat) : Int):=by rw [w64 (by omega)];omega
/-- the first one that has an answer -/
def firstOf {ε : Type} (p : Nat → Option ε) (n : Nat) : Option ε:=(List.range n).findSome? p
theorem firstOf_none {ε : Type} {p : Nat → Option ε} {n : Nat} : firstOf p n = none ↔ ∀ k,k < n → p k = none:=by
  unfold firstOf
  rw [List.findSome?_eq_none_iff]
  constructor
  · intro h k hk;exact h k (List.mem_range.2 hk)
  · intro h k hk;exact h k (List.mem_range.1 hk)
theorem firstOf_succ {ε : Type} {p : Nat → Option ε} {n : Nat} : firstOf p (n + 1) = match firstOf p n with|some e=>some e|none=>p n:=by
  unfold firstOf
  rw [List.range_succ,List.findSome?_append]
  cases h : List.findSome? p (List.range n) with
  | some e=>rfl
  | none=>simp
theorem run_find {ε δ : Type} {step : Int → Option (Int ⊕ (ε ⊕ δ))} {n : Nat} {p : Nat → Option ε} {r : δ}
    (h : ∀ k : Nat,k < n → (∀ j,j < k → p j = none) → step (k : Int) = some (match p k with|none=>.inl ((k + 1 : Nat) : Int)|some e=>.inr (.inl e))) (he : (∀ j,j < n → p j = none) → step (n : Int) = some (.inr (.inr r))) : run step 0 = some (match firstOf p n with|some e=>.inl e|none=>.inr r):=by
  suffices H : ∀ m,m ≤ n → firstOf p m = none → run step 0 = run step (m : Int) by
    cases hf : firstOf p n with
    | none =>
      simp only
      rw [H n (Nat.le_refl _) hf]
      exact run_stop (he (firstOf_none.1 hf))
    | some e =>
      simp only
      have : ∃ m,m < n ∧ firstOf p m = none ∧ p m = some e:=by
        clear h he H
        induction n with
        | zero=>simp [firstOf] at hf
        | succ n ih =>
          rw [firstOf_succ] at hf
          cases hn : firstOf p n with
          | none=>rw [hn] at hf;exact ⟨n,by omega,hn,hf⟩
          | some e'=>rw [hn] at hf;cases hf;obtain ⟨m,h1,h2⟩:=ih hn;exact ⟨m,by omega,h2⟩
      obtain ⟨m,hm,h1,h2⟩:=this
      rw [H m (by omega) h1]
      have:=h m hm (firstOf_none.1 h1)
      rw [h2] at this
      exact run_stop this
  intro m
  induction m with
  | zero=>intro _ _;rfl
  | succ m ih =>
    intro hm hf
    have hf':=firstOf_none.1 hf
    rw [ih (by omega) (firstOf_none.2 fun k hk=>hf' k (by omega))]
    have:=h m (by omega) (fun j hj=>hf' j (by omega))
    rw [hf' m (by omega)] at this
    exact run_next this
def iter {β : Type} (g : Nat → β → β) : Nat → β → β
  | 0,b=>b
  | k + 1,b=>g k (iter g k b)
theorem getI_lt' {α : Type} {l : List α} {k : Nat} (h : k < l.length) : getI l (k : Int) = some l[k]:=by
  rw [getI_nat];exact List.getElem?_eq_getElem h
/-! ### small things -/
theorem copyI' {l : List Int} (h : l.length ≤ 1048576) : appI 8 ([] : List Int) l = some l:=by
  unfold appI
  rw [if_pos (by simp;omega)]
  simp
theorem mkI_nat {n : Nat} (h : n ≤ 1048576) : mkI 8 (n : Int) (0 : Int) = some (List.replicate n 0):=by
  unfold mkI
  rw [if_pos (by omega),Int.toNat_natCast]
/-! ### sums of lists -/
end Go.Rex

open Go Go.Rex
set_option maxRecDepth 100000
namespace Go.Rex
theorem tmod_emod {x y : Int} (hy : 0 < y) : x.tmod y = if x.tmod y < 0 then x % y - y else x % y:=by
  have h1:=Int.tmod_lt_of_pos x hy
  have h2 : -y < x.tmod y:=by
    have h3:=Int.natAbs_tmod x y
    have h4 : (x.tmod y).natAbs < y.natAbs:=by rw [h3];exact Nat.mod_lt _ (by omega)
    omega
  have hdm:=Int.tmod_add_mul_tdiv x y
  split
  · have : x % y = x.tmod y + y := by
      have e : x = (x.tmod y + y) + y * (x.tdiv y - 1):=by rw [Int.mul_sub,Int.mul_one];omega
      rw [e,Int.add_mul_emod_self_left,Int.emod_eq_of_lt (by omega) (by omega)]
      rw [← e]
    omega
  · have : x % y = x.tmod y := by
      conv=>lhs;rw [← hdm]
      rw [Int.add_mul_emod_self_left,Int.emod_eq_of_lt (by omega) (by omega)]
    omega
theorem tdiv_ediv {x y : Int} (hy : 0 < y) : x.tdiv y = if x.tmod y < 0 then x / y + 1 else x / y:=by
  have hdm:=Int.tmod_add_mul_tdiv x y
  have h1:=Int.emod_add_mul_ediv x y
  have h2:=tmod_emod (x:=x) hy
  refine Int.eq_of_mul_eq_mul_left (show y ≠ 0 by omega) ?_
  split
  · rename_i h
    rw [if_pos h] at h2
    rw [Int.mul_add,Int.mul_one]
    omega
  · rename_i h
    rw [if_neg h] at h2
    omega
theorem ediv_le {x y b : Int} (hy : 0 < y) (hb : 0 ≤ b) (h : -b ≤ x ∧ x ≤ b) : -b ≤ x / y ∧ x / y ≤ b:=by
  have h1:=Int.emod_add_mul_ediv x y
  have h2:=Int.emod_nonneg x (show y ≠ 0 by omega)
  have h3:=Int.emod_lt_of_pos x hy
  constructor
  · refine Int.le_ediv_of_mul_le hy ?_
    have : -b * y ≤ -b * 1:=Int.mul_le_mul_of_nonpos_left (by omega) (by omega)
    omega
  · refine Int.ediv_le_of_le_mul hy ?_
    have : b * 1 ≤ b * y:=Int.mul_le_mul_of_nonneg_left (by omega) hb
    omega
theorem bfloor_eq {x y : Int} (hy : 0 < y) (hx : -9223372036854775807 ≤ x ∧ x ≤ 9223372036854775807) : base_Floor x y = some (x / y):=by
  unfold base_Floor
  rw [if_neg (by omega)]
  have hb:=ediv_le (x:=x) (b:=9223372036854775807) hy (by omega) (by omega)
  have ht:=tdiv_ediv (x:=x) hy
  by_cases h : x.tmod y < 0
  · rw [if_pos h] at ht
    have hb2 : x < 0:=by
      rcases Int.lt_or_le x 0 with hx|hx
      · exact hx
      · have:=Int.tmod_nonneg y hx;omega
    have hb3 : x / y < 0:=Int.ediv_neg_of_neg_of_pos hb2 hy
    rw [if_pos (by simpa using h),ht,w64 (x:=x / y + 1) (by omega),w64 (by omega)]
    congr 1
    omega
  · rw [if_neg h] at ht
    rw [if_neg (by simpa using h),ht,w64 (by omega)]
def outL (lo hi : Int) (l : List Int) (k : Nat) : Option Unit:=if lo ≤ l.getD k 0 ∧ l.getD k 0 ≤ hi then none else some ()
def inL (lo hi : Int) (l : List Int) : Prop:=∀ k,k < l.length → lo ≤ l.getD k 0 ∧ l.getD k 0 ≤ hi
theorem outL_none {lo hi : Int} {l : List Int} : firstOf (outL lo hi l) l.length = none ↔ inL lo hi l:=by
  rw [firstOf_none]
  unfold outL inL
  constructor
  · intro h k hk
    have:=h k hk
    by_cases q : lo ≤ l.getD k 0 ∧ l.getD k 0 ≤ hi
    · exact q
    · rw [if_neg q] at this;cases this
  · intro h k hk
    rw [if_pos (h k hk)]
instance (lo hi : Int) (l : List Int) : Decidable (inL lo hi l):=decidable_of_iff _ outL_none
theorem getD_get {l : List Int} {k : Nat} (h : k < l.length) : getI l (k : Int) = some (l.getD k 0):=by
  rw [getI_nat,List.getD_eq_getElem?_getD,List.getElem?_eq_getElem h];rfl
theorem ints_self {l : List Int} (h : l.length ≤ 1000) : base_Ints l l = some true:=by
  unfold base_Ints
  rw [if_neg (by simp)]
  have hr:=run_count (step:=base_Ints_l1 l l) (e:=.inr ()) (fun k=>(k : Int)) (n:=l.length) (fun k hk=>by
    dsimp only [base_Ints_l1]
    rw [if_pos (by simpa using hk),getI_lt' hk,Option.bind_some,Option.bind_some]
    first|(rw [if_neg (by simp),w64 (by omega)];rfl)|(rw [if_pos (by simp),w64 (by omega)];rfl)) (by
    dsimp only [base_Ints_l1]
    rw [if_neg (by simp)])
  rw [show (0 : Int) = ((0 : Nat) : Int) from rfl,hr]
  rfl
end Go.Rex

open Go Go.Rex
set_option maxRecDepth 100000
namespace Go.Rex
theorem swithin (x lo hi : Int) : show_isWithin x lo hi = some (decide (lo ≤ x ∧ x ≤ hi)):=by
  unfold show_isWithin
  by_cases h : lo ≤ x
  · rw [if_pos (by simpa using h)];simp [h]
  · rw [if_neg (by simpa using h)];simp [h]
theorem bwithinS (x lo hi : Int) : base_Within x lo hi = some (decide (lo ≤ x ∧ x ≤ hi)):=by
  unfold base_Within
  by_cases h : lo ≤ x
  · rw [if_pos (by simpa using h)];simp [h]
  · rw [if_neg (by simpa using h)];simp [h]
theorem swith2 (x lo hi : Int) : show_within x lo hi = some (!decide (lo ≤ x ∧ x ≤ hi),2):=by
  unfold show_within show_refuse
  rw [swithin];rfl
theorem sref1 (b : Bool) (e : Int) : show_refuse_c1_11f9 b e = some (if b = true then e else 0):=by
  unfold show_refuse_c1_11f9
  cases b<;>rfl
def lvV (l : List Int) : Int:=if ¬ (1 ≤ l.length ∧ l.length ≤ 8) then 10 else if inL 0 1000 l then 0 else 2
theorem wrong_ex (l : List Int) (hl : l.length ≤ 1000) : ∃ k,show_firstWrong_22f8 (l.length : Int) l = some (k,if inL 0 1000 l then 0 else 2):=by
  unfold show_firstWrong_22f8
  have h:=run_find (step:=show_firstWrong_22f8_l1 (l.length : Int) l) (n:=l.length) (r:=()) (p:=fun k=>(outL 0 1000 l k).map fun _=>((k : Int),(2 : Int))) (fun k hk _=>by
    dsimp only [show_firstWrong_22f8_l1]
    rw [if_pos (by simpa using hk)]
    unfold show_leveled_c1_c1_9a9e
    rw [getD_get hk,Option.bind_some,swith2,Option.bind_some]
    dsimp only
    rw [sref1,Option.bind_some,Option.bind_some]
    unfold outL
    by_cases q : 0 ≤ l.getD k 0 ∧ l.getD k 0 ≤ 1000
    · rw [if_pos q,decide_eq_true q]
      simp only [Bool.not_true,Bool.false_eq_true,if_false,ne_eq,not_true_eq_false,decide_false]
      rw [w64 (by omega)];rfl
    · rw [if_neg q,decide_eq_false q];rfl) (fun _=>by
    dsimp only [show_firstWrong_22f8_l1]
    rw [if_neg (by simp)])
  rw [h]
  cases e : firstOf (fun k=>(outL 0 1000 l k).map fun _=>((k : Int),(2 : Int))) l.length with
  | none =>
    refine ⟨0,?_⟩
    have : inL 0 1000 l:=outL_none.1 (firstOf_none.2 fun k hk=>by
      have:=firstOf_none.1 e k hk
      cases hq : outL 0 1000 l k with
      | none=>rfl
      | some x=>rw [hq] at this;cases this)
    rw [if_pos this];rfl
  | some x =>
    have hn : ¬ inL 0 1000 l:=fun g=>by
      have:=outL_none.2 g
      have : firstOf (fun k=>(outL 0 1000 l k).map fun _=>((k : Int),(2 : Int))) l.length = none:=firstOf_none.2 fun k hk=>by
        rw [firstOf_none.1 this k hk];rfl
      rw [this] at e;cases e
    rw [if_neg hn]
    have hx2 : x.2 = 2:=by
      have : ∃ k,(outL 0 1000 l k).map (fun _=>((k : Int),(2 : Int))) = some x:=by
        unfold firstOf at e
        obtain ⟨k,_,hk⟩:=List.exists_of_findSome?_eq_some e
        exact ⟨k,hk⟩
      obtain ⟨k,hk⟩:=this
      cases ho : outL 0 1000 l k with
      | none=>rw [ho] at hk;cases hk
      | some u=>rw [ho] at hk;cases hk;rfl
    obtain ⟨x1,x2⟩:=x
    dsimp only at hx2
    subst hx2
    exact ⟨x1,rfl⟩
theorem lev_prog (l : List Int) (hl : l.length ≤ 1000) : show_leveled_c1_fd95 l = some (lvV l):=by
  unfold show_leveled_c1_fd95 show_refuse show_unnumbered show_firstError_e918 show_unnumbered_c1_662c lvV
  obtain ⟨k,hk⟩:=wrong_ex l hl
  rw [swithin,Option.bind_some,Option.bind_some]
  dsimp only
  rw [hk,Option.bind_some]
  dsimp only
  rw [Option.bind_some,sref1,Option.bind_some]
  by_cases q : 1 ≤ l.length ∧ l.length ≤ 8
  · have q' : (1 : Int) ≤ (l.length : Int) ∧ (l.length : Int) ≤ 8:=by omega
    rw [decide_eq_true q',if_neg (not_not_intro q)]
    simp only [Bool.not_true,Bool.false_eq_true,if_false,ne_eq,not_true_eq_false,decide_false,Option.bind_some]
    by_cases r : inL 0 1000 l
    · rw [if_pos r];rfl
    · rw [if_neg r];rfl
  · have q' : ¬ ((1 : Int) ≤ (l.length : Int) ∧ (l.length : Int) ≤ 8):=by omega
    rw [decide_eq_false q',if_pos q];rfl
theorem lev_ref (l : List Int) (hl : l.length ≤ 1000) : ref10_LevelsErr l = some (lvV l):=by
  unfold ref10_LevelsErr lvV
  rw [bwithinS,Option.bind_some]
  by_cases q : 1 ≤ l.length ∧ l.length ≤ 8
  rotate_left
  · have q' : ¬ ((1 : Int) ≤ (l.length : Int) ∧ (l.length : Int) ≤ 8):=by omega
    rw [decide_eq_false q',if_pos q];rfl
  have q' : (1 : Int) ≤ (l.length : Int) ∧ (l.length : Int) ≤ 8:=by omega
  rw [decide_eq_true q',if_pos rfl,if_neg (not_not_intro q)]
  have h:=run_find (step:=ref10_LevelsErr_l1 l) (n:=l.length) (r:=()) (p:=outL 0 1000 l) (fun k hk _=>by
    dsimp only [ref10_LevelsErr_l1]
    rw [if_pos (by simpa using hk),getD_get hk,Option.bind_some,bwithinS,Option.bind_some]
    unfold outL
    by_cases q : 0 ≤ l.getD k 0 ∧ l.getD k 0 ≤ 1000
    · rw [decide_eq_true q,if_pos rfl,if_pos q,w64 (by omega)];rfl
    · rw [decide_eq_false q,if_neg q];rfl) (fun _=>by
    dsimp only [ref10_LevelsErr_l1]
    rw [if_neg (by simp)])
  rw [h]
  by_cases r : inL 0 1000 l
  · rw [outL_none.2 r,if_pos r];rfl
  · rw [if_neg r]
    cases e : firstOf (outL 0 1000 l) l.length with
    | none=>exact absurd (outL_none.1 e) r
    | some _=>rfl
end Go.Rex

open Go Go.Rex
set_option maxRecDepth 100000
namespace Go.Rex
def outF (a b : List Int) (n k : Int) (i : Nat) : Int:=if k < n then a.getD i 0 + (2 * ((b.getD i 0 - a.getD i 0) * k) + n) / (2 * n) else b.getD i 0
def outL' (a b : List Int) (n k : Int) : List Int:=(List.range b.length).map (outF a b n k)
section
variable {a b : List Int} {n k : Int} (ha : 1 ≤ a.length ∧ a.length ≤ 8) (hab : a.length = b.length) (ia : inL 0 1000 a) (ib : inL 0 1000 b) (hn : 0 ≤ n ∧ n ≤ 1000) (hk : 0 ≤ k ∧ k ≤ n)
include ha hab ia ib hn hk
theorem bds {i : Nat} (hi : i < b.length) : (0 ≤ a.getD i 0 ∧ a.getD i 0 ≤ 1000) ∧ (0 ≤ b.getD i 0 ∧ b.getD i 0 ≤ 1000) ∧ (-1000000 ≤ (b.getD i 0 - a.getD i 0) * k ∧ (b.getD i 0 - a.getD i 0) * k ≤ 1000000):=by
  have h1:=ia i (by omega)
  have h2:=ib i hi
  refine ⟨h1,h2,?_⟩
  generalize b.getD i 0 = y at *
  generalize a.getD i 0 = x at *
  have e1:=Int.mul_le_mul (show y - x ≤ 1000 by omega) (show k ≤ 1000 by omega) hk.1 (by omega)
  have e2:=Int.mul_le_mul (show -(y - x) ≤ 1000 by omega) (show k ≤ 1000 by omega) hk.1 (by omega)
  rw [Int.neg_mul] at e2
  omega
theorem outF_bd {i : Nat} (hi : i < b.length) : (if b.getD i 0 < a.getD i 0 then b.getD i 0 else a.getD i 0) ≤ outF a b n k i ∧ outF a b n k i ≤ (if b.getD i 0 > a.getD i 0 then b.getD i 0 else a.getD i 0):=by
  obtain ⟨h1,h2,h3⟩:=bds ha hab ia ib hn hk hi
  unfold outF
  generalize b.getD i 0 = y at *
  generalize a.getD i 0 = x at *
  by_cases q : k < n
  rotate_left
  · rw [if_neg q]
    split<;>split<;>omega
  rw [if_pos q]
  have hp : 0 < 2 * n:=by omega
  by_cases s : x ≤ y
  · have m1:=Int.mul_nonneg (show (0 : Int) ≤ y - x by omega) hk.1
    have m2:=Int.mul_le_mul_of_nonneg_left (show k ≤ n by omega) (show (0 : Int) ≤ y - x by omega)
    have e : (y - x + 1) * (2 * n) = 2 * ((y - x) * n) + 2 * n:=by rw [Int.add_mul,Int.mul_left_comm];omega
    have d1 : 0 ≤ (2 * ((y - x) * k) + n) / (2 * n):=Int.ediv_nonneg (by omega) (by omega)
    have d2 : (2 * ((y - x) * k) + n) / (2 * n) < y - x + 1:=Int.ediv_lt_of_lt_mul hp (by omega)
    split<;>split<;>omega
  · have m1:=Int.mul_nonneg (show (0 : Int) ≤ x - y by omega) hk.1
    have m2:=Int.mul_le_mul_of_nonneg_left (show k ≤ n by omega) (show (0 : Int) ≤ x - y by omega)
    have n1 : (y - x) * k = - ((x - y) * k):=by rw [← Int.neg_mul];congr 1;omega
    have e : (y - x) * (2 * n) = - (2 * ((x - y) * n)):=by rw [Int.mul_left_comm,show y - x = -(x - y) by omega,Int.neg_mul];omega
    have d1 : y - x ≤ (2 * ((y - x) * k) + n) / (2 * n):=Int.le_ediv_of_mul_le hp (by omega)
    have d2 : (2 * ((y - x) * k) + n) / (2 * n) < 1:=Int.ediv_lt_of_lt_mul hp (by omega)
    split<;>split<;>omega
omit ha hab ia ib in
theorem near_ex {q : Int} (hkn : k < n) (hq : -1000000 ≤ q ∧ q ≤ 1000000) : show_nearest q n = some ((2 * q + n) / (2 * n)) ∧ -2000000 ≤ (2 * q + n) / (2 * n) ∧ (2 * q + n) / (2 * n) ≤ 2000000:=by
  have hp : 0 < 2 * n:=by omega
  have hb : -2000000 ≤ (2 * q + n) / (2 * n) ∧ (2 * q + n) / (2 * n) ≤ 2000000:=by
    have:=ediv_le (x:=2 * q + n) (y:=2 * n) (b:=2001000) hp (by omega) (by omega)
    constructor
    · exact Int.le_ediv_of_mul_le hp (by omega)
    · have h1 : (2 * q + n) / (2 * n) < 2000001:=Int.ediv_lt_of_lt_mul hp (by omega)
      omega
  refine ⟨?_,hb⟩
  unfold show_nearest show_floor
  rw [w64 (x:=2 * q) (by omega),w64 (x:=2 * q + n) (by omega),w64 (x:=2 * n) (by omega)]
  have hu : -2001000 ≤ 2 * q + n ∧ 2 * q + n ≤ 2001000:=by omega
  generalize 2 * q + n = u at *
  generalize hv : 2 * n = v at *
  rw [if_neg (by omega)]
  have t1:=tmod_emod (x:=u) hp
  have r1:=Int.emod_nonneg u (show v ≠ 0 by omega)
  have r2:=Int.emod_lt_of_pos u hp
  have t2 : (u.tmod v + v).tmod v = u % v:=by
    by_cases c : u.tmod v < 0
    · rw [if_pos c] at t1
      rw [t1,show u % v - v + v = u % v by omega,Int.tmod_eq_emod_of_nonneg r1,Int.emod_eq_of_lt r1 r2]
    · rw [if_neg c] at t1
      rw [t1,Int.tmod_eq_emod_of_nonneg (by omega),Int.add_emod_right,Int.emod_emod]
  have t3 : -2000 ≤ u.tmod v ∧ u.tmod v ≤ 2000:=by
    by_cases c : u.tmod v < 0
    · rw [if_pos c] at t1;omega
    · rw [if_neg c] at t1;omega
  have e:=Int.emod_add_mul_ediv u v
  have hd : (u - u % v) = v * (u / v):=by omega
  have ht : (v * (u / v)).tdiv v = u / v:=Int.mul_tdiv_cancel_left _ (by omega)
  rw [w64 (x:=u.tmod v + v) (by omega),t2,w64 (x:=u - u % v) (by omega),hd,ht,w64 (x:=u / v) (by omega)]
  rfl
theorem prog_out : show_levelsOf a b n k = some (outL' a b n k):=by
  unfold show_levelsOf
  have hc : slices_Clone_int_int b = some b:=by
    unfold slices_Clone_int_int nilq
    rw [copyI' (l:=b) (by omega),Option.bind_some]
    have : b ≠ []:=fun h=>by
      have h2 : b.length = 0:=by rw [h];rfl
      omega
    rw [if_neg this]
  rw [hc,Option.bind_some]
  by_cases q : k = n
  · rw [if_pos (by simpa using q)]
    congr 1
    unfold outL'
    apply List.ext_getElem?
    intro i
    by_cases hi : i < b.length
    · rw [List.getElem?_map,List.getElem?_range hi,List.getElem?_eq_getElem hi]
      simp only [Option.map_some]
      unfold outF
      rw [if_neg (by omega),List.getD_eq_getElem?_getD,List.getElem?_eq_getElem hi];rfl
    · rw [List.getElem?_eq_none (by omega),List.getElem?_eq_none (by simp;omega)]
  rw [if_neg (by simpa using q)]
  have hkn : k < n:=by omega
  have hr:=run_count (step:=show_levelsOf_l1 a b n k) (e:=outL' a b n k) (fun i=>((List.range b.length).map (fun j=>if j < i then outF a b n k j else b.getD j 0),(i : Int))) (n:=b.length) (fun i hi=>by
    obtain ⟨h1,h2,h3⟩:=bds ha hab ia ib hn hk hi
    obtain ⟨n1,n2⟩:=near_ex hn hk hkn h3
    dsimp only [show_levelsOf_l1]
    rw [decide_eq_true (show ((i : Int) < (a.length : Int)) by omega),if_pos rfl,getD_get (show i < a.length by omega),Option.bind_some,getD_get hi,Option.bind_some,w64 (x:=b.getD i 0 - a.getD i 0) (by omega),w64 (x:=(b.getD i 0 - a.getD i 0) * k) (by omega),n1,Option.bind_some,getD_get (l:=(List.range b.length).map _) (show i < _ by simp;omega),Option.bind_some,w64 (by omega),wsucc (k:=i) (n:=b.length) (by omega) (by omega),Int.toNat_natCast]
    have eo : outF a b n k i = a.getD i 0 + (2 * ((b.getD i 0 - a.getD i 0) * k) + n) / (2 * n):=by unfold outF;rw [if_pos hkn]
    rw [← eo]
    congr 3
    apply List.ext_getElem?
    intro q
    rw [List.getElem?_set]
    by_cases hq : i = q
    · subst hq
      rw [if_pos rfl]
      simp [hi]
    · rw [if_neg hq]
      simp only [List.getElem?_map]
      by_cases hqm : q < b.length
      · rw [List.getElem?_range hqm]
        simp only [Option.map_some]
        by_cases r : q < i
        · rw [if_pos r,if_pos (by omega)]
        · rw [if_neg r,if_neg (by omega)]
      · rw [List.getElem?_eq_none (by simp;omega)];rfl) (by
    dsimp only [show_levelsOf_l1]
    rw [decide_eq_false (by omega)]
    simp only [Bool.false_eq_true,if_false]
    congr 2
    apply List.map_congr_left
    intro j hj
    rw [if_pos (by simpa using hj)])
  have e0 : (b,(0 : Int)) = ((List.range b.length).map (fun j=>if j < 0 then outF a b n k j else b.getD j 0),((0 : Nat) : Int)):=by
    congr 1
    apply List.ext_getElem?
    intro i
    by_cases hi : i < b.length
    · rw [List.getElem?_map,List.getElem?_range hi,List.getElem?_eq_getElem hi]
      simp [List.getElem?_eq_getElem hi]
    · rw [List.getElem?_eq_none (by omega),List.getElem?_eq_none (by simp;omega)]
  rw [e0,hr];rfl
theorem ref_out : ref10_FadeAt a b n k = some (outL' a b n k):=by
  unfold ref10_FadeAt
  have hr:=run_count (step:=ref10_FadeAt_l1 a b n k) (e:=outL' a b n k) (fun i=>((List.range i).map (outF a b n k),(i : Int))) (n:=b.length) (fun i hi=>by
    obtain ⟨h1,h2,h3⟩:=bds ha hab ia ib hn hk hi
    dsimp only [ref10_FadeAt_l1]
    rw [decide_eq_true (show ((i : Int) < (a.length : Int)) by omega),if_pos rfl,getD_get hi,Option.bind_some]
    by_cases q : k < n
    · obtain ⟨n1,n2⟩:=near_ex hn hk q h3
      have eo : outF a b n k i = a.getD i 0 + (2 * ((b.getD i 0 - a.getD i 0) * k) + n) / (2 * n):=by unfold outF;rw [if_pos q]
      have e2 : 2 * (b.getD i 0 - a.getD i 0) * k = 2 * ((b.getD i 0 - a.getD i 0) * k):=Int.mul_assoc _ _ _
      rw [decide_eq_true q,if_pos rfl,getD_get (show i < a.length by omega),Option.bind_some,w64 (x:=b.getD i 0 - a.getD i 0) (by omega),w64 (x:=2 * (b.getD i 0 - a.getD i 0)) (by omega),e2,w64 (x:=2 * ((b.getD i 0 - a.getD i 0) * k)) (by omega),w64 (x:=2 * ((b.getD i 0 - a.getD i 0) * k) + n) (by omega),w64 (x:=2 * n) (by omega),bfloor_eq (by omega) (by omega),Option.bind_some,w64 (x:=a.getD i 0 + (2 * ((b.getD i 0 - a.getD i 0) * k) + n) / (2 * n)) (by omega),appI_one (by simp;omega) (by omega),Option.bind_some,wsucc (k:=i) (n:=b.length) (by omega) (by omega),List.range_succ,List.map_append,← eo]
      rfl
    · have eo : outF a b n k i = b.getD i 0:=by unfold outF;rw [if_neg q]
      rw [decide_eq_false q,if_neg (by simp),appI_one (by simp;omega) (by omega),Option.bind_some,wsucc (k:=i) (n:=b.length) (by omega) (by omega),List.range_succ,List.map_append,← eo]
      rfl) (by
    dsimp only [ref10_FadeAt_l1]
    rw [decide_eq_false (by omega)]
    rfl)
  rw [show (([] : List Int),(0 : Int)) = ((List.range 0).map (outF a b n k),((0 : Nat) : Int)) from rfl,hr];rfl
end
theorem outL_len (a b : List Int) (n k : Int) : (outL' a b n k).length = b.length:=by unfold outL';simp
theorem outL_at {a b : List Int} {n k : Int} {i : Nat} (hi : i < b.length) : (outL' a b n k).getD i 0 = outF a b n k i:=by
  unfold outL'
  rw [List.getD_eq_getElem?_getD,List.getElem?_map,List.getElem?_range hi];rfl
end Go.Rex

open Go Go.Rex
set_option maxRecDepth 100000
namespace Go.Rex
abbrev Move:=Int × List Int × Int
def mov (l : List Move) (k : Nat) : Move:=l.getD k (0,[],0)
theorem mvD {l : List Move} {k : Nat} (h : k < l.length) : getI l (k : Int) = some (mov l k):=by
  unfold mov
  rw [getI_nat,List.getD_eq_getElem?_getD,List.getElem?_eq_getElem h];rfl
theorem ae_ex (b1 b2 b3 b4 : Bool) (l : List Int) (hl : l.length ≤ 1000) : show_firstError_ae42 b1 2 b2 9 l b3 13 b4 2 = some (if b1 = true then 2 else if b2 = true then 9 else if lvV l ≠ 0 then lvV l else if b3 = true then 13 else if b4 = true then 2 else 0):=by
  unfold show_firstError_ae42
  rw [sref1,sref1,sref1,sref1,lev_prog l hl]
  cases b1
  · cases b2
    · simp only [Bool.false_eq_true,if_false,Option.bind_some,ne_eq,not_true_eq_false,decide_false]
      by_cases q : lvV l = 0
      · rw [if_neg (by simpa using q),if_neg (not_not_intro q)]
        cases b3
        · cases b4<;>rfl
        · rfl
      · rw [if_pos (by simpa using q),if_pos q]
    · rfl
  · rfl
/-- what is wrong with a move, by its number -/
def mvE (l : List Move) (k : Nat) : Int :=
  if ¬ (0 ≤ (mov l k).1 ∧ (mov l k).1 ≤ 100000000) then 2 else if 0 < k ∧ (mov l k).1 < (mov l (k - 1)).1 then 9 else if lvV (mov l k).2.1 ≠ 0 then lvV (mov l k).2.1 else
    if (mov l k).2.1.length ≠ (mov l 0).2.1.length then 13 else if ¬ (0 ≤ (mov l k).2.2 ∧ (mov l k).2.2 ≤ 1000) then 2 else 0
theorem c1_ex {l : List Move} (hl : ∀ k,k < l.length → (mov l k).2.1.length ≤ 1000) (hn : l.length ≤ 1000) {k : Nat} (hk : k < l.length) : show_CheckMoves_c1_ebf2 (k : Int) l = some (mvE l k):=by
  unfold show_CheckMoves_c1_ebf2 show_ticked show_refuse show_leveled show_stepped mvE
  have h0:=mvD (l:=l) (k:=0) (by omega)
  rw [show ((0 : Nat) : Int) = 0 from rfl] at h0
  rw [mvD hk,Option.bind_some]
  have hlk:=hl k hk
  by_cases q : 0 < k
  · have hp:=mvD (l:=l) (k:=k - 1) (by omega)
    have e1 : IntKind.i64.wrap ((k : Int) - 1) = ((k - 1 : Nat) : Int):=by rw [w64 (by omega)];omega
    rw [e1,hp,h0]
    generalize mov l k = x at *
    generalize mov l (k - 1) = y at *
    generalize mov l 0 = z at *
    obtain ⟨x1,x2,x3⟩:=x
    obtain ⟨y1,y2,y3⟩:=y
    obtain ⟨z1,z2,z3⟩:=z
    dsimp only [Option.bind_some]
    rw [swith2,swith2]
    dsimp only [Option.bind_some]
    rw [if_pos (by simpa using q),ae_ex _ _ _ _ _ hlk]
    dsimp only [Option.bind_some]
    congr 1
    by_cases g1 : 0 ≤ x1 ∧ x1 ≤ 100000000
    · rw [decide_eq_true g1,if_neg (by simp),if_neg (not_not_intro g1)]
      by_cases g2 : x1 < y1
      · rw [decide_eq_true g2,if_pos rfl,if_pos ⟨q,g2⟩]
      · rw [decide_eq_false g2,if_neg (by simp),if_neg (show ¬ (0 < k ∧ x1 < y1) from fun g=>g2 g.2)]
        by_cases g3 : lvV x2 = 0
        · rw [if_neg (not_not_intro g3),if_neg (not_not_intro g3)]
          by_cases g4 : x2.length = z2.length
          · rw [decide_eq_false (show ¬ ((x2.length : Int) ≠ (z2.length : Int)) by omega),if_neg (by simp),if_neg (not_not_intro g4)]
            by_cases g5 : 0 ≤ x3 ∧ x3 ≤ 1000
            · rw [decide_eq_true g5,if_neg (by simp),if_neg (not_not_intro g5)]
            · rw [decide_eq_false g5,if_pos (by simp),if_pos g5]
          · rw [decide_eq_true (show ((x2.length : Int) ≠ (z2.length : Int)) by omega),if_pos rfl,if_pos g4]
        · rw [if_pos g3,if_pos g3]
    · rw [decide_eq_false g1,if_pos (by simp),if_pos g1]
  · have hk0 : k = 0:=by omega
    subst hk0
    rw [show ((0 : Nat) : Int) = 0 from rfl,h0]
    generalize mov l 0 = x at *
    obtain ⟨x1,x2,x3⟩:=x
    dsimp only [Option.bind_some]
    rw [swith2,swith2]
    dsimp only [Option.bind_some]
    rw [if_neg (by simp),ae_ex _ _ _ _ _ hlk]
    dsimp only [Option.bind_some]
    congr 1
    by_cases g1 : 0 ≤ x1 ∧ x1 ≤ 100000000
    · rw [decide_eq_true g1,if_neg (by simp),if_neg (not_not_intro g1),if_neg (by simp),if_neg (show ¬ (0 < 0 ∧ x1 < x1) from fun g=>q g.1)]
      by_cases g3 : lvV x2 = 0
      · rw [if_neg (not_not_intro g3),if_neg (not_not_intro g3),decide_eq_false (show ¬ ((x2.length : Int) ≠ (x2.length : Int)) from fun g=>g rfl),if_neg (by simp),if_neg (show ¬ (x2.length ≠ x2.length) from fun g=>g rfl)]
        by_cases g5 : 0 ≤ x3 ∧ x3 ≤ 1000
        · rw [decide_eq_true g5,if_neg (by simp),if_neg (not_not_intro g5)]
        · rw [decide_eq_false g5,if_pos (by simp),if_pos g5]
      · rw [if_pos g3,if_pos g3]
    · rw [decide_eq_false g1,if_pos (by simp),if_pos g1]
def mvP (l : List Move) (k : Nat) : Option (Int × Int):=if mvE l k ≠ 0 then some ((k : Int),mvE l k) else none
def mvsV (l : List Move) : Int × Int:=if 40 < l.length then (0,8) else match firstOf (mvP l) l.length with|some e=>e|none=>(0,0)
theorem moves_prog {l : List Move} (hl : ∀ k,k < l.length → (mov l k).2.1.length ≤ 1000) (hn : l.length ≤ 1000) : show_CheckMoves l = some (mvsV l):=by
  unfold show_CheckMoves mvsV show_firstWrong_1946
  by_cases q : 40 < l.length
  · rw [decide_eq_true (show (l.length : Int) > 40 by omega),if_pos rfl,if_pos q]
  rw [decide_eq_false (show ¬ (l.length : Int) > 40 by omega),if_neg (by simp),if_neg q]
  have h:=run_find (step:=show_firstWrong_1946_l1 (l.length : Int) l) (n:=l.length) (r:=()) (p:=mvP l) (fun k hk _=>by
    dsimp only [show_firstWrong_1946_l1]
    rw [if_pos (by simpa using hk),c1_ex hl hn hk,Option.bind_some]
    unfold mvP
    by_cases r : mvE l k = 0
    · rw [if_neg (by simpa using r),if_neg (not_not_intro r),w64 (by omega)];rfl
    · rw [if_pos (by simpa using r),if_pos r]) (fun _=>by
    dsimp only [show_firstWrong_1946_l1]
    rw [if_neg (by simp)])
  rw [h]
  cases e : firstOf (mvP l) l.length with
  | none=>rfl
  | some x=>rfl
theorem moves_ref {l : List Move} (hl : ∀ k,k < l.length → (mov l k).2.1.length ≤ 1000) (hn : l.length ≤ 1000) : ref10_CheckMoves l = some (mvsV l):=by
  unfold ref10_CheckMoves mvsV
  by_cases q : 40 < l.length
  · rw [decide_eq_true (show (l.length : Int) > 40 by omega),if_pos rfl,if_pos q]
  rw [decide_eq_false (show ¬ (l.length : Int) > 40 by omega),if_neg (by simp),if_neg q]
  have h:=run_find (step:=ref10_CheckMoves_l1 l) (n:=l.length) (r:=()) (p:=mvP l) (fun k hk _=>by
    have h0:=mvD (l:=l) (k:=0) (by omega)
    rw [show ((0 : Nat) : Int) = 0 from rfl] at h0
    have hlk:=hl k hk
    have es : IntKind.i64.wrap ((k : Int) + 1) = ((k + 1 : Nat) : Int):=by rw [w64 (by omega)];rfl
    dsimp only [ref10_CheckMoves_l1]
    rw [if_pos (by simpa using hk),mvD hk,Option.bind_some,h0,es]
    unfold ref10_isSteps
    have mk : ∀ c : Int,c ≠ 0 → mvE l k = c → mvP l k = some ((k : Int),c):=fun c hc he=>by unfold mvP;rw [he,if_pos hc]
    have mk0 : mvE l k = 0 → mvP l k = none:=fun he=>by unfold mvP;rw [he,if_neg (by simp)]
    by_cases g1 : 0 ≤ (mov l k).1 ∧ (mov l k).1 ≤ 100000000
    rotate_left
    · rw [mk 2 (by decide) (by unfold mvE;rw [if_pos g1]),bwithinS,decide_eq_false g1];rfl
    rw [bwithinS,decide_eq_true g1,Option.bind_some,if_pos rfl]
    have tail9 : ¬ (0 < k ∧ (mov l k).1 < (mov l (k - 1)).1) → mvE l k = if lvV (mov l k).2.1 ≠ 0 then lvV (mov l k).2.1 else
        if (mov l k).2.1.length ≠ (mov l 0).2.1.length then 13 else if ¬ (0 ≤ (mov l k).2.2 ∧ (mov l k).2.2 ≤ 1000) then 2 else 0:=fun g=>by unfold mvE;rw [if_neg (not_not_intro g1),if_neg g]
    by_cases q : 0 < k
    · have hp:=mvD (l:=l) (k:=k - 1) (by omega)
      have e1 : IntKind.i64.wrap ((k : Int) - 1) = ((k - 1 : Nat) : Int):=by rw [w64 (by omega)];omega
      rw [if_pos (by simpa using q),e1,hp,Option.bind_some]
      by_cases g2 : (mov l k).1 < (mov l (k - 1)).1
      · rw [mk 9 (by decide) (by unfold mvE;rw [if_neg (not_not_intro g1),if_pos (show 0 < k ∧ (mov l k).1 < (mov l (k - 1)).1 from ⟨q,g2⟩)]),decide_eq_true g2];rfl
      have t9:=tail9 (fun g=>g2 g.2)
      rw [decide_eq_false g2,if_neg (by simp),lev_ref _ hlk,Option.bind_some]
      by_cases g3 : lvV (mov l k).2.1 = 0
      rotate_left
      · rw [mk _ g3 (by rw [t9,if_pos g3]),if_pos (by simpa using g3)]
      rw [if_neg (not_not_intro g3)] at t9
      rw [if_neg (by simpa using g3),Option.bind_some]
      by_cases g4 : (mov l k).2.1.length = (mov l 0).2.1.length
      rotate_left
      · rw [mk 13 (by decide) (by rw [t9,if_pos g4]),decide_eq_true (show (((mov l k).2.1.length : Int) ≠ ((mov l 0).2.1.length : Int)) by omega),if_pos rfl]
      rw [if_neg (not_not_intro g4)] at t9
      rw [decide_eq_false (show ¬ (((mov l k).2.1.length : Int) ≠ ((mov l 0).2.1.length : Int)) by omega),if_neg (by simp),bwithinS,Option.bind_some,Option.bind_some]
      by_cases g5 : 0 ≤ (mov l k).2.2 ∧ (mov l k).2.2 ≤ 1000
      · rw [mk0 (by rw [t9,if_neg (not_not_intro g5)]),decide_eq_true g5,if_pos rfl]
      · rw [mk 2 (by decide) (by rw [t9,if_pos g5]),decide_eq_false g5,if_neg (by simp)]
    · have t9:=tail9 (fun g=>q g.1)
      rw [if_neg (by simpa using q),lev_ref _ hlk,Option.bind_some]
      by_cases g3 : lvV (mov l k).2.1 = 0
      rotate_left
      · rw [mk _ g3 (by rw [t9,if_pos g3]),if_pos (by simpa using g3)]
      rw [if_neg (not_not_intro g3)] at t9
      rw [if_neg (by simpa using g3),Option.bind_some]
      by_cases g4 : (mov l k).2.1.length = (mov l 0).2.1.length
      rotate_left
      · rw [mk 13 (by decide) (by rw [t9,if_pos g4]),decide_eq_true (show (((mov l k).2.1.length : Int) ≠ ((mov l 0).2.1.length : Int)) by omega),if_pos rfl]
      rw [if_neg (not_not_intro g4)] at t9
      rw [decide_eq_false (show ¬ (((mov l k).2.1.length : Int) ≠ ((mov l 0).2.1.length : Int)) by omega),if_neg (by simp),bwithinS,Option.bind_some,Option.bind_some]
      by_cases g5 : 0 ≤ (mov l k).2.2 ∧ (mov l k).2.2 ≤ 1000
      · rw [mk0 (by rw [t9,if_neg (not_not_intro g5)]),decide_eq_true g5,if_pos rfl]
      · rw [mk 2 (by decide) (by rw [t9,if_pos g5]),decide_eq_false g5,if_neg (by simp)]) (fun _=>by
    dsimp only [ref10_CheckMoves_l1]
    rw [if_neg (by simp)])
  rw [h]
  cases e : firstOf (mvP l) l.length with
  | none=>rfl
  | some x=>rfl
end Go.Rex

open Go Go.Rex
set_option maxRecDepth 100000
namespace Go.Rex
structure MvOk (l : List Move) : Prop where
  n : l.length ≤ 40
  tick : ∀ k,k < l.length → 0 ≤ (mov l k).1 ∧ (mov l k).1 ≤ 100000000
  asc : ∀ k,k + 1 < l.length → (mov l k).1 ≤ (mov l (k + 1)).1
  lev : ∀ k,k < l.length → (1 ≤ (mov l k).2.1.length ∧ (mov l k).2.1.length ≤ 8) ∧ inL 0 1000 (mov l k).2.1
  len : ∀ k,k < l.length → (mov l k).2.1.length = (mov l 0).2.1.length
  stp : ∀ k,k < l.length → 0 ≤ (mov l k).2.2 ∧ (mov l k).2.2 ≤ 1000
theorem lvV_ok {l : List Int} (h : lvV l = 0) : (1 ≤ l.length ∧ l.length ≤ 8) ∧ inL 0 1000 l:=by
  unfold lvV at h
  by_cases q : 1 ≤ l.length ∧ l.length ≤ 8
  · rw [if_neg (not_not_intro q)] at h
    by_cases r : inL 0 1000 l
    · exact ⟨q,r⟩
    · rw [if_neg r] at h;omega
  · rw [if_pos q] at h;omega
theorem mvE_ok {l : List Move} {k : Nat} (e : mvE l k = 0) : (0 ≤ (mov l k).1 ∧ (mov l k).1 ≤ 100000000) ∧ ¬ (0 < k ∧ (mov l k).1 < (mov l (k - 1)).1) ∧ lvV (mov l k).2.1 = 0 ∧ (mov l k).2.1.length = (mov l 0).2.1.length ∧ (0 ≤ (mov l k).2.2 ∧ (mov l k).2.2 ≤ 1000):=by
  unfold mvE at e
  by_cases g1 : 0 ≤ (mov l k).1 ∧ (mov l k).1 ≤ 100000000
  rotate_left
  · rw [if_pos g1] at e;omega
  rw [if_neg (not_not_intro g1)] at e
  by_cases g2 : 0 < k ∧ (mov l k).1 < (mov l (k - 1)).1
  · rw [if_pos g2] at e;omega
  rw [if_neg g2] at e
  by_cases g3 : lvV (mov l k).2.1 = 0
  rotate_left
  · rw [if_pos g3] at e;exact absurd e g3
  rw [if_neg (not_not_intro g3)] at e
  by_cases g4 : (mov l k).2.1.length = (mov l 0).2.1.length
  rotate_left
  · rw [if_pos g4] at e;omega
  rw [if_neg (not_not_intro g4)] at e
  by_cases g5 : 0 ≤ (mov l k).2.2 ∧ (mov l k).2.2 ≤ 1000
  · exact ⟨g1,g2,g3,g4,g5⟩
  · rw [if_pos g5] at e;omega
theorem mvs_ok {l : List Move} (e : (mvsV l).2 = 0) : MvOk l ∧ mvsV l = (0,0):=by
  unfold mvsV at e ⊢
  by_cases q : 40 < l.length
  · rw [if_pos q] at e;exact absurd e (by decide)
  rw [if_neg q] at e ⊢
  cases h : firstOf (mvP l) l.length with
  | some x =>
    rw [h] at e
    unfold firstOf at h
    obtain ⟨k,_,hk⟩:=List.exists_of_findSome?_eq_some h
    unfold mvP at hk
    by_cases r : mvE l k = 0
    · rw [if_neg (not_not_intro r)] at hk;cases hk
    · rw [if_pos r] at hk;cases hk;exact absurd e r
  | none =>
    have hz : ∀ k,k < l.length → mvE l k = 0:=fun k hk=>by
      have:=firstOf_none.1 h k hk
      unfold mvP at this
      by_cases r : mvE l k = 0
      · exact r
      · rw [if_pos r] at this;cases this
    refine ⟨⟨by omega,fun k hk=>(mvE_ok (hz k hk)).1,fun k hk=>?_,fun k hk=>lvV_ok (mvE_ok (hz k hk)).2.2.1,fun k hk=>(mvE_ok (hz k hk)).2.2.2.1,fun k hk=>(mvE_ok (hz k hk)).2.2.2.2⟩,rfl⟩
    have:=(mvE_ok (hz (k + 1) hk)).2.1
    rw [Nat.add_sub_cancel] at this
    exact Int.not_lt.1 fun g=>this ⟨by omega,g⟩
def cntM (l : List Move) (v : Int) (k : Nat) : Int :=
  let d:=if k + 1 < l.length then (if (mov l (k + 1)).1 < v then (mov l (k + 1)).1 else v) - (mov l k).1 else v - (mov l k).1
  if (mov l k).2.2 < d then (mov l k).2.2 else d
def lvlF (l : List Move) (v : Int) (b : List Int) (k : Nat) : List Int ⊕ List Int:=if (mov l k).1 > v then .inr b else .inl (outL' b (mov l k).2.1 (mov l k).2.2 (cntM l v k))
section
variable {l : List Move} (M : MvOk l) {v : Int} (hv : 0 ≤ v ∧ v ≤ 200000000)
include M hv
theorem cnt_bd {k : Nat} (hk : k < l.length) (hq : ¬ (mov l k).1 > v) : 0 ≤ cntM l v k ∧ cntM l v k ≤ (mov l k).2.2:=by
  have h1:=M.stp k hk
  unfold cntM
  by_cases q : k + 1 < l.length
  · have:=M.asc k q
    simp only [if_pos q]
    split<;>split<;>omega
  · simp only [if_neg q]
    split<;>omega
theorem inv_next {k : Nat} (hk : k < l.length) (hq : ¬ (mov l k).1 > v) {b : List Int} (hb : b.length = (mov l 0).2.1.length) (ib : inL 0 1000 b) : (outL' b (mov l k).2.1 (mov l k).2.2 (cntM l v k)).length = (mov l 0).2.1.length ∧ inL 0 1000 (outL' b (mov l k).2.1 (mov l k).2.2 (cntM l v k)):=by
  have h1:=M.lev k hk
  have h2:=M.len k hk
  have h3:=cnt_bd M hv hk hq
  refine ⟨by rw [outL_len,h2],fun i hi=>?_⟩
  rw [outL_len] at hi
  rw [outL_at hi]
  have:=outF_bd (a:=b) (b:=(mov l k).2.1) (n:=(mov l k).2.2) (k:=cntM l v k) (by omega) (by omega) ib h1.2 (M.stp k hk) h3 hi
  have e1:=ib i (by omega)
  have e2:=h1.2 i hi
  split at this<;>split at this<;>omega
theorem lv_run {step : List Int × Int → Option (List Int × Int ⊕ List Int)} (hs : ∀ k b, k < l.length → b.length = (mov l 0).2.1.length → inL 0 1000 b → step (b, (k : Int)) = some (match lvlF l v b k with | .inl b' => .inl (b', ((k + 1 : Nat) : Int)) | .inr e => .inr e))
    (he : ∀ b,step (b,(l.length : Int)) = some (.inr b)) {b0 : List Int} (h0 : b0.length = (mov l 0).2.1.length) (i0 : inL 0 1000 b0) : run step (b0,0) = some (walk (lvlF l v) id b0 (List.range l.length)):=by
  have:=run_walk (step:=step) (fun (k : Nat) (b : List Int)=>(b,(k : Int))) (lvlF l v) id (fun _ b=>b.length = (mov l 0).2.1.length ∧ inL 0 1000 b) (List.range l.length) (fun k x b hx hI=>by
    obtain ⟨hk,e⟩:=List.getElem?_eq_some_iff.1 hx
    have hk' : k < l.length:=by simpa using hk
    have hx' : k = x:=by simpa using e
    subst hx'
    refine ⟨by rw [hs k b hk' hI.1 hI.2];cases lvlF l v b k<;>rfl,fun b' hb'=>?_⟩
    unfold lvlF at hb'
    by_cases q : (mov l k).1 > v
    · rw [if_pos q] at hb';cases hb'
    · rw [if_neg q] at hb';cases hb'
      exact inv_next M hv hk' q hI.1 hI.2) (fun b _=>by rw [List.length_range];exact he b) (b0:=b0) ⟨h0,i0⟩
  exact this
theorem walk_len : ∀ (ks : List Nat) (b : List Int),(∀ k ∈ ks,k < l.length) → b.length = (mov l 0).2.1.length → (walk (lvlF l v) id b ks).length = (mov l 0).2.1.length
  | [],b,_,h=>h
  | k :: ks,b,hks,h=>by
    simp only [walk,lvlF]
    by_cases q : (mov l k).1 > v
    · rw [if_pos q];exact h
    · rw [if_neg q]
      exact walk_len ks _ (fun k hk=>hks k (by simp [hk])) (by rw [outL_len,M.len k (hks k (by simp))])
theorem levels_both : ∃ r : List Int,r.length ≤ 1000 ∧ show_levelsAt l v = some r ∧ ref10_LevelsAt l v = some r:=by
  have hn:=M.n
  unfold show_levelsAt ref10_LevelsAt
  by_cases q : l.length = 0
  · exact ⟨[],by simp,by rw [if_pos (by simpa using q)],by rw [if_pos (by simpa using q)]⟩
  have h0:=mvD (l:=l) (k:=0) (by omega)
  rw [show ((0 : Nat) : Int) = 0 from rfl] at h0
  have hl0:=M.lev 0 (by omega)
  have b0 : (List.replicate (mov l 0).2.1.length (0 : Int)).length = (mov l 0).2.1.length:=by simp
  have i0 : inL 0 1000 (List.replicate (mov l 0).2.1.length (0 : Int)):=fun i hi=>by
    rw [b0] at hi
    rw [List.getD_eq_getElem?_getD,List.getElem?_replicate,if_pos hi]
    simp
  refine ⟨walk (lvlF l v) id (List.replicate (mov l 0).2.1.length 0) (List.range l.length),?_,?_,?_⟩
  · rw [walk_len M hv _ _ (fun k hk=>by simpa using hk) b0];omega
  · rw [if_neg (by simpa using q),h0,Option.bind_some]
    dsimp only
    rw [mkI_nat (n:=(mov l 0).2.1.length) (by omega),Option.bind_some,lv_run M hv (fun k b hk hb ib=>by
      have es:=wsucc (k:=k) (n:=l.length) (by omega) (by omega)
      dsimp only [show_levelsAt_l1]
      rw [if_pos (by simpa using hk),mvD hk,Option.bind_some,es]
      unfold lvlF
      by_cases g : (mov l k).1 > v
      · rw [if_pos g,if_pos (by simpa using g)]
      rw [if_neg g,if_neg (by simpa using g)]
      have hc:=cnt_bd M hv hk g
      have hp:=prog_out (a:=b) (b:=(mov l k).2.1) (n:=(mov l k).2.2) (k:=cntM l v k) (by have:=M.lev k hk;have:=M.len k hk;omega) (by have:=M.len k hk;omega) ib (M.lev k hk).2 (M.stp k hk) hc
      have ht:=M.tick k hk
      by_cases r : k + 1 < l.length
      · have ht2:=M.tick (k + 1) r
        rw [if_pos (by simpa using (show ((k + 1 : Nat) : Int) < (l.length : Int) by omega)),mvD r,Option.bind_some]
        dsimp only
        rw [w64 (by split<;>omega)]
        have ec : cntM l v k = if (mov l k).2.2 < (if (mov l (k + 1)).1 < v then (mov l (k + 1)).1 else v) - (mov l k).1 then (mov l k).2.2 else (if (mov l (k + 1)).1 < v then (mov l (k + 1)).1 else v) - (mov l k).1:=by unfold cntM;simp only [if_pos r]
        rw [← ec,hp];rfl
      · rw [if_neg (by simpa using (show ¬ ((k + 1 : Nat) : Int) < (l.length : Int) by omega)),w64 (by omega)]
        have ec : cntM l v k = if (mov l k).2.2 < v - (mov l k).1 then (mov l k).2.2 else v - (mov l k).1:=by unfold cntM;simp only [if_neg r]
        rw [← ec,hp];rfl) (fun b=>by
      dsimp only [show_levelsAt_l1]
      rw [if_neg (by simp)]) b0 i0]
    rfl
  · rw [if_neg (by simpa using q),h0,Option.bind_some]
    dsimp only
    rw [mkI_nat (n:=(mov l 0).2.1.length) (by omega),Option.bind_some,lv_run M hv (fun k b hk hb ib=>by
      have es:=wsucc (k:=k) (n:=l.length) (by omega) (by omega)
      dsimp only [ref10_LevelsAt_l1]
      rw [if_pos (by simpa using hk),mvD hk,Option.bind_some,es]
      unfold lvlF
      by_cases g : (mov l k).1 > v
      · rw [if_pos g,if_neg (by simp;omega)]
      rw [if_neg g,if_pos (by simp;omega)]
      have hc:=cnt_bd M hv hk g
      have hp:=ref_out (a:=b) (b:=(mov l k).2.1) (n:=(mov l k).2.2) (k:=cntM l v k) (by have:=M.lev k hk;have:=M.len k hk;omega) (by have:=M.len k hk;omega) ib (M.lev k hk).2 (M.stp k hk) hc
      have ht:=M.tick k hk
      by_cases r : k + 1 < l.length
      · have ht2:=M.tick (k + 1) r
        rw [if_pos (by simpa using (show ((k + 1 : Nat) : Int) < (l.length : Int) by omega)),mvD r,Option.bind_some]
        dsimp only
        rw [w64 (by split<;>omega)]
        have ec : cntM l v k = if (mov l k).2.2 < (if (mov l (k + 1)).1 < v then (mov l (k + 1)).1 else v) - (mov l k).1 then (mov l k).2.2 else (if (mov l (k + 1)).1 < v then (mov l (k + 1)).1 else v) - (mov l k).1:=by unfold cntM;simp only [if_pos r]
        rw [← ec,hp];rfl
      · rw [if_neg (by simpa using (show ¬ ((k + 1 : Nat) : Int) < (l.length : Int) by omega)),w64 (by omega)]
        have ec : cntM l v k = if (mov l k).2.2 < v - (mov l k).1 then (mov l k).2.2 else v - (mov l k).1:=by unfold cntM;simp only [if_neg r]
        rw [← ec,hp];rfl) (fun b=>by
      dsimp only [ref10_LevelsAt_l1]
      rw [if_neg (by simp)]) b0 i0]
    rfl
end
end Go.Rex

open Go Go.Rex
set_option maxRecDepth 100000
namespace Go.Rex
theorem a806_ex (e : Int) (b : Bool) (c : Int) (hc : c ≠ 0) : show_firstError_a806 e b c = some (if e ≠ 0 then e else if b = true then c else 0):=by
  unfold show_firstError_a806 show_unnumbered_c1_662c
  rw [Option.bind_some,sref1]
  by_cases q : e = 0
  · rw [if_neg (by simpa using q),if_neg (not_not_intro q)]
    cases b
    · rfl
    · simp only [if_true,Option.bind_some]
      rw [if_pos (by simpa using hc)]
  · rw [if_pos (by simpa using q),if_pos q]
theorem fm_loop {l : List Move} {step : Int → Option (Int ⊕ (Unit ⊕ Unit))} (hs : step = law10_fewMoves_l1 l ∨ step = law10_fewMoves_l2 l) (hn : l.length ≤ 42) :
    ∃ b : Bool,run step 0 = some (if b = true then .inr () else .inl ()) ∧ (b = true → ∀ k,k < l.length → (mov l k).2.1.length ≤ 10):=by
  have h:=run_find (step:=step) (n:=l.length) (r:=()) (p:=fun k=>if (mov l k).2.1.length ≤ 10 then none else some ()) (fun k hk _=>by
    rcases hs with rfl|rfl
    all_goals
      first|dsimp only [law10_fewMoves_l1]|dsimp only [law10_fewMoves_l2]
      unfold law10_fewLevels
      rw [if_pos (by simpa using hk),mvD hk,Option.bind_some,Option.bind_some]
      by_cases q : (mov l k).2.1.length ≤ 10
      · rw [decide_eq_true (show ((mov l k).2.1.length : Int) ≤ 10 by omega),if_pos rfl,if_pos q,w64 (by omega)];rfl
      · rw [decide_eq_false (show ¬ ((mov l k).2.1.length : Int) ≤ 10 by omega),if_neg (by simp),if_neg q]) (fun _=>by
    rcases hs with rfl|rfl
    · dsimp only [law10_fewMoves_l1];rw [if_neg (by simp)]
    · dsimp only [law10_fewMoves_l2];rw [if_neg (by simp)])
  cases e : firstOf (fun k=>if (mov l k).2.1.length ≤ 10 then none else some ()) l.length with
  | none =>
    refine ⟨true,by rw [h,e];rfl,fun _ k hk=>?_⟩
    have:=firstOf_none.1 e k hk
    by_cases q : (mov l k).2.1.length ≤ 10
    · exact q
    · rw [if_neg q] at this;cases this
  | some x=>exact ⟨false,by rw [h,e];rfl,by simp⟩
theorem few_ex (l : List Move) : ∃ b : Bool,law10_fewMoves l = some b ∧ (b = true → l.length ≤ 42 ∧ ∀ k,k < l.length → (mov l k).2.1.length ≤ 10):=by
  unfold law10_fewMoves
  by_cases q1 : (l.length : Int) > 8
  · by_cases q2 : (l.length : Int) ≤ 40
    · exact ⟨false,by rw [if_pos (by simpa using q1),if_pos (by simpa using q2)],by simp⟩
    by_cases q3 : (l.length : Int) > 42
    · exact ⟨false,by rw [if_pos (by simpa using q1),if_neg (by simpa using q2),if_pos (by simpa using q3)],by simp⟩
    obtain ⟨b,h1,h2⟩:=fm_loop (.inl rfl : law10_fewMoves_l1 l = law10_fewMoves_l1 l ∨ law10_fewMoves_l1 l = law10_fewMoves_l2 l) (by omega)
    refine ⟨b,?_,fun g=>⟨by omega,h2 g⟩⟩
    rw [if_pos (by simpa using q1),if_neg (by simpa using q2),if_neg (by simpa using q3),h1]
    cases b<;>rfl
  · by_cases q3 : (l.length : Int) > 42
    · omega
    obtain ⟨b,h1,h2⟩:=fm_loop (.inr rfl : law10_fewMoves_l2 l = law10_fewMoves_l1 l ∨ law10_fewMoves_l2 l = law10_fewMoves_l2 l) (by omega)
    refine ⟨b,?_,fun g=>⟨by omega,h2 g⟩⟩
    rw [if_neg (by simpa using q1),if_neg (by simpa using q3),h1]
    cases b<;>rfl
theorem copyM {l : List Move} (hn : l.length ≤ 42) (hl : ∀ k,k < l.length → (mov l k).2.1.length ≤ 10) : ref10_CopyMoves l = some l:=by
  unfold ref10_CopyMoves
  have hr:=run_count (step:=ref10_CopyMoves_l1 l) (e:=l) (fun k=>(l.take k,(k : Int))) (n:=l.length) (fun k hk=>by
    have hlk:=hl k hk
    dsimp only [ref10_CopyMoves_l1]
    unfold base_CopyInts
    rw [if_pos (by simpa using hk),mvD hk,Option.bind_some,copyI' (Nat.le_trans hlk (by decide)),Option.bind_some,Option.bind_some,appI_one (by rw [List.length_take];omega) (by omega),Option.bind_some,wsucc (k:=k) (n:=l.length) (by omega) (by omega)]
    have e : l.take (k + 1) = l.take k ++ [l[k]]:=by rw [List.take_add_one,List.getElem?_eq_getElem hk];rfl
    have e2 : mov l k = l[k]:=by unfold mov;rw [List.getD_eq_getElem?_getD,List.getElem?_eq_getElem hk];rfl
    rw [e,← e2]) (by
    dsimp only [ref10_CopyMoves_l1]
    rw [if_neg (by simp),List.take_length])
  have e0 : (([] : List Move),(0 : Int)) = (l.take 0,((0 : Nat) : Int)):=by simp
  rw [e0,hr];rfl
theorem moves_true (l : List Move) (v : Int) : law10_ShowMoves l v = some true:=by
  unfold law10_ShowMoves
  obtain ⟨b,h1,h2⟩:=few_ex l
  rw [h1,Option.bind_some]
  by_cases g : b = true
  rotate_left
  · rw [if_neg g]
  rw [if_pos g]
  obtain ⟨hn,hl⟩:=h2 g
  have hl' : ∀ k,k < l.length → (mov l k).2.1.length ≤ 1000:=fun k hk=>by have:=hl k hk;omega
  have c:=copyM hn hl
  have mp:=moves_prog hl' (by omega)
  have mr:=moves_ref hl' (by omega)
  have ex1 : show_LevelsAt l v = if (mvsV l).2 ≠ 0 then some ([],(mvsV l).2) else if ¬ (0 ≤ v ∧ v ≤ 200000000) then some ([],2) else (show_levelsAt l v).bind fun r=>some (r,0):=by
    unfold show_LevelsAt show_unnumbered
    rw [mp,swith2,Option.bind_some]
    dsimp only
    rw [Option.bind_some,Option.bind_some]
    dsimp only
    rw [a806_ex _ _ _ (by decide),Option.bind_some]
    by_cases q : (mvsV l).2 = 0
    · rw [if_neg (not_not_intro q),if_neg (not_not_intro q)]
      by_cases r : 0 ≤ v ∧ v ≤ 200000000
      · rw [decide_eq_true r,if_neg (not_not_intro r)];rfl
      · rw [decide_eq_false r,if_pos r];rfl
    · rw [if_pos q,if_pos q,if_pos (by simpa using q)]
  have ex2 : show_StillFrom l = if (mvsV l).2 ≠ 0 then some (0,(mvsV l).2) else if l.length = 0 then some (0,12) else (getI l (IntKind.i64.wrap ((l.length : Int) - 1))).bind fun x=>some (IntKind.i64.wrap (x.1 + x.2.2),0):=by
    unfold show_StillFrom show_unnumbered show_refuse
    rw [mp,Option.bind_some]
    dsimp only
    rw [Option.bind_some,Option.bind_some]
    dsimp only
    rw [a806_ex _ _ _ (by decide),Option.bind_some]
    by_cases q : (mvsV l).2 = 0
    · rw [if_neg (not_not_intro q),if_neg (not_not_intro q)]
      by_cases r : l.length = 0
      · rw [decide_eq_true (show (l.length : Int) = 0 by omega),if_pos r];rfl
      · rw [decide_eq_false (show ¬ (l.length : Int) = 0 by omega),if_neg r];rfl
    · rw [if_pos q,if_pos q,if_pos (by simpa using q)]
  rw [c,Option.bind_some,mp,Option.bind_some]
  dsimp only
  rw [Option.bind_some,ex1,mr]
  by_cases q : (mvsV l).2 = 0
  rotate_left
  · rw [if_pos q,Option.bind_some]
    dsimp only
    rw [Option.bind_some,ex2,if_pos q,Option.bind_some]
    dsimp only
    rw [Option.bind_some]
    rw [if_neg (by simp),if_neg (by simp),if_pos (by simpa using q),if_pos (by simp),if_pos (by simp),if_pos (by simp)]
    rfl
  obtain ⟨M,e0⟩:=mvs_ok q
  rw [if_neg (not_not_intro q),e0]
  have fin : ∀ (A : List Int × Int), (∃ r : List Int, r.length ≤ 1000 ∧ 0 ≤ v ∧ v ≤ 200000000 ∧ A = (r, 0) ∧ ref10_LevelsAt l v = some r) ∨ (¬ (0 ≤ v ∧ v ≤ 200000000) ∧ A = ([], 2)) →
      ((base_Within v 0 200000000).bind fun v16=>if v16 = true then (if decide (A.2 = 0) = true then ((ref10_LevelsAt l v).bind fun v17=>(base_Ints A.1 v17).bind fun v18=>some v18) else some false) else (if decide (A.2 = 2) = true then some (decide ((A.1.length : Int) = 0)) else some false)) = some true:=by
    rintro A (⟨r,r1,r2,r3,rfl,r5⟩|⟨r1,rfl⟩)
    · rw [bwithinS,decide_eq_true ⟨r2,r3⟩,Option.bind_some,if_pos rfl,if_pos (by simp),r5,Option.bind_some]
      dsimp only
      rw [ints_self r1];rfl
    · rw [bwithinS,decide_eq_false r1];rfl
  have hA : ∃ A : List Int × Int,(if ¬ (0 ≤ v ∧ v ≤ 200000000) then some ([],2) else (show_levelsAt l v).bind fun r=>some (r,0)) = some A ∧ ((∃ r : List Int,r.length ≤ 1000 ∧ 0 ≤ v ∧ v ≤ 200000000 ∧ A = (r,0) ∧ ref10_LevelsAt l v = some r) ∨ (¬ (0 ≤ v ∧ v ≤ 200000000) ∧ A = ([],2))):=by
    by_cases r : 0 ≤ v ∧ v ≤ 200000000
    · obtain ⟨w,w1,w2,w3⟩:=levels_both M r
      exact ⟨(w,0),by rw [if_neg (not_not_intro r),w2];rfl,.inl ⟨w,w1,r.1,r.2,rfl,w3⟩⟩
    · exact ⟨([],2),by rw [if_pos r],.inr ⟨r,rfl⟩⟩
  obtain ⟨A,hA1,hA2⟩:=hA
  have hf:=fin A hA2
  rw [hA1,Option.bind_some]
  obtain ⟨A1,A2⟩:=A
  dsimp only at hf ⊢
  rw [Option.bind_some,ex2,if_neg (not_not_intro q)]
  by_cases z : l.length = 0
  · rw [if_pos z,Option.bind_some]
    dsimp only
    rw [Option.bind_some]
    dsimp only
    rw [if_neg (by simp),if_neg (by simp),if_neg (by simp),if_pos (by simpa using z),if_neg (by simp),if_neg (by simp)]
    exact hf
  have hlast:=mvD (l:=l) (k:=l.length - 1) (by omega)
  have ew : IntKind.i64.wrap ((l.length : Int) - 1) = ((l.length - 1 : Nat) : Int):=by rw [w64 (by omega)];omega
  rw [if_neg z,ew,hlast,Option.bind_some,Option.bind_some]
  dsimp only
  rw [Option.bind_some]
  dsimp only
  rw [if_neg (by simp),if_neg (by simp),if_neg (by simp),if_neg (by simpa using z),Option.bind_some]
  rw [if_neg (by simp),if_neg (by simp)]
  exact hf
end Go.Rex

namespace Go.Rex
open Go Go.ChangeShapes Go.WideShapes Go.ChangeAt Go.RowKit Go.Joins Go.Proofs
/-! ### arguments: what they are as trees,and the names of their blocks -/
structure Arg (W : World) (v' : Value) (p : TV) (bs : List Blk) (is : List Info) (av : Nat → Value) : Prop where
  vr : ∀ (D : Nat → Prop) (m : NMap) n,(∀ j,j < bs.length → D (n + j)) → (∀ (j : Nat) i,is[j]? = some i → m (n + j) = i) → VR D m (av n) v'
  vl : ∀ (Fz : Nat → Prop) (h : List Blk) n,(∀ j,j < bs.length → Fz (n + j)) → (∀ (j : Nat) b,bs[j]? = some b → h[n + j]? = some b) → VL Fz h noL p (av n)
  ok : ∀ (D : Nat → Prop) (m : NMap) n,(∀ j,j < bs.length → D (n + j)) → (∀ (j : Nat) i,is[j]? = some i → m (n + j) = i) → ∀ (j : Nat) b,bs[j]? = some b → BlkOk D m W (n + j) b
  lt : ∀ (j : Nat) b i,bs[j]? = some b → is[j]? = some i → b ≠ .dead → i.block < W.heap.size
  len : is.length = bs.length
structure Args (W : World) (vs' : List Value) (ps : List TV) (bs : List Blk) (is : List Info) (av : Nat → List Value) : Prop where
  vr : ∀ (D : Nat → Prop) (m : NMap) n,(∀ j,j < bs.length → D (n + j)) → (∀ (j : Nat) i,is[j]? = some i → m (n + j) = i) → VRs D m (av n) vs'
  vl : ∀ (Fz : Nat → Prop) (h : List Blk) n,(∀ j,j < bs.length → Fz (n + j)) → (∀ (j : Nat) b,bs[j]? = some b → h[n + j]? = some b) → VLs Fz h noL ps (av n)
  ok : ∀ (D : Nat → Prop) (m : NMap) n,(∀ j,j < bs.length → D (n + j)) → (∀ (j : Nat) i,is[j]? = some i → m (n + j) = i) → ∀ (j : Nat) b,bs[j]? = some b → BlkOk D m W (n + j) b
  lt : ∀ (j : Nat) b i,bs[j]? = some b → is[j]? = some i → b ≠ .dead → i.block < W.heap.size
  len : is.length = bs.length
/-- the names of the arguments -/
def nm (is : List Info) : NMap:=fun n=>is.getD n ⟨0,0,0,0⟩
section
variable {W : World} {vs' : List Value} {ps : List TV} {bs : List Blk} {is : List Info} {av : Nat → List Value}
end
theorem len1 {α : Type} {l : List α} (h : l.length = 1) : ∃ x0,l = [x0]:=by
  match l,h with
  | [x0],_=>exact ⟨_,rfl⟩
theorem len3 {α : Type} {l : List α} (h : l.length = 3) : ∃ x0 x1 x2,l = [x0,x1,x2]:=by
  match l,h with
  | [x0,x1,x2],_=>exact ⟨_,_,_,rfl⟩
/-! ### arguments without names -/
def AtomV (c : Value) : Prop:=isAtom c = true ∧ ∀ D m,VR D m c c
theorem atomV_int (k : IntKind) (n : Int) : AtomV (.int k n):=⟨rfl,fun _ _=>.int _ _⟩
theorem Arg.atom {W : World} {v : Value} (h : AtomV v) : Arg W v (.v v) [] [] (fun _=>v) :=
  ⟨fun _ _ _ _ _=>h.2 _ _,fun _ _ _ _ _=>.v _ _ h.1,fun _ _ _ _ _ j b h=>by simp at h,fun j b i h=>by simp at h,rfl⟩
/-! ### a slice of rows -/
theorem choose_list {α : Type} {Q : Nat → α → Prop} : ∀ n,(∀ i,i < n → ∃ x,Q i x) → ∃ xs : List α,xs.length = n ∧ ∀ (i : Nat) x,xs[i]? = some x → Q i x
  | 0,_=>⟨[],rfl,fun i x h=>by simp at h⟩
  | n + 1,h=>by
    obtain ⟨xs,hl,hq⟩:=choose_list n (fun i hi=>h i (by omega))
    obtain ⟨x,hx⟩:=h n (by omega)
    refine ⟨xs ++ [x],by simp [hl],fun i y hy=>?_⟩
    rcases Nat.lt_or_ge i n with hi|hi
    · rw [List.getElem?_append_left (by omega)] at hy
      exact hq i y hy
    · rw [List.getElem?_append_right (by omega),hl] at hy
      have : i = n:=by
        rcases Nat.lt_or_ge 0 (i - n) with g|g
        · rw [List.getElem?_eq_none (by simp;omega)] at hy;cases hy
        · omega
      subst this
      simp at hy
      subst hy
      exact hx
section
variable {H : Type} {enc : TypeId × Value → H} {W : World} {base : Nat} {spare : Nat → Bool} {held : Bool}
/-! ### aggregates of ints -/
variable {P : Program}
theorem okW_int {t : TypeId} (ht : P.underlying t = some (.int .i64)) {r : Reach} {b : Nat} {v : Value} (w : Cell.okWide P W r b t v) : ∃ n : Int,v = .int .i64 n:=by
  unfold Cell.okWide at w
  simp only [ht] at w
  unfold Cell.ok at w
  simp only [ht] at w
  cases v<;>first|exact ⟨_,by rw [w.1]⟩|exact absurd w (by simp)
theorem open_int {t : TypeId} (ht : P.underlying t = some (.int .i64)) {r : Reach} {b : Nat} {v : Value} (w : Value.okWide P W r b t v) : ∃ n : Int,v = .int .i64 n:=by
  unfold Value.okWide at w
  simp only [ht] at w
  exact okW_int ht w
theorem st_field {t : TypeId} {fs : Array Field} {i : Nat} {f : Field} (ht : P.underlying t = some (.struct fs)) (hf : fs[i]? = some f) {fuel : Nat} {cs : List Value} {x : DataW H × List MemPlace} (h : DataW.trod enc P W base spare held fuel t cs = some x) :
    ∃ n y,DataW.trod enc P W base spare held n f.type ((cs.drop f.offset).take (P.cellsOf f.type)) = some y:=by
  obtain ⟨xs,n,_,_,hl,hx,hi⟩:=DataW.trod_struct ht h
  have:=hi i f hf
  have hil : i < fs.size:=(Array.getElem?_eq_some_iff.1 hf).1
  rw [List.getElem?_eq_getElem (by omega)] at this
  exact ⟨n,_,this⟩
end
end Go.Rex

namespace Go.Rex
open Go Go.ChangeShapes Go.WideShapes Go.ChangeAt Go.RowKit Go.Joins Go.Proofs
/-! ### arguments whose blocks name one another: lists of lists -/
structure NArg (W : World) (v' : Value) (p : TV) (bs : Nat → List Blk) (is : List Info) (av : Nat → Value) : Prop where
  vr : ∀ (D : Nat → Prop) (m : NMap) n,(∀ j,j < is.length → D (n + j)) → (∀ (j : Nat) i,is[j]? = some i → m (n + j) = i) → VR D m (av n) v'
  vl : ∀ (Fz : Nat → Prop) (h : List Blk) n,(∀ j,j < is.length → Fz (n + j)) → (∀ (j : Nat) b,(bs n)[j]? = some b → h[n + j]? = some b) → VL Fz h noL p (av n)
  ok : ∀ (D : Nat → Prop) (m : NMap) n,(∀ j,j < is.length → D (n + j)) → (∀ (j : Nat) i,is[j]? = some i → m (n + j) = i) → ∀ (j : Nat) b,(bs n)[j]? = some b → BlkOk D m W (n + j) b
  lt : ∀ n (j : Nat) b i,(bs n)[j]? = some b → is[j]? = some i → b ≠ .dead → i.block < W.heap.size
  len : ∀ n,(bs n).length = is.length
structure NArgs (W : World) (vs' : List Value) (ps : List TV) (bs : Nat → List Blk) (is : List Info) (av : Nat → List Value) : Prop where
  vr : ∀ (D : Nat → Prop) (m : NMap) n,(∀ j,j < is.length → D (n + j)) → (∀ (j : Nat) i,is[j]? = some i → m (n + j) = i) → VRs D m (av n) vs'
  vl : ∀ (Fz : Nat → Prop) (h : List Blk) n,(∀ j,j < is.length → Fz (n + j)) → (∀ (j : Nat) b,(bs n)[j]? = some b → h[n + j]? = some b) → VLs Fz h noL ps (av n)
  ok : ∀ (D : Nat → Prop) (m : NMap) n,(∀ j,j < is.length → D (n + j)) → (∀ (j : Nat) i,is[j]? = some i → m (n + j) = i) → ∀ (j : Nat) b,(bs n)[j]? = some b → BlkOk D m W (n + j) b
  lt : ∀ n (j : Nat) b i,(bs n)[j]? = some b → is[j]? = some i → b ≠ .dead → i.block < W.heap.size
  len : ∀ n,(bs n).length = is.length
theorem Arg.n {W : World} {v' : Value} {p : TV} {bs : List Blk} {is : List Info} {av : Nat → Value} (a : Arg W v' p bs is av) : NArg W v' p (fun _=>bs) is av :=
  ⟨fun D m n hD hm=>a.vr D m n (by rw [← a.len];exact hD) hm,fun Fz h n hF hh=>a.vl Fz h n (by rw [← a.len];exact hF) hh,fun D m n hD hm=>a.ok D m n (by rw [← a.len];exact hD) hm,fun _=>a.lt,fun _=>a.len.symm⟩
theorem NArgs.nil (W : World) : NArgs W [] [] (fun _=>[]) [] (fun _=>[]) :=
  ⟨fun _ _ _ _ _=>⟨rfl,fun i a a' h=>by simp at h⟩,fun _ _ _ _ _=>.nil,fun _ _ _ _ _ j b h=>by simp at h,fun _ j b i h=>by simp at h,fun _=>rfl⟩
theorem NArgs.cons {W : World} {v' : Value} {p : TV} {bs bs2 : Nat → List Blk} {is is2 : List Info} {av : Nat → Value} {vs' : List Value} {ps : List TV} {avs : Nat → List Value}
    (a : NArg W v' p bs is av) (az : NArgs W vs' ps bs2 is2 avs) : NArgs W (v' :: vs') (p :: ps) (fun n=>bs n ++ bs2 (n + is.length)) (is ++ is2) (fun n=>av n :: avs (n + is.length)):=by
  have cD : ∀ (D : Nat → Prop) n,(∀ j,j < (is ++ is2).length → D (n + j)) → (∀ j,j < is.length → D (n + j)) ∧ (∀ j,j < is2.length → D (n + is.length + j)):=by
    intro D n h
    refine ⟨fun j hj=>h j (by simp;omega),fun j hj=>?_⟩
    have:=h (is.length + j) (by simp;omega)
    rwa [← Nat.add_assoc] at this
  have cI : ∀ (m : NMap) n,(∀ (j : Nat) i,(is ++ is2)[j]? = some i → m (n + j) = i) → (∀ (j : Nat) i,is[j]? = some i → m (n + j) = i) ∧ (∀ (j : Nat) i,is2[j]? = some i → m (n + is.length + j) = i):=by
    intro m n h
    refine ⟨fun j i hj=>h j i (by rw [List.getElem?_append_left (List.getElem?_eq_some_iff.1 hj).1];exact hj),fun j i hj=>?_⟩
    have:=h (is.length + j) i (by rw [List.getElem?_append_right (by omega),Nat.add_sub_cancel_left];exact hj)
    rwa [← Nat.add_assoc] at this
  refine ⟨fun D m n hD hm=>?_,fun Fz h n hF hh=>?_,fun D m n hD hm j b hb=>?_,fun n j b i hb hi hd=>?_,fun n=>by simp [a.len,az.len]⟩
  · have h1:=a.vr D m n (cD D n hD).1 (cI m n hm).1
    have h2:=az.vr D m (n + is.length) (cD D n hD).2 (cI m n hm).2
    refine ⟨by simp [h2.len],fun i x x' hx hx'=>?_⟩
    cases i with
    | zero=>simp at hx hx';subst hx hx';exact h1
    | succ i=>simp at hx hx';exact h2.at' i x x' hx hx'
  · refine .cons (a.vl Fz h n (cD Fz n hF).1 fun j b hb=>hh j b (by rw [List.getElem?_append_left (List.getElem?_eq_some_iff.1 hb).1];exact hb)) (az.vl Fz h (n + is.length) (cD Fz n hF).2 fun j b hb=>?_)
    have:=hh (is.length + j) b (by rw [List.getElem?_append_right (by rw [a.len];omega),a.len,Nat.add_sub_cancel_left];exact hb)
    rwa [← Nat.add_assoc] at this
  · rcases Nat.lt_or_ge j is.length with hj|hj
    · rw [List.getElem?_append_left (by rw [a.len];exact hj)] at hb
      exact a.ok D m n (cD D n hD).1 (cI m n hm).1 j b hb
    · rw [List.getElem?_append_right (by rw [a.len];exact hj),a.len] at hb
      have:=az.ok D m (n + is.length) (cD D n hD).2 (cI m n hm).2 _ b hb
      rwa [show n + is.length + (j - is.length) = n + j by omega] at this
  · rcases Nat.lt_or_ge j is.length with hj|hj
    · rw [List.getElem?_append_left (by rw [a.len];exact hj)] at hb
      rw [List.getElem?_append_left hj] at hi
      exact a.lt n j b i hb hi hd
    · rw [List.getElem?_append_right (by rw [a.len];exact hj),a.len] at hb
      rw [List.getElem?_append_right hj] at hi
      exact az.lt _ _ b i hb hi hd
section
variable {W : World} {vs' : List Value} {ps : List TV} {bs : Nat → List Blk} {is : List Info} {av : Nat → List Value}
/-- the names of the variables of packages come first -/
def gnm (is : List Info) : NMap:=fun k=>if k < NG then gm k else is.getD (k - NG) ⟨0,0,0,0⟩
theorem gnm_at {is : List Info} {j : Nat} {i : Info} (h : is[j]? = some i) : gnm is (NG + j) = i:=by
  unfold gnm
  rw [if_neg (by omega),Nat.add_sub_cancel_left,List.getD_eq_getElem?_getD,h]
  rfl
theorem gh_len : GH.length = NG:=rfl
theorem NArgs.rel (a : NArgs W vs' ps bs is av) (hw : GW W) (hs : NG ≤ W.heap.size) : Rel W.heap.size (GH ++ bs NG).length (fun k=>k < (GH ++ bs NG).length) (gnm is) (GH ++ bs NG) W:=by
  have hl:=a.len NG
  have hn : (GH ++ bs NG).length = NG + is.length:=by rw [List.length_append,gh_len,hl]
  have old : ∀ k,k < NG → gnm is k = gm k:=fun k hk=>if_pos hk
  have parts : ∀ n b,n < (GH ++ bs NG).length → (GH ++ bs NG)[n]? = some b → (n < NG ∧ GH[n]? = some b) ∨ ∃ j,n = NG + j ∧ (bs NG)[j]? = some b:=by
    intro n b hn' hb
    rcases Nat.lt_or_ge n NG with h|h
    · rw [List.getElem?_append_left h] at hb;exact .inl ⟨h,hb⟩
    · rw [List.getElem?_append_right h,gh_len] at hb;exact .inr ⟨n - NG,by omega,hb⟩
  have st:=Rel.start W hw hs
  have lt : ∀ n b,n < (GH ++ bs NG).length → (GH ++ bs NG)[n]? = some b → b ≠ .dead → (gnm is n).block < W.heap.size:=by
    intro n b hn' hb hd
    rcases parts n b hn' hb with ⟨h1,h2⟩|⟨j,rfl,h2⟩
    · rw [old n h1];exact st.lt n b h1 h2 hd
    · have hj : j < is.length:=by omega
      rw [gnm_at (List.getElem?_eq_getElem hj)]
      exact a.lt NG j b _ h2 (List.getElem?_eq_getElem hj) hd
  refine ⟨Nat.le_refl _,fun _ h=>h,fun n b hn' hb=>?_,lt,fun n b hD hl=>absurd hD (by omega),fun n b hn' _ hb hd=>lt n b hn' hb hd,fun n b hD hl=>absurd hD (by omega),fun n n' b b' hD _ hl=>absurd hD (by omega),⟨fun g hg=>⟨?_,?_⟩,hs,hw⟩⟩
  · rcases parts n b hn' hb with ⟨h1,h2⟩|⟨j,rfl,h2⟩
    · exact (st.ok n b h1 h2).mono (fun k hk=>by have hk' : k < NG:=hk;show k < (GH ++ bs NG).length;omega) (fun k hk=>old k hk) (old n h1)
    · exact a.ok (fun k=>k < (GH ++ bs NG).length) (gnm is) NG (fun j hj=>by omega) (fun j i hi=>gnm_at hi) j b h2
  · show g < (GH ++ bs NG).length;omega
  · rw [old g hg];exact gm_at g
theorem NArgs.vls (a : NArgs W vs' ps bs is av) : VLs (fun k=>k < (GH ++ bs NG).length) (GH ++ bs NG) noL ps (av NG):=by
  have hn : (GH ++ bs NG).length = NG + is.length:=by rw [List.length_append,gh_len,a.len NG]
  exact a.vl _ _ NG (fun j hj=>by omega) (fun j b hb=>by rw [List.getElem?_append_right (by rw [gh_len];omega),gh_len,Nat.add_sub_cancel_left];exact hb)
theorem NArgs.vrs (a : NArgs W vs' ps bs is av) : VRs (fun k=>k < (GH ++ bs NG).length) (gnm is) (av NG) vs':=by
  have hn : (GH ++ bs NG).length = NG + is.length:=by rw [List.length_append,gh_len,a.len NG]
  exact a.vr _ _ NG (fun j hj=>by omega) (fun j i hi=>gnm_at hi)
/-- many arguments of a kind -/
theorem nargs_list {α : Type} {F : α → TV} : ∀ (vs' : List Value), (∀ c ∈ vs', ∃ (x : α) (bs : Nat → List Blk) (is : List Info) (av : Nat → Value), NArg W c (F x) bs is av) →
    ∃ (xs : List α) (bs : Nat → List Blk) (is : List Info) (av : Nat → List Value),xs.length = vs'.length ∧ NArgs W vs' (xs.map F) bs is av
  | [],_=>⟨[],_,_,_,rfl,NArgs.nil W⟩
  | c :: t,h=>by
    obtain ⟨xs,_,_,_,hl,a⟩:=nargs_list t (fun c hc=>h c (by simp [hc]))
    obtain ⟨x,_,_,_,b⟩:=h c (by simp)
    exact ⟨x :: xs,_,_,_,by simp [hl],NArgs.cons b a⟩
end
section
variable {H : Type} {enc : TypeId × Value → H} {W : World} {base : Nat} {spare : Nat → Bool} {held : Bool}
theorem cells_spot {gb : Nat} {o : Nat} {s : Option Nat} {k : Nat} {v : Value} (h : W.cell? ⟨gb,o + k,s⟩ = some v) : s = none ∧ gb < W.heap.size:=by
  unfold World.cell? at h
  split at h
  · rename_i hb
    refine ⟨?_,?_⟩
    · cases s with
      | none=>rfl
      | some s=>simp at h
    · rcases Nat.lt_or_ge gb W.heap.size with hg|hg
      · exact hg
      · rw [Array.getElem?_eq_none hg] at hb
        cases hb
  · cases h
/-- a slice that can be read: a row of values that can be read -/
theorem open_any {P : Program} {t te : TypeId} (ht : P.underlying t = some (.slice te)) {es : Nat} (he : 0 < es) (hC : P.cellsOf te = es) {v' : Value} {fuel : Nat} {x : DataW H × List MemPlace} (h : DataW.trod enc P W base spare held fuel t [v'] = some x) :
    v' = .slice none 0 0 ∨ (∃ a c,v' = .slice (some a) 0 c) ∨ ∃ gb o len cap n,v' = .slice (some ⟨gb,o,none⟩) len cap ∧ 0 < len ∧ len ≤ cap ∧ gb < W.heap.size ∧
      ∀ i,i < len → ∃ cs y,cs.length = es ∧ DataW.trod enc P W base spare held n te cs = some y ∧ ∀ j,j < es → W.cell? ⟨gb,o + i * es + j,none⟩ = cs[j]?:=by
  rcases DataW.trod_slice ht h with ⟨hv,_⟩|⟨a,len,cap,elems,rest,n,_,hv,_,hb,hlc,hcm,hel,hel2,_,_⟩
  · exact .inl (by simpa using hv)
  · obtain rfl : v' = .slice (some a) len cap:=by simpa using hv
    rcases Nat.eq_zero_or_pos len with h0|h0
    · subst h0
      exact .inr (.inl ⟨a,cap,rfl⟩)
    · obtain ⟨gb,o,s⟩:=a
      have first : s = none ∧ gb < W.heap.size:=by
        have h1:=hel2 0 h0
        rw [List.getElem?_eq_getElem (by omega),Option.bind_eq_some_iff] at h1
        obtain ⟨cs,hcs,htr⟩:=h1
        rw [hC] at hcs
        unfold World.cells? at hcs
        split at hcs
        · have hlen:=mapM_some_length hcs
          simp at hlen
          have h2:=mapM_some_get hcs 0 0 (by simp [he])
          have e : ((⟨gb,o,s⟩ : Addr).add (0 * es)).add 0 = ⟨gb,o + 0,s⟩:=by simp [Addr.add]
          rw [e] at h2
          exact cells_spot (h2.trans (List.getElem?_eq_getElem (by omega)))
        · cases hcs
      obtain ⟨rfl,hgb⟩:=first
      refine .inr (.inr ⟨gb,o,len,cap,n,rfl,h0,hlc,hgb,fun i hi=>?_⟩)
      have h1:=hel2 i hi
      rw [List.getElem?_eq_getElem (by omega),Option.bind_eq_some_iff] at h1
      obtain ⟨cs,hcs,htr⟩:=h1
      rw [hC] at hcs
      unfold World.cells? at hcs
      split at hcs
      · have hlen:=mapM_some_length hcs
        simp at hlen
        refine ⟨cs,_,hlen,htr,fun j hj=>?_⟩
        have:=mapM_some_get hcs j j (by simp [hj])
        have e : ((⟨gb,o,none⟩ : Addr).add (i * es)).add j = ⟨gb,o + i * es + j,none⟩:=by
          unfold Addr.add
          split<;>split<;>simp_all
        rw [← e]
        exact this
      · cases hcs
/-- a slice of what can be read az trees -/
theorem open_lists {α : Type} {F : α → TV} {P : Program} {t te : TypeId} (ht : P.underlying t = some (.slice te)) (hC : P.cellsOf te = 1)
    (elem : ∀ n c y,DataW.trod enc P W base spare held n te [c] = some y → ∃ (x : α) (bs : Nat → List Blk) (is : List Info) (av : Nat → Value),NArg W c (F x) bs is av)
    {v' : Value} {fuel : Nat} {x : DataW H × List MemPlace} (h : DataW.trod enc P W base spare held fuel t [v'] = some x) : ∃ (xs : List α) (bs : Nat → List Blk) (is : List Info) (av : Nat → Value),NArg W v' (.list 1 (xs.map fun x=>[F x])) bs is av:=by
  rcases open_any ht (by decide) hC h with rfl|⟨a,c,rfl⟩|⟨gb,o,len,cap,n,rfl,h0,hlc,hgb,key⟩
  · exact ⟨[],fun _=>[],[],fun _=>.slice none 0 0,fun _ _ _ _ _=>.nilSlice 0 0,fun _ _ _ _ _=>.nillist _ _,fun _ _ _ _ _ j b h=>by simp at h,fun _ j b i h=>by simp at h,fun _=>rfl⟩
  · exact ⟨[],fun _=>[],[],fun _=>vag,fun _ _ _ _ _=>.vague a c,fun _ _ _ _ _=>.vague _ _,fun _ _ _ _ _ j b h=>by simp at h,fun _ j b i h=>by simp at h,fun _=>rfl⟩
  · have key2 : ∀ i, i < len → ∃ c : Value, W.cell? ⟨gb, o + i, none⟩ = some c ∧ ∃ y, DataW.trod enc P W base spare held n te [c] = some y := fun i hi => by
      obtain ⟨cs,y,hl,htr,hcell⟩:=key i hi
      obtain ⟨c,rfl⟩:=len1 hl
      refine ⟨c,?_,y,htr⟩
      have:=hcell 0 (by decide)
      simpa using this
    obtain ⟨cs,hcl,hq⟩:=choose_list len key2
    obtain ⟨xs,bs,is,avs,hxl,az⟩:=nargs_list (W:=W) (F:=F) cs (fun c hc=>by
      obtain ⟨i,hi,rfl⟩:=List.mem_iff_getElem.1 hc
      obtain ⟨_,y,hy⟩:=hq i _ (List.getElem?_eq_getElem hi)
      exact elem n _ y hy)
    subst hcl
    have sD : ∀ (D : Nat → Prop) n,(∀ j,j < is.length + 1 → D (n + j)) → D n ∧ ∀ j,j < is.length → D (n + 1 + j):=by
      intro D n hD
      refine ⟨by simpa using hD 0 (by omega),fun j hj=>?_⟩
      have:=hD (j + 1) (by omega)
      rwa [show n + 1 + j = n + (j + 1) by omega]
    have sI : ∀ (m : NMap) n,(∀ (j : Nat) i,((⟨gb,o,cap * 1,1⟩ : Info) :: is)[j]? = some i → m (n + j) = i) → m n = ⟨gb,o,cap * 1,1⟩ ∧ ∀ (j : Nat) i,is[j]? = some i → m (n + 1 + j) = i:=by
      intro m n hm
      refine ⟨by simpa using hm 0 _ rfl,fun j i hi=>?_⟩
      have:=hm (j + 1) i (by simpa using hi)
      rwa [show n + 1 + j = n + (j + 1) by omega]
    refine ⟨xs,fun n=>.cells 1 (avs (n + 1)) :: bs (n + 1),⟨gb,o,cap * 1,1⟩ :: is,fun n=>.slice (some ⟨n,0,none⟩) xs.length xs.length,fun D m n hD hm=>?_,fun Fz h n hF hh=>?_,fun D m n hD hm j b hb=>?_,fun n j b i hb hi hd=>?_,fun n=>by simp [az.len]⟩
    · have e:=(sI m n hm).1
      have:=VR.slice (D:=D) (m:=m) n 0 xs.length xs.length cap (sD D n (by simpa using hD)).1 (Nat.le_refl _) (by omega) (.inr (by rw [e];simp))
      rw [e] at this
      rw [hxl] at this ⊢
      exact this
    · have hs := az.vl Fz h (n + 1) (sD Fz n (by simpa using hF)).2 (fun j b hb => by
        have:=hh (j + 1) b (by simpa using hb)
        rwa [show n + 1 + j = n + (j + 1) by omega])
      have hlen:=hs.len
      have hflat : (xs.map fun x=>[F x]).flatten = xs.map F:=by
        clear hlen hs az hxl
        induction xs with
        | nil=>rfl
        | cons a t ih=>simp [ih]
      have h0':=hh 0 (.cells 1 (avs (n + 1))) rfl
      have:=VL.list (Fz:=Fz) (h:=h) noL 1 (xs.map fun x=>[F x]) n 0 xs.length (avs (n + 1)) 1 (sD Fz n (by simpa using hF)).1 h0' (.inl rfl) (fun r hr=>by obtain ⟨x,_,rfl⟩:=List.mem_map.1 hr;rfl) (by simp) (by simp only [List.length_map] at hlen ⊢;omega) (fun j p x hp hx=>by
        rw [hflat] at hp
        rw [Nat.zero_add] at hx
        exact hs.at' j p x hp hx)
      rw [List.length_map] at this
      exact this
    · cases j with
      | zero =>
        obtain rfl:=Option.some.inj hb
        have e:=(sI m n hm).1
        have hv:=az.vr D m (n + 1) (sD D n (by simpa using hD)).2 (sI m n hm).2
        rw [Nat.add_zero]
        refine ⟨by rw [e],fun i v hi=>?_⟩
        obtain ⟨v',h1,h2⟩:=hv.at hi
        refine ⟨v',?_,h2⟩
        rw [e]
        exact (hq i v' h1).1
      | succ j =>
        have:=az.ok D m (n + 1) (sD D n (by simpa using hD)).2 (sI m n hm).2 j b (by simpa using hb)
        rwa [show n + 1 + j = n + (j + 1) by omega] at this
    · cases j with
      | zero =>
        obtain rfl:=Option.some.inj hi
        exact hgb
      | succ j=>exact az.lt _ j b i (by simpa using hb) (by simpa using hi) hd
/-- a slice of ints that can be read -/
theorem open_ints {P : Program} {t te : TypeId} (ht : P.underlying t = some (.slice te)) (hte : P.underlying te = some (.int .i64)) (hC : P.cellsOf te = 1) {f : Int → List TV} (hf : ∀ x, f x = [.v (.int .i64 x)])
    {v' : Value} {fuel : Nat} {x : DataW H × List MemPlace} (h : DataW.trod enc P W base spare held fuel t [v'] = some x) : ∃ (xs : List Int) (bs : Nat → List Blk) (is : List Info) (av : Nat → Value),NArg W v' (.list 1 (xs.map f)) bs is av:=by
  obtain rfl : f = fun x=>[.v (.int .i64 x)]:=funext hf
  exact open_lists (F:=fun x : Int=>.v (.int .i64 x)) ht hC (fun n c y hy=>by
    obtain ⟨z,hz,_⟩:=DataW.trod_int hte hy
    obtain rfl : c = .int .i64 z:=by simpa using hz
    exact ⟨z,_,_,_,(Arg.atom (atomV_int .i64 z)).n⟩) h
end

theorem NArgs.append {W : World} {vs1 : List Value} {ps1 : List TV} {bs bs2 : Nat → List Blk} {is is2 : List Info} {av avs : Nat → List Value} {vs' : List Value} {ps : List TV}
    (a : NArgs W vs1 ps1 bs is av) (az : NArgs W vs' ps bs2 is2 avs) : NArgs W (vs1 ++ vs') (ps1 ++ ps) (fun n=>bs n ++ bs2 (n + is.length)) (is ++ is2) (fun n=>av n ++ avs (n + is.length)):=by
  have cD : ∀ (D : Nat → Prop) n,(∀ j,j < (is ++ is2).length → D (n + j)) → (∀ j,j < is.length → D (n + j)) ∧ (∀ j,j < is2.length → D (n + is.length + j)):=by
    intro D n h
    refine ⟨fun j hj=>h j (by simp;omega),fun j hj=>?_⟩
    have:=h (is.length + j) (by simp;omega)
    rwa [← Nat.add_assoc] at this
  have cI : ∀ (m : NMap) n,(∀ (j : Nat) i,(is ++ is2)[j]? = some i → m (n + j) = i) → (∀ (j : Nat) i,is[j]? = some i → m (n + j) = i) ∧ (∀ (j : Nat) i,is2[j]? = some i → m (n + is.length + j) = i):=by
    intro m n h
    refine ⟨fun j i hj=>h j i (by rw [List.getElem?_append_left (List.getElem?_eq_some_iff.1 hj).1];exact hj),fun j i hj=>?_⟩
    have:=h (is.length + j) i (by rw [List.getElem?_append_right (by omega),Nat.add_sub_cancel_left];exact hj)
    rwa [← Nat.add_assoc] at this
  refine ⟨fun D m n hD hm=>?_,fun Fz h n hF hh=>?_,fun D m n hD hm j b hb=>?_,fun n j b i hb hi hd=>?_,fun n=>by simp [a.len,az.len]⟩
  · exact (a.vr D m n (cD D n hD).1 (cI m n hm).1).append (az.vr D m (n + is.length) (cD D n hD).2 (cI m n hm).2)
  · refine (a.vl Fz h n (cD Fz n hF).1 fun j b hb=>hh j b (by rw [List.getElem?_append_left (List.getElem?_eq_some_iff.1 hb).1];exact hb)).append (az.vl Fz h (n + is.length) (cD Fz n hF).2 fun j b hb=>?_)
    have:=hh (is.length + j) b (by rw [List.getElem?_append_right (by rw [a.len];omega),a.len,Nat.add_sub_cancel_left];exact hb)
    rwa [← Nat.add_assoc] at this
  · rcases Nat.lt_or_ge j is.length with hj|hj
    · rw [List.getElem?_append_left (by rw [a.len];exact hj)] at hb
      exact a.ok D m n (cD D n hD).1 (cI m n hm).1 j b hb
    · rw [List.getElem?_append_right (by rw [a.len];exact hj),a.len] at hb
      have:=az.ok D m (n + is.length) (cD D n hD).2 (cI m n hm).2 _ b hb
      rwa [show n + is.length + (j - is.length) = n + j by omega] at this
  · rcases Nat.lt_or_ge j is.length with hj|hj
    · rw [List.getElem?_append_left (by rw [a.len];exact hj)] at hb
      rw [List.getElem?_append_left hj] at hi
      exact a.lt n j b i hb hi hd
    · rw [List.getElem?_append_right (by rw [a.len];exact hj),a.len] at hb
      rw [List.getElem?_append_right hj] at hi
      exact az.lt _ _ b i hb hi hd
/-- rows of values that can be read -/
theorem nargs_rows {W : World} {α : Type} {F : α → List TV} : ∀ (rows : List (List Value)), (∀ r ∈ rows, ∃ (x : α) (bs : Nat → List Blk) (is : List Info) (av : Nat → List Value), NArgs W r (F x) bs is av) →
    ∃ (xs : List α) (bs : Nat → List Blk) (is : List Info) (av : Nat → List Value),xs.length = rows.length ∧ NArgs W rows.flatten (xs.map F).flatten bs is av
  | [],_=>⟨[],_,_,_,rfl,NArgs.nil W⟩
  | r :: t,h=>by
    obtain ⟨xs,_,_,_,hl,a⟩:=nargs_rows t (fun c hc=>h c (by simp [hc]))
    obtain ⟨x,_,_,_,b⟩:=h r (by simp)
    exact ⟨x :: xs,_,_,_,by simp [hl],NArgs.append b a⟩
theorem flatN_at {α : Type} {es : Nat} : ∀ (rows : List (List α)) (_ : ∀ r ∈ rows,r.length = es) (i j : Nat),j < es → rows.flatten[i * es + j]? = (rows[i]?).bind (·[j]?)
  | [],_,i,j,_=>by simp
  | r :: t,h,0,j,hj=>by
    have:=h r (by simp)
    rw [Nat.zero_mul,Nat.zero_add,List.flatten_cons,List.getElem?_append_left (by omega)]
    rfl
  | r :: t,h,i + 1,j,hj=>by
    have hr:=h r (by simp)
    rw [List.flatten_cons,List.getElem?_append_right (by rw [Nat.add_mul];omega),show (i + 1) * es + j - r.length = i * es + j by rw [Nat.add_mul];omega]
    exact flatN_at t (fun r hr=>h r (by simp [hr])) i j hj
section
variable {H : Type} {enc : TypeId × Value → H} {W : World} {base : Nat} {spare : Nat → Bool} {held : Bool}
/-- a slice of structures that can be read az trees -/
theorem open_rowsN {α : Type} {F : α → List TV} {es : Nat} (he : 0 < es) (hF : ∀ x, (F x).length = es) {P : Program} {t te : TypeId} (ht : P.underlying t = some (.slice te)) (hC : P.cellsOf te = es)
    (elem : ∀ n cs y,cs.length = es → DataW.trod enc P W base spare held n te cs = some y → ∃ (x : α) (bs : Nat → List Blk) (is : List Info) (av : Nat → List Value),NArgs W cs (F x) bs is av)
    {v' : Value} {fuel : Nat} {x : DataW H × List MemPlace} (h : DataW.trod enc P W base spare held fuel t [v'] = some x) : ∃ (xs : List α) (bs : Nat → List Blk) (is : List Info) (av : Nat → Value),NArg W v' (.list es (xs.map F)) bs is av:=by
  rcases open_any ht he hC h with rfl|⟨a,c,rfl⟩|⟨gb,o,len,cap,n,rfl,h0,hlc,hgb,key⟩
  · exact ⟨[],fun _=>[],[],fun _=>.slice none 0 0,fun _ _ _ _ _=>.nilSlice 0 0,fun _ _ _ _ _=>.nillist _ _,fun _ _ _ _ _ j b h=>by simp at h,fun _ j b i h=>by simp at h,fun _=>rfl⟩
  · exact ⟨[],fun _=>[],[],fun _=>vag,fun _ _ _ _ _=>.vague a c,fun _ _ _ _ _=>.vague _ _,fun _ _ _ _ _ j b h=>by simp at h,fun _ j b i h=>by simp at h,fun _=>rfl⟩
  · obtain ⟨rows,hrl,hq⟩:=choose_list len key
    have hw : ∀ r ∈ rows,r.length = es:=fun r hr=>by
      obtain ⟨i,hi,rfl⟩:=List.mem_iff_getElem.1 hr
      obtain ⟨y,h1,_⟩:=hq i _ (List.getElem?_eq_getElem hi)
      exact h1
    obtain ⟨xs,bs,is,avs,hxl,az⟩:=nargs_rows (W:=W) (F:=F) rows (fun c hc=>by
      obtain ⟨i,hi,rfl⟩:=List.mem_iff_getElem.1 hc
      obtain ⟨y,h1,h2,_⟩:=hq i _ (List.getElem?_eq_getElem hi)
      exact elem n _ y h1 h2)
    have hcell : ∀ i v,rows.flatten[i]? = some v → W.cell? ⟨gb,o + i,none⟩ = some v:=fun i v hv=>by
      have e : i = i / es * es + i % es:=by rw [Nat.mul_comm];exact (Nat.div_add_mod i es).symm
      rw [e,flatN_at rows hw _ _ (Nat.mod_lt _ he)] at hv
      obtain ⟨r,hr,hv⟩:=Option.bind_eq_some_iff.1 hv
      obtain ⟨y,h1,h2,h3⟩:=hq _ _ hr
      have:=h3 (i % es) (Nat.mod_lt _ he)
      rw [hv] at this
      rw [← this]
      congr 2
      omega
    subst hrl
    have sD : ∀ (D : Nat → Prop) n,(∀ j,j < is.length + 1 → D (n + j)) → D n ∧ ∀ j,j < is.length → D (n + 1 + j):=by
      intro D n hD
      refine ⟨by simpa using hD 0 (by omega),fun j hj=>?_⟩
      have:=hD (j + 1) (by omega)
      rwa [show n + 1 + j = n + (j + 1) by omega]
    have sI : ∀ (m : NMap) n,(∀ (j : Nat) i,((⟨gb,o,cap * es,es⟩ : Info) :: is)[j]? = some i → m (n + j) = i) → m n = ⟨gb,o,cap * es,es⟩ ∧ ∀ (j : Nat) i,is[j]? = some i → m (n + 1 + j) = i:=by
      intro m n hm
      refine ⟨by simpa using hm 0 _ rfl,fun j i hi=>?_⟩
      have:=hm (j + 1) i (by simpa using hi)
      rwa [show n + 1 + j = n + (j + 1) by omega]
    refine ⟨xs,fun n=>.cells es (avs (n + 1)) :: bs (n + 1),⟨gb,o,cap * es,es⟩ :: is,fun n=>.slice (some ⟨n,0,none⟩) xs.length xs.length,fun D m n hD hm=>?_,fun Fz h n hF' hh=>?_,fun D m n hD hm j b hb=>?_,fun n j b i hb hi hd=>?_,fun n=>by simp [az.len]⟩
    · have e:=(sI m n hm).1
      have:=VR.slice (D:=D) (m:=m) n 0 xs.length xs.length cap (sD D n (by simpa using hD)).1 (Nat.le_refl _) (by omega) (.inr (by rw [e];simp))
      rw [e] at this
      rw [hxl] at this ⊢
      exact this
    · have hs := az.vl Fz h (n + 1) (sD Fz n (by simpa using hF')).2 (fun j b hb => by
        have:=hh (j + 1) b (by simpa using hb)
        rwa [show n + 1 + j = n + (j + 1) by omega])
      have hlen:=hs.len
      have hfl : ((xs.map F).flatten).length = xs.length * es:=by
        clear hlen hs az hxl
        induction xs with
        | nil=>simp
        | cons a t ih=>simp only [List.map_cons,List.flatten_cons,List.length_append,hF,ih,List.length_cons,Nat.add_mul];omega
      have h0':=hh 0 (.cells es (avs (n + 1))) rfl
      have:=VL.list (Fz:=Fz) (h:=h) noL es (xs.map F) n 0 xs.length (avs (n + 1)) es (sD Fz n (by simpa using hF')).1 h0' (.inl rfl) (fun r hr=>by obtain ⟨x,_,rfl⟩:=List.mem_map.1 hr;exact hF x) (by simp) (by simp only [List.length_map] at hlen ⊢;omega) (fun j p x hp hx=>by
        rw [Nat.zero_add] at hx
        exact hs.at' j p x hp hx)
      rw [List.length_map] at this
      exact this
    · cases j with
      | zero =>
        obtain rfl:=Option.some.inj hb
        have e:=(sI m n hm).1
        have hv:=az.vr D m (n + 1) (sD D n (by simpa using hD)).2 (sI m n hm).2
        rw [Nat.add_zero]
        refine ⟨by rw [e],fun i v hi=>?_⟩
        obtain ⟨v',h1,h2⟩:=hv.at hi
        refine ⟨v',?_,h2⟩
        rw [e]
        exact hcell i v' h1
      | succ j =>
        have:=az.ok D m (n + 1) (sD D n (by simpa using hD)).2 (sI m n hm).2 j b (by simpa using hb)
        rwa [show n + 1 + j = n + (j + 1) by omega] at this
    · cases j with
      | zero =>
        obtain rfl:=Option.some.inj hi
        exact hgb
      | succ j=>exact az.lt _ j b i (by simpa using hb) (by simpa using hi) hd
end
end Go.Rex

open Go Go.Rex Go.Proofs
namespace Go.Rex
/-! ### what a row's listed variables hold,cell by cell -/
section
variable {P : Program} {w : World}
theorem listed_at : ∀ {l : List (String × DataW Unit)} {ps : List MemPlace}, DataW.LaidVars P w l ps → ∀ {n : String} {d : DataW Unit}, (n, d) ∈ l →
    ∃ g t cs fuel p,P.globalNamed n = some g ∧ (P.globals[g]?).map (·.type) = some t ∧ w.var? P n = some cs ∧ DataW.trod (fun _=>()) P w 0 (fun _=>true) false fuel t cs.toList = some (d,p)
  | [],_,_,_,_,hm=>by cases hm
  | (a,b) :: r,_,h,n,d,hm=>by
    obtain ⟨g,t,cs,fuel,p,q,h1,h2,h3,h4,h5,_⟩:=h
    rcases List.mem_cons.1 hm with e|e
    · cases e;exact ⟨g,t,cs,fuel,p,h1,h2,h3,h4⟩
    · exact listed_at h5 e
/-- the cells of data that hold no names, part after part -/
def catC (P : Program) (f : TypeId → DataW Unit → Option (List Value)) : List (TypeId × DataW Unit) → Option (List Value)
  | []=>some []
  | (t,d) :: r=>match f t d,catC P f r with
    | some a,some b=>some (a ++ b)
    | _,_=>none
def offsC (P : Program) : Nat → List Field → Option Nat
  | o,[]=>some o
  | o,f :: r=>if f.offset = o then offsC P (o + P.cellsOf f.type) r else none
def flatC (P : Program) : Nat → TypeId → DataW Unit → Option (List Value)
  | 0,_,_=>none
  | n + 1,t,d=>match P.underlying t,d with
    | some (.int k),.lit (.int _ z)=>some [.int k z]
    | some .string,.lit (.string l)=>some [.string ⟨l.toArray⟩]
    | some .bool,.lit (.bool b)=>some [.bool b]
    | some (.array m e),.agg ds=>if ds.length = m ∧ P.cellsOf t = m * P.cellsOf e then catC P (flatC P n) (ds.map fun d=>(e,d)) else none
    | some (.struct fs),.agg ds=>if ds.length = fs.size ∧ offsC P 0 fs.toList = some (P.cellsOf t) then catC P (flatC P n) ((fs.toList.map (·.type)).zip ds) else none
    | _,_=>none
abbrev RdC (P : Program) (w : World) (t : TypeId) (d : DataW Unit) (r : List Value) : Prop:=∃ fuel p,DataW.trod (fun _=>()) P w 0 (fun _=>true) false fuel t r = some (d,p)
theorem cat_eq {f : TypeId → DataW Unit → Option (List Value)} (hf : ∀ t d cs, f t d = some cs → ∀ r, RdC P w t d r → r = cs) : ∀ (l : List (TypeId × DataW Unit)) (cs r : List Value) (pos : Nat → Nat), catC P f l = some cs →
    (∀ i t d,l[i]? = some (t,d) → RdC P w t d ((r.drop (pos i)).take (P.cellsOf t)) ∧ pos (i + 1) = pos i + P.cellsOf t) → r.length = pos l.length → r.drop (pos 0) = cs
  | [],cs,r,pos,h,_,hl=>by
    cases h
    exact List.drop_eq_nil_of_le (by rw [hl];exact Nat.le_refl _)
  | (t,d) :: l,cs,r,pos,h,ha,hl=>by
    unfold catC at h
    split at h
    · rename_i a b e1 e2
      cases h
      obtain ⟨h1,h2⟩:=ha 0 t d rfl
      have k1:=hf t d a e1 _ h1
      have k2:=cat_eq hf l b r (fun i=>pos (i + 1)) e2 (fun i t d hi=>ha (i + 1) t d (by simpa using hi)) (by simpa using hl)
      rw [h2,← List.drop_drop] at k2
      rw [← List.take_append_drop (P.cellsOf t) (r.drop (pos 0)),k1,k2]
    · cases h
theorem offs_pos : ∀ (fs : List Field) (o e : Nat),offsC P o fs = some e → ∃ pos : Nat → Nat,pos 0 = o ∧ pos fs.length = e ∧ ∀ i f,fs[i]? = some f → f.offset = pos i ∧ pos (i + 1) = pos i + P.cellsOf f.type
  | [],o,e,h=>by cases h;exact ⟨fun _=>o,rfl,rfl,fun i f hf=>by simp at hf⟩
  | f :: r,o,e,h=>by
    unfold offsC at h
    split at h
    · rename_i ho
      obtain ⟨pos,h1,h2,h3⟩:=offs_pos r _ _ h
      refine ⟨fun|0=>o|i + 1=>pos i,rfl,h2,fun i g hg=>?_⟩
      cases i with
      | zero=>cases hg;exact ⟨ho,h1⟩
      | succ i=>exact h3 i g (by simpa using hg)
    · cases h
theorem flat_eq : ∀ (n : Nat) (t : TypeId) (d : DataW Unit) (cs : List Value),flatC P n t d = some cs → ∀ r,RdC P w t d r → r = cs:=by
  intro n
  induction n with
  | zero=>intro t d cs h;cases h
  | succ n ih =>
    intro t d cs h r ⟨fuel,p,hr⟩
    unfold flatC at h
    split at h
    · rename_i k k' z hu
      cases h
      obtain ⟨z',e1,e2,_⟩:=DataW.trod_int hu hr
      simp only [Prod.mk.injEq,DataW.lit.injEq,Lit.int.injEq] at e2
      rw [e1,e2.1.2]
    · rename_i l hu
      cases h
      obtain ⟨b,e1,e2,_⟩:=DataW.trod_string hu hr
      simp only [Prod.mk.injEq,DataW.lit.injEq,Lit.string.injEq] at e2
      rw [e1,e2.1]
    · rename_i b hu
      cases h
      obtain ⟨b',e1,e2⟩:=DataW.trod_bool hu hr
      simp only [Prod.mk.injEq,DataW.lit.injEq,Lit.bool.injEq] at e2
      rw [e1,e2.1]
    · rename_i m e ds hu
      split at h
      · rename_i hc
        obtain ⟨xs,m',_,e2,e3,e4,e5⟩:=DataW.trod_array hu hr
        simp only [Prod.mk.injEq,DataW.agg.injEq] at e2
        have:=cat_eq (w:=w) ih (ds.map fun d=>(e,d)) cs r (fun i=>i * P.cellsOf e) h (fun i t' d' hi=>by
          rw [List.getElem?_map,Option.map_eq_some_iff] at hi
          obtain ⟨x,hx,hh⟩:=hi
          simp only [Prod.mk.injEq] at hh
          obtain ⟨rfl,rfl⟩:=hh
          have hlt:=(List.getElem?_eq_some_iff.1 hx).1
          have hi5:=e5 i (by omega)
          rw [e2.1,List.getElem?_map,Option.map_eq_some_iff] at hx
          obtain ⟨y,hy,rfl⟩:=hx
          rw [hy] at hi5
          exact ⟨⟨_,_,hi5⟩,by rw [Nat.add_mul,Nat.one_mul]⟩) (by rw [List.length_map,hc.1,← hc.2];exact e3)
        simpa using this
      · cases h
    · rename_i fs ds hu
      split at h
      · rename_i hc
        obtain ⟨xs,m',_,e2,e3,e4,e5⟩:=DataW.trod_struct hu hr
        simp only [Prod.mk.injEq,DataW.agg.injEq] at e2
        obtain ⟨pos,p0,p1,p2⟩:=offs_pos _ _ _ hc.2
        have:=cat_eq (w:=w) ih ((fs.toList.map (·.type)).zip ds) cs r pos h (fun i t' d' hi=>by
          rw [List.getElem?_zip_eq_some,List.getElem?_map,Option.map_eq_some_iff] at hi
          obtain ⟨⟨f,hf,rfl⟩,hx⟩:=hi
          have hfs : fs[i]? = some f:=by simpa using hf
          have hi5:=e5 i f hfs
          obtain ⟨q1,q2⟩:=p2 i f hf
          rw [e2.1,List.getElem?_map,Option.map_eq_some_iff] at hx
          obtain ⟨y,hy,rfl⟩:=hx
          rw [hy,q1] at hi5
          exact ⟨⟨_,_,hi5⟩,q2⟩) (by
          have : ((fs.toList.map (·.type)).zip ds).length = fs.toList.length:=by simp [hc.1]
          rw [this,p1];exact e3)
        rw [p0] at this
        simpa using this
      · cases h
    · cases h
theorem listed_cells {l : List (String × DataW Unit)} (h : laidMet P l w) {n : String} {d : DataW Unit} (hm : (n, d) ∈ l) {g : Nat} {t : TypeId} {cs : List Value} (hg : P.globalNamed n = some g) (hty : (P.globals[g]?).map (·.type) = some t) (hf : flatC P 10 t d = some cs) :
    ∀ (i : Nat) v,cs[i]? = some v → w.cell? ⟨g,i,none⟩ = some v:=by
  obtain ⟨ps,hv,_⟩:=h
  obtain ⟨g',t',cs',fuel,p,h1,h2,h3,h4⟩:=listed_at hv hm
  obtain rfl:=Option.some.inj (hg.symm.trans h1)
  obtain rfl:=Option.some.inj (hty.symm.trans h2)
  have e:=flat_eq (w:=w) 10 _ _ _ hf _ ⟨_,_,h4⟩
  intro i v hi
  rw [World.var?_cell h1 h3]
  rw [← e] at hi
  simpa using hi
end
/-- what is known of the variables, one after the other -/
def AllC (w : World) : Nat → List (Nat × List Value) → Prop
  | _,[]=>True
  | g,p :: r=>(∀ (i : Nat) v,p.2[i]? = some v → w.cell? ⟨g,i,none⟩ = some v) ∧ AllC w (g + 1) r
theorem allC_at {w : World} : ∀ (l : List (Nat × List Value)) (g k : Nat) (p : Nat × List Value),AllC w g l → l[k]? = some p → ∀ (i : Nat) v,p.2[i]? = some v → w.cell? ⟨g + k,i,none⟩ = some v
  | [],_,_,_,_,h=>by simp at h
  | q :: r,g,0,p,h,hk=>by cases hk;exact h.1
  | q :: r,g,k + 1,p,h,hk=>by
    have:=allC_at r (g + 1) k p h.2 (by simpa using hk)
    rw [show g + (k + 1) = g + 1 + k by omega]
    exact this
theorem noCells {w : World} {g : Nat} : ∀ (i : Nat) v,([] : List Value)[i]? = some v → w.cell? ⟨g,i,none⟩ = some v:=fun i v h=>by simp at h
theorem gh_size {w : World} {g : Nat} {v : Value} (h : w.cell? ⟨g,0,none⟩ = some v) : g < w.heap.size:=by
  unfold World.cell? at h
  rcases Nat.lt_or_ge g w.heap.size with q|q
  · exact q
  · rw [Array.getElem?_eq_none q] at h
    simp at h
theorem gw_all {w : World} (h : AllC w 0 ghCells) : GW w:=fun g es c hg i v hv=>by
  unfold GH at hg
  rw [List.getElem?_map,Option.map_eq_some_iff] at hg
  obtain ⟨p,hp,e⟩:=hg
  cases e
  have:=allC_at ghCells 0 g p h hp i v hv
  rwa [Nat.zero_add] at this
end Go.Rex
