/- What these functions return: facts on lists and numbers. -/
import Derived.Test.YtpjccpokiaefjaaGreatDoorRexG8
import Derived.Test.YtpjccpokiaefjaaGreatDoorS
import Derived.ProofKit
import Derived.OpenShut
import Derived.ShutString
import Derived.ChangeOld
import Derived.Below
import Derived.Lib.SmallJoins
import Derived.ChangeShapes
import Derived.ChangeArms
import Derived.WideShapes
import Derived.Lay
import Derived.MakeChecks
import Derived.SevenTiedAt
set_option linter.unusedSimpArgs false
set_option linter.unusedVariables false
set_option linter.unusedSectionVars false
set_option linter.defProp false
namespace Go.Rex
/-! ### plain facts for shallow functions -/
theorem w64 {x : Int} (h : -9223372036854775808 ≤ x ∧ x ≤ 9223372036854775807) : IntKind.i64.wrap x = x:=IntWalk.i64_in x (by omega)
/-- a loop that counts -/
theorem run_count {σ ε : Type} {step : σ → Option (σ ⊕ ε)} (f : Nat → σ) {n : Nat} {e : ε} (h : ∀ k,k < n → step (f k) = some (.inl (f (k + 1)))) (hn : step (f n) = some (.inr e)) : run step (f 0) = some e:=by
  suffices H : ∀ j k,n - k = j → k ≤ n → run step (f k) = some e from H n 0 (by omega) (Nat.zero_le _)
  intro j
  induction j with
  | zero => intro k hj hk; obtain rfl : k = n := by omega
            exact run_stop hn
  | succ j ih=>intro k hj hk;rw [run_next (h k (by omega))];exact ih (k + 1) (by omega) (by omega)
theorem getI_nat {α : Type} {xs : List α} {k : Nat} : getI xs (k : Int) = xs[k]?:=by
  unfold getI
  rw [if_pos (by omega),Int.toNat_natCast]
theorem appI_one {α : Type} {b : Nat} {xs : List α} {y : α} (h : xs.length < 2 ^ 40) (hb : b ≤ 128) : appI b xs [y] = some (xs ++ [y]):=by
  unfold appI
  rw [if_pos]
  refine ⟨by simp;omega,?_⟩
  have h1 : (xs.length + [y].length) * b ≤ 2 ^ 40 * 128:=Nat.mul_le_mul (by simp;omega) hb
  omega
end Go.Rex

namespace Go.Rex
/-! ### a loop that walks a list,gathers,and may end early -/
def walk {α β ε : Type} (f : β → α → β ⊕ ε) (fin : β → ε) : β → List α → ε
  | b,[]=>fin b
  | b,x :: t=>match f b x with
    | .inl b'=>walk f fin b' t
    | .inr e=>e
theorem run_walk {α β σ ε : Type} {step : σ → Option (σ ⊕ ε)} (st : Nat → β → σ) (f : β → α → β ⊕ ε) (fin : β → ε) (Inv : Nat → β → Prop) (l : List α)
    (hs : ∀ (k : Nat) (x : α) (b : β),l[k]? = some x → Inv k b → step (st k b) = some (match f b x with|.inl b'=>.inl (st (k + 1) b')|.inr e=>.inr e) ∧ ∀ b',f b x = .inl b' → Inv (k + 1) b')
    (he : ∀ b,Inv l.length b → step (st l.length b) = some (.inr (fin b))) {b0 : β} (h0 : Inv 0 b0) : run step (st 0 b0) = some (walk f fin b0 l):=by
  suffices H : ∀ (t : List α) (k : Nat) (b : β),l.drop k = t → k ≤ l.length → Inv k b → run step (st k b) = some (walk f fin b t) from H l 0 b0 rfl (Nat.zero_le _) h0
  intro t
  induction t with
  | nil =>
    intro k b hk hkl hI
    have : k = l.length:=by
      have:=congrArg List.length hk
      simp at this
      omega
    subst this
    exact run_stop (he b hI)
  | cons x t ih =>
    intro k b hk hkl hI
    have hx : l[k]? = some x:=by
      have:=congrArg (fun l=>l[0]?) hk
      simpa using this
    have hlt:=(List.getElem?_eq_some_iff.1 hx).1
    obtain ⟨h1,h2⟩:=hs k x b hx hI
    have ht : l.drop (k + 1) = t:=by
      have:=congrArg List.tail hk
      simpa using this
    cases hf : f b x with
    | inl b' =>
      rw [hf] at h1
      rw [run_next h1,ih (k + 1) b' ht (by omega) (h2 b' hf)]
      simp only [walk,hf]
    | inr e =>
      rw [hf] at h1
      rw [run_stop h1]
      simp only [walk,hf]
end Go.Rex

open Go Go.Rex
namespace Go.Rex
set_option maxRecDepth 100000
/-! ### loops,once more -/
theorem wsucc {k : Nat} {n : Nat} (h : k ≤ n) (hn : n ≤ 2 ^ 62) : IntKind.i64.wrap ((k : Int) + 1) = ((k + 1 : Nat) : Int):=by rw [w64 (by omega)];omega
/-- the first one that has an answer -/
def firstOf {ε : Type} (p : Nat → Option ε) (n : Nat) : Option ε:=(List.range n).findSome? p
theorem firstOf_none {ε : Type} {p : Nat → Option ε} {n : Nat} : firstOf p n = none ↔ ∀ k,k < n → p k = none:=by
  unfold firstOf
  rw [List.findSome?_eq_none_iff]
  constructor
  · intro h k hk;exact h k (List.mem_range.2 hk)
  · intro h k hk;exact h k (List.mem_range.1 hk)
theorem firstOf_succ {ε : Type} {p : Nat → Option ε} {n : Nat} : firstOf p (n + 1) = match firstOf p n with|some e=>some e|none=>p n:=by
  unfold firstOf
  rw [List.range_succ,List.findSome?_append]
  cases h : List.findSome? p (List.range n) with
  | some e=>rfl
  | none=>simp
theorem run_find {ε δ : Type} {step : Int → Option (Int ⊕ (ε ⊕ δ))} {n : Nat} {p : Nat → Option ε} {r : δ}
    (h : ∀ k : Nat,k < n → (∀ j,j < k → p j = none) → step (k : Int) = some (match p k with|none=>.inl ((k + 1 : Nat) : Int)|some e=>.inr (.inl e))) (he : (∀ j,j < n → p j = none) → step (n : Int) = some (.inr (.inr r))) : run step 0 = some (match firstOf p n with|some e=>.inl e|none=>.inr r):=by
  suffices H : ∀ m,m ≤ n → firstOf p m = none → run step 0 = run step (m : Int) by
    cases hf : firstOf p n with
    | none =>
      simp only
      rw [H n (Nat.le_refl _) hf]
      exact run_stop (he (firstOf_none.1 hf))
    | some e =>
      simp only
      have : ∃ m,m < n ∧ firstOf p m = none ∧ p m = some e:=by
        clear h he H
        induction n with
        | zero=>simp [firstOf] at hf
        | succ n ih =>
          rw [firstOf_succ] at hf
          cases hn : firstOf p n with
          | none=>rw [hn] at hf;exact ⟨n,by omega,hn,hf⟩
          | some e'=>rw [hn] at hf;cases hf;obtain ⟨m,h1,h2⟩:=ih hn;exact ⟨m,by omega,h2⟩
      obtain ⟨m,hm,h1,h2⟩:=this
      rw [H m (by omega) h1]
      have:=h m hm (firstOf_none.1 h1)
      rw [h2] at this
      exact run_stop this
  intro m
  induction m with
  | zero=>intro _ _;rfl
  | succ m ih =>
    intro hm hf
    have hf':=firstOf_none.1 hf
    rw [ih (by omega) (firstOf_none.2 fun k hk=>hf' k (by omega))]
    have:=h m (by omega) (fun j hj=>hf' j (by omega))
    rw [hf' m (by omega)] at this
    exact run_next this
def iter {β : Type} (g : Nat → β → β) : Nat → β → β
  | 0,b=>b
  | k + 1,b=>g k (iter g k b)
theorem run_iter {β σ ε : Type} {step : σ → Option (σ ⊕ ε)} (st : Nat → β → σ) (g : Nat → β → β) (fin : β → ε) (n : Nat) (Inv : Nat → β → Prop) {b0 : β} (h0 : Inv 0 b0)
    (hs : ∀ k b,k < n → Inv k b → step (st k b) = some (.inl (st (k + 1) (g k b))) ∧ Inv (k + 1) (g k b)) (he : ∀ b,Inv n b → step (st n b) = some (.inr (fin b))) :
    run step (st 0 b0) = some (fin (iter g n b0)) ∧ ∀ k,k ≤ n → Inv k (iter g k b0):=by
  have hI : ∀ k,k ≤ n → Inv k (iter g k b0):=by
    intro k
    induction k with
    | zero=>intro _;exact h0
    | succ k ih=>intro hk;exact (hs k _ (by omega) (ih (by omega))).2
  refine ⟨?_,hI⟩
  exact run_count (fun k=>st k (iter g k b0)) (fun k hk=>(hs k _ hk (hI k (by omega))).1) (he _ (hI n (Nat.le_refl _)))
theorem getI_lt' {α : Type} {l : List α} {k : Nat} (h : k < l.length) : getI l (k : Int) = some l[k]:=by
  rw [getI_nat];exact List.getElem?_eq_getElem h
/-! ### small things -/
theorem copyI' {l : List Int} (h : l.length ≤ 1048576) : appI 8 ([] : List Int) l = some l:=by
  unfold appI
  rw [if_pos (by simp;omega)]
  simp
theorem mkI_nat {n : Nat} (h : n ≤ 1048576) : mkI 8 (n : Int) (0 : Int) = some (List.replicate n 0):=by
  unfold mkI
  rw [if_pos (by omega),Int.toNat_natCast]
/-! ### sums of lists -/
end Go.Rex

namespace Go.Rex
open Go.RowKit
/-! ## whole floats -/
structure FOk (f : Ieee.Format) (q : Nat) : Prop where
  lp : f.leastPlace = -(q : Int)
  le : f.fractionBits + 1 ≤ q
  inf : (q + 2) * f.binade ≤ f.infRung
  sgn : f.infRung < f.signWeight
theorem shl (m s : Nat) : m <<< s = m * 2 ^ s:=Nat.shiftLeft_eq m s
/-- a whole float: a sign and a size -/
def fz (k : FloatKind) (s : Bool) (m : Nat) : Nat:=k.encode (.number s m 0)
end Go.Rex

namespace Go.Rex
/-! ### floats that are whole numbers -/
end Go.Rex

namespace Go.Rex
/-! ### roots and ways -/
/-- squares of distances -/
def sqd (x y z a b c : Int) : Int:=(a - x) * (a - x) + (b - y) * (b - y) + (c - z) * (c - z)
end Go.Rex

namespace Go.Rex
/-! ### which arrays and seats are right -/
abbrev Spk:=Int × Int × Int × Int × Int
theorem awithin_eq (x lo hi : Int) : array_within x lo hi = some (!decide (lo ≤ x ∧ x ≤ hi),2):=by
  unfold array_within array_refuse
  by_cases q : x < lo
  · rw [if_pos (by simpa using q),decide_eq_false (by omega)];rfl
  · rw [if_neg (by simpa using q)]
    by_cases q2 : x > hi
    · rw [decide_eq_true q2,decide_eq_false (by omega)];rfl
    · rw [decide_eq_false q2,decide_eq_true (by omega)];rfl
theorem arefuse1 (b : Bool) (e : Int) : array_refuse_c1_11f9 b e = some (if b = true then e else 0):=by
  unfold array_refuse_c1_11f9;cases b<;>rfl
end Go.Rex

open Go Go.Rex
namespace Go.Rex
set_option maxRecDepth 100000
/-! ### errors,exactly -/
theorem within_ex (x lo hi : Int) : base_Within x lo hi = some (decide (lo ≤ x ∧ x ≤ hi)):=by
  unfold base_Within
  by_cases q : lo ≤ x
  · rw [if_pos (by simpa using q)];simp [q]
  · rw [if_neg (by simpa using q)];simp [q]
theorem bwithin {x lo hi : Int} {β : Type} {f : Bool → Option β} : ((base_Within x lo hi).bind f) = if lo ≤ x ∧ x ≤ hi then f true else f false:=by
  rw [within_ex,Option.bind_some]
  by_cases q : lo ≤ x ∧ x ≤ hi
  · rw [if_pos q,decide_eq_true q]
  · rw [if_neg q,decide_eq_false q]
end Go.Rex

open Go Go.Rex
namespace Go.Rex
set_option maxRecDepth 100000
end Go.Rex

open Go Go.Rex
namespace Go.Rex
/-! ### roots of the base,and quotients -/
end Go.Rex

open Go Go.Rex
namespace Go.Rex
set_option maxRecDepth 100000
/-! ### ways -/
/-- what two places say of the way -/
structure Len (x y z a b c r r' : Int) : Prop where
  p : array_way_length x y z a b c = some (r,r')
  q : ref07_milli x y z a b c = some (r,r')
  lo : 0 ≤ r
  le : r ≤ r'
  hi : r' ≤ r + 1 ∧ r' ≤ 20000000
  far : 100 ≤ sqd x y z a b c → 10000 ≤ r
section
variable {x y z a b c r r' u v : Int}
end
instance (u v : Int) : Decidable ((8000 ≤ u ∧ u ≤ 192000) ∧ (30000 ≤ v ∧ v ≤ 40000)):=inferInstance
end Go.Rex

namespace Go.Rex
/-! ### what loudspeakers do at a seat -/
section
variable (u v a b c : Int)
noncomputable def nn (s : Spk) : Int × Int:=(array_way_numbers s.1 s.2.1 s.2.2.1 a b c u v).getD (0,0)
noncomputable def ss (s : Spk) : Int × Int:=(array_way_strength s.1 s.2.1 s.2.2.1 a b c).getD (0,0)
noncomputable def gs (s : Spk) : Int:=s.2.2.2.1 * (ss a b c s).1
end
def cD (j : Int) : Int:=if j = 1 then -1 else if j = 3 then 1 else 0
section
variable {u v a b c : Int} {l : List Spk}
end
end Go.Rex

open Go Go.Rex
namespace Go.Rex
set_option maxRecDepth 100000
/-! ### errors of an array and a seat,exactly;parts with both ends -/
section
variable {u v a b c : Int} {l : List Spk}
/-- all that is known of a part -/
structure PtF (u v a b c : Int) (s : Spk) : Prop where
  nr : ref07_NumbersOf s.1 s.2.1 s.2.2.1 a b c u v = some (nn u v a b c s)
  sr : ref07_Strength s.1 s.2.1 s.2.2.1 a b c = some (ss a b c s)
  n0 : 0 ≤ (nn u v a b c s).1
  n1 : (nn u v a b c s).1 ≤ (nn u v a b c s).2
  n2 : (nn u v a b c s).2 ≤ 10000000000
  s0 : 0 ≤ (ss a b c s).1
  s1 : (ss a b c s).1 ≤ (ss a b c s).2
  s2 : (ss a b c s).2 ≤ 100000
  g : 0 ≤ s.2.2.2.1 ∧ s.2.2.2.1 ≤ 1000
  d : 0 ≤ s.2.2.2.2 ∧ s.2.2.2.2 ≤ 10000
end
end Go.Rex

open Go Go.Rex
namespace Go.Rex
set_option maxRecDepth 100000
/-! ### sums of floats that never are -0 -/
/-! ### shares -/
/-! ### least and greatest of a list -/
def fo (h : Int → Int → Int) : List Int → Int
  | []=>0
  | x :: t=>t.foldl h x
def mn2 (a b : Int) : Int:=if b < a then b else a
def mx2 (a b : Int) : Int:=if b > a then b else a
theorem fo_snoc (h : Int → Int → Int) {xs : List Int} (hx : xs ≠ []) (y : Int) : fo h (xs ++ [y]) = h (fo h xs) y:=by
  cases xs with
  | nil=>exact absurd rfl hx
  | cons x t=>simp [fo]
theorem fold_mn : ∀ (t : List Int) (x : Int),t.foldl mn2 x ≤ x ∧ (∀ y ∈ t,t.foldl mn2 x ≤ y) ∧ (t.foldl mn2 x = x ∨ t.foldl mn2 x ∈ t)
  | [],x=>⟨Int.le_refl _,fun y h=>by simp at h,.inl rfl⟩
  | z :: t,x=>by
    obtain ⟨h1,h2,h3⟩:=fold_mn t (mn2 x z)
    have h4 : mn2 x z ≤ x ∧ mn2 x z ≤ z ∧ (mn2 x z = x ∨ mn2 x z = z):=by unfold mn2;split<;>simp<;>omega
    simp only [List.foldl_cons]
    refine ⟨by omega,fun y hy=>?_,?_⟩
    · rcases List.mem_cons.1 hy with rfl|hy
      · omega
      · exact h2 y hy
    · rcases h3 with h3|h3
      · rcases h4.2.2 with h|h
        · left;rw [h3,h]
        · right;rw [h3,h];simp
      · right;simp [h3]
theorem fold_mx : ∀ (t : List Int) (x : Int),x ≤ t.foldl mx2 x ∧ (∀ y ∈ t,y ≤ t.foldl mx2 x) ∧ (t.foldl mx2 x = x ∨ t.foldl mx2 x ∈ t)
  | [],x=>⟨Int.le_refl _,fun y h=>by simp at h,.inl rfl⟩
  | z :: t,x=>by
    obtain ⟨h1,h2,h3⟩:=fold_mx t (mx2 x z)
    have h4 : x ≤ mx2 x z ∧ z ≤ mx2 x z ∧ (mx2 x z = x ∨ mx2 x z = z):=by unfold mx2;split<;>simp<;>omega
    simp only [List.foldl_cons]
    refine ⟨by omega,fun y hy=>?_,?_⟩
    · rcases List.mem_cons.1 hy with rfl|hy
      · omega
      · exact h2 y hy
    · rcases h3 with h3|h3
      · rcases h4.2.2 with h|h
        · left;rw [h3,h]
        · right;rw [h3,h];simp
      · right;simp [h3]
theorem fo_mn {xs : List Int} (hx : xs ≠ []) : (∀ y ∈ xs,fo mn2 xs ≤ y) ∧ fo mn2 xs ∈ xs:=by
  cases xs with
  | nil=>exact absurd rfl hx
  | cons x t =>
    obtain ⟨h1,h2,h3⟩:=fold_mn t x
    refine ⟨fun y hy=>?_,?_⟩
    · rcases List.mem_cons.1 hy with rfl|hy
      · exact h1
      · exact h2 y hy
    · rcases h3 with h3|h3
      · show t.foldl mn2 x ∈ _;rw [h3];simp
      · exact List.mem_cons_of_mem _ h3
theorem fo_mx {xs : List Int} (hx : xs ≠ []) : (∀ y ∈ xs,y ≤ fo mx2 xs) ∧ fo mx2 xs ∈ xs:=by
  cases xs with
  | nil=>exact absurd rfl hx
  | cons x t =>
    obtain ⟨h1,h2,h3⟩:=fold_mx t x
    refine ⟨fun y hy=>?_,?_⟩
    · rcases List.mem_cons.1 hy with rfl|hy
      · exact h1
      · exact h2 y hy
    · rcases h3 with h3|h3
      · show t.foldl mx2 x ∈ _;rw [h3];simp
      · exact List.mem_cons_of_mem _ h3
theorem fo_take {h : Int → Int → Int} {xs : List Int} {k : Nat} (hk : k + 1 < xs.length) : fo h (xs.take (k + 1 + 1)) = h (fo h (xs.take (k + 1))) xs[k + 1]:=by
  rw [List.take_add_one (i:=k + 1),List.getElem?_eq_getElem hk]
  exact fo_snoc h (by cases xs<;>simp at hk ⊢) _
theorem min_ex {xs : List Int} (hx : xs ≠ []) (hl : xs.length < 2 ^ 62) : slices_Min_int_int xs = some (fo mn2 xs):=by
  have hpos : 0 < xs.length:=List.length_pos_iff.2 hx
  unfold slices_Min_int_int
  rw [if_neg (by simp only [decide_eq_true_eq];omega),show (0 : Int) = ((0 : Nat) : Int) from rfl,getI_lt' hpos,Option.bind_some]
  have hr:=run_count (step:=slices_Min_int_int_l1 xs) (e:=fo mn2 xs) (fun k=>(fo mn2 (xs.take (k + 1)),((k + 1 : Nat) : Int))) (n:=xs.length - 1) (fun k hk=>by
    dsimp only [slices_Min_int_int_l1]
    rw [if_pos (by simp only [decide_eq_true_eq];omega),getI_lt' (show k + 1 < xs.length by omega),Option.bind_some,fo_take (by omega),wsucc (k:=k + 1) (n:=k + 1) (Nat.le_refl _) (by omega)]
    rfl) (by
    dsimp only [slices_Min_int_int_l1]
    rw [if_neg (by simp only [decide_eq_true_eq];omega),show xs.length - 1 + 1 = xs.length by omega,List.take_length])
  have e0 : fo mn2 (xs.take (0 + 1)) = xs[0]:=by cases xs with
    | nil=>exact absurd rfl hx
    | cons x t=>rfl
  rw [e0] at hr
  rw [show (1 : Int) = ((0 + 1 : Nat) : Int) from rfl,hr];rfl
theorem max_ex {xs : List Int} (hx : xs ≠ []) (hl : xs.length < 2 ^ 62) : slices_Max_int_int xs = some (fo mx2 xs):=by
  have hpos : 0 < xs.length:=List.length_pos_iff.2 hx
  unfold slices_Max_int_int
  rw [if_neg (by simp only [decide_eq_true_eq];omega),show (0 : Int) = ((0 : Nat) : Int) from rfl,getI_lt' hpos,Option.bind_some]
  have hr:=run_count (step:=slices_Max_int_int_l1 xs) (e:=fo mx2 xs) (fun k=>(fo mx2 (xs.take (k + 1)),((k + 1 : Nat) : Int))) (n:=xs.length - 1) (fun k hk=>by
    dsimp only [slices_Max_int_int_l1]
    rw [if_pos (by simp only [decide_eq_true_eq];omega),getI_lt' (show k + 1 < xs.length by omega),Option.bind_some,fo_take (by omega),wsucc (k:=k + 1) (n:=k + 1) (Nat.le_refl _) (by omega)]
    rfl) (by
    dsimp only [slices_Max_int_int_l1]
    rw [if_neg (by simp only [decide_eq_true_eq];omega),show xs.length - 1 + 1 = xs.length by omega,List.take_length])
  have e0 : fo mx2 (xs.take (0 + 1)) = xs[0]:=by cases xs with
    | nil=>exact absurd rfl hx
    | cons x t=>rfl
  rw [e0] at hr
  rw [show (1 : Int) = ((0 + 1 : Nat) : Int) from rfl,hr];rfl
/-! ### the ends of a part -/
section
variable {g d s1 s2 N N2 : Int}
end
end Go.Rex

open Go Go.Rex
namespace Go.Rex
set_option maxRecDepth 100000
/-! ### pressure,ends,size and energy of a right array at a right seat -/
section
variable {u v a b c : Int} {l : List Spk}
/-! sizes -/
end
end Go.Rex

open Go Go.Rex
namespace Go.Rex
set_option maxRecDepth 100000
/-! ### aligned arrays,and what is told of floats -/
section
variable {u v a b c : Int} {l : List Spk}
end
end Go.Rex

open Go Go.Rex
namespace Go.Rex
set_option maxRecDepth 100000
/-! ### parts of a number -/
/-! ### a list changed one after the other -/
def mp {α : Type} (f : α → α) (l : List α) (k : Nat) : List α:=(l.take k).map f ++ l.drop k
/-! ### arrays with other gains and Delays -/
section
variable {u v a b c : Int} {l : List Spk}
end
def later (s : Spk) : Spk:=(s.1,s.2.1,s.2.2.1,s.2.2.2.1,s.2.2.2.2 + 1)
end Go.Rex

open Go Go.Rex
namespace Go.Rex
set_option maxRecDepth 100000
/-! ### aligned -/
theorem firstOf_some {ε : Type} {p : Nat → Option ε} {n : Nat} {e : ε} (h : firstOf p n = some e) : ∃ m,m < n ∧ p m = some e ∧ ∀ j,j < m → p j = none:=by
  induction n with
  | zero=>simp [firstOf] at h
  | succ n ih =>
    rw [firstOf_succ] at h
    cases hn : firstOf p n with
    | none=>rw [hn] at h;exact ⟨n,by omega,h,firstOf_none.1 hn⟩
    | some e' =>
      rw [hn] at h;cases h
      obtain ⟨m,h1,h2,h3⟩:=ih hn
      exact ⟨m,by omega,h2,h3⟩
section
variable {u v a b c : Int} {l : List Spk}
end
end Go.Rex

open Go Go.Rex
namespace Go.Rex
/-! ### greatest common divisors,and comparing fractions -/
theorem tmod_emod {x y : Int} (hy : 0 < y) : x.tmod y = if x.tmod y < 0 then x % y - y else x % y:=by
  have h1:=Int.tmod_lt_of_pos x hy
  have h2 : -y < x.tmod y:=by
    have h3:=Int.natAbs_tmod x y
    have h4 : (x.tmod y).natAbs < y.natAbs:=by rw [h3];exact Nat.mod_lt _ (by omega)
    omega
  have hdm:=Int.tmod_add_mul_tdiv x y
  split
  · have : x % y = x.tmod y + y := by
      have e : x = (x.tmod y + y) + y * (x.tdiv y - 1):=by rw [Int.mul_sub,Int.mul_one];omega
      rw [e,Int.add_mul_emod_self_left,Int.emod_eq_of_lt (by omega) (by omega)]
      rw [← e]
    omega
  · have : x % y = x.tmod y := by
      conv=>lhs;rw [← hdm]
      rw [Int.add_mul_emod_self_left,Int.emod_eq_of_lt (by omega) (by omega)]
    omega
theorem tdiv_ediv {x y : Int} (hy : 0 < y) : x.tdiv y = if x.tmod y < 0 then x / y + 1 else x / y:=by
  have hdm:=Int.tmod_add_mul_tdiv x y
  have h1:=Int.emod_add_mul_ediv x y
  have h2:=tmod_emod (x:=x) hy
  refine Int.eq_of_mul_eq_mul_left (show y ≠ 0 by omega) ?_
  split
  · rename_i h
    rw [if_pos h] at h2
    rw [Int.mul_add,Int.mul_one]
    omega
  · rename_i h
    rw [if_neg h] at h2
    omega
theorem wneg {x : Int} (h : -9223372036854775807 ≤ x ∧ x ≤ 9223372036854775807) : IntKind.i64.wrap (0 - x) = -x:=by rw [w64 (by omega)];omega
theorem ediv_le {x y b : Int} (hy : 0 < y) (hb : 0 ≤ b) (h : -b ≤ x ∧ x ≤ b) : -b ≤ x / y ∧ x / y ≤ b:=by
  have h1:=Int.emod_add_mul_ediv x y
  have h2:=Int.emod_nonneg x (show y ≠ 0 by omega)
  have h3:=Int.emod_lt_of_pos x hy
  constructor
  · refine Int.le_ediv_of_mul_le hy ?_
    have : -b * y ≤ -b * 1:=Int.mul_le_mul_of_nonpos_left (by omega) (by omega)
    omega
  · refine Int.ediv_le_of_le_mul hy ?_
    have : b * 1 ≤ b * y:=Int.mul_le_mul_of_nonneg_left (by omega) hb
    omega
theorem bsize_eq {x : Int} (h : -9223372036854775807 ≤ x ∧ x ≤ 9223372036854775807) : base_Size x = some (x.natAbs : Int):=by
  unfold base_Size
  rw [wneg h]
  split<;>(congr 1;omega)
theorem bfloor_eq {x y : Int} (hy : 0 < y) (hx : -9223372036854775807 ≤ x ∧ x ≤ 9223372036854775807) : base_Floor x y = some (x / y):=by
  unfold base_Floor
  rw [if_neg (by omega)]
  have hb:=ediv_le (x:=x) (b:=9223372036854775807) hy (by omega) (by omega)
  have ht:=tdiv_ediv (x:=x) hy
  by_cases h : x.tmod y < 0
  · rw [if_pos h] at ht
    have hb2 : x < 0:=by
      rcases Int.lt_or_le x 0 with hx|hx
      · exact hx
      · have:=Int.tmod_nonneg y hx;omega
    have hb3 : x / y < 0:=Int.ediv_neg_of_neg_of_pos hb2 hy
    rw [if_pos (by simpa using h),ht,w64 (x:=x / y + 1) (by omega),w64 (by omega)]
    congr 1
    omega
  · rw [if_neg h] at ht
    rw [if_neg (by simpa using h),ht,w64 (by omega)]
theorem gcd_run : ∀ (n : Nat) (a b : Int),b.natAbs = n → ∃ r,run base_Gcd_l1 (a,b) = some r ∧ r.natAbs = Nat.gcd a.natAbs b.natAbs:=by
  intro n
  induction n using Nat.strongRecOn with
  | _ n ih =>
    intro a b hb
    by_cases h : b = 0
    · refine ⟨a,run_stop ?_,by subst h;simp⟩
      dsimp only [base_Gcd_l1]
      rw [if_neg (by simp [h])]
    · have h1 : base_Gcd_l1 (a, b) = some (.inl (b, a.tmod b)) := by
        dsimp only [base_Gcd_l1]
        rw [if_pos (by simpa using h),if_neg h]
      obtain ⟨r,hr,hg⟩:=ih (a.tmod b).natAbs (by rw [Int.natAbs_tmod,← hb];exact Nat.mod_lt _ (by omega)) b (a.tmod b) rfl
      refine ⟨r,by rw [run_next h1];exact hr,?_⟩
      rw [hg,Int.natAbs_tmod,Nat.gcd_comm,← Nat.gcd_rec,Nat.gcd_comm]
theorem gcd_eq {a b : Int} (ha : -9223372036854775807 ≤ a ∧ a ≤ 9223372036854775807) (hb : -9223372036854775807 ≤ b ∧ b ≤ 9223372036854775807) : base_Gcd a b = some ((Nat.gcd a.natAbs b.natAbs : Nat) : Int):=by
  obtain ⟨r,hr,hg⟩:=gcd_run b.natAbs a b rfl
  have hle : r.natAbs ≤ 9223372036854775807:=by
    rw [hg]
    by_cases h : b = 0
    · subst h
      rw [Int.natAbs_zero,Nat.gcd_zero_right]
      omega
    · have:=Nat.gcd_le_right a.natAbs (n:=b.natAbs) (by omega)
      omega
  unfold base_Gcd
  rw [hr,Option.bind_some,bsize_eq (by omega),hg]
  rfl
def sgn (z : Int) : Int:=if z < 0 then -1 else if z > 0 then 1 else 0
theorem bcmp_run : ∀ (s : Nat) (n d m k : Int),0 ≤ n ∧ n ≤ 4611686018427387904 → 0 < d ∧ d ≤ 4611686018427387904 → 0 ≤ m ∧ m ≤ 4611686018427387904 → 0 < k ∧ k ≤ 4611686018427387904 → d + k = s → run base_Compare_l1 (n,d,m,k) = some (sgn (n * k - m * d)):=by
  intro s
  induction s using Nat.strongRecOn with
  | _ s ih =>
    intro n d m k hn hd hm hk hs
    have e1:=Int.emod_add_mul_ediv n d
    have e2:=Int.emod_add_mul_ediv m k
    have r1:=Int.emod_nonneg n (show d ≠ 0 by omega)
    have r2:=Int.emod_lt_of_pos n hd.1
    have r3:=Int.emod_nonneg m (show k ≠ 0 by omega)
    have r4:=Int.emod_lt_of_pos m hk.1
    have p0 : 0 ≤ n / d:=Int.ediv_nonneg hn.1 (by omega)
    have q0 : 0 ≤ m / k:=Int.ediv_nonneg hm.1 (by omega)
    have d1 : d * (n / d) = n - n % d:=by omega
    have d2 : k * (m / k) = m - m % k:=by omega
    have step : base_Compare_l1 (n,d,m,k) = if decide (n / d < m / k) = true then some (.inr (-1)) else if decide (n / d > m / k) = true then some (.inr 1) else if decide (n % d = 0) = true then (if decide (m % k = 0) = true then some (.inr 0) else some (.inr (-1))) else if decide (m % k = 0) = true then some (.inr 1) else some (.inl (k,m % k,d,n % d)):=by
      dsimp only [base_Compare_l1]
      rw [bfloor_eq hd.1 (by omega),bfloor_eq hk.1 (by omega),Option.bind_some,Option.bind_some,Int.mul_comm (n / d) d,Int.mul_comm (m / k) k,d1,d2,w64 (x:=n - n % d) (by omega),w64 (x:=m - m % k) (by omega),w64 (x:=n - (n - n % d)) (by omega),w64 (x:=m - (m - m % k)) (by omega),show n - (n - n % d) = n % d by omega,show m - (m - m % k) = m % k by omega]
    have hz : n * k - m * d = d * k * (n / d - m / k) + (n % d * k - m % k * d):=by
      have h1 : n * k = d * k * (n / d) + n % d * k:=by
        conv=>lhs;rw [← e1]
        rw [Int.add_mul,Int.mul_right_comm,Int.add_comm]
      have h2 : m * d = d * k * (m / k) + m % k * d:=by
        conv=>lhs;rw [← e2]
        rw [Int.add_mul,Int.mul_right_comm,Int.add_comm,Int.mul_comm k d]
      rw [h1,h2,Int.mul_sub]
      omega
    have t1 : 0 ≤ n % d * k:=Int.mul_nonneg r1 (by omega)
    have t2 : 0 ≤ m % k * d:=Int.mul_nonneg r3 (by omega)
    have t3 : n % d * k < d * k:=Int.mul_lt_mul_of_pos_right r2 hk.1
    have t4 : m % k * d < d * k:=by rw [Int.mul_comm d k];exact Int.mul_lt_mul_of_pos_right r4 hd.1
    have t5 : 0 < d * k:=Int.mul_pos hd.1 hk.1
    by_cases c1 : n / d < m / k
    · rw [if_pos (by simpa using c1)] at step
      rw [run_stop step]
      have h : d * k * (n / d - m / k) ≤ d * k * (-1):=Int.mul_le_mul_of_nonneg_left (by omega) (by omega)
      unfold sgn
      rw [if_pos (by omega)]
    · rw [if_neg (by simpa using c1)] at step
      by_cases c2 : n / d > m / k
      · rw [if_pos (by simpa using c2)] at step
        rw [run_stop step]
        have h : d * k * 1 ≤ d * k * (n / d - m / k):=Int.mul_le_mul_of_nonneg_left (by omega) (by omega)
        unfold sgn
        rw [if_neg (by omega),if_pos (by omega)]
      · rw [if_neg (by simpa using c2)] at step
        have hz2 : n * k - m * d = n % d * k - m % k * d:=by
          rw [hz,show n / d - m / k = 0 by omega,Int.mul_zero,Int.zero_add]
        rw [hz2]
        by_cases c3 : n % d = 0
        · rw [if_pos (by simpa using c3)] at step
          by_cases c4 : m % k = 0
          · rw [if_pos (by simpa using c4)] at step
            rw [run_stop step,c3,c4]
            simp [sgn]
          · rw [if_neg (by simpa using c4)] at step
            have:=Int.mul_pos (show 0 < m % k by omega) hd.1
            rw [run_stop step,c3,Int.zero_mul]
            unfold sgn
            rw [if_pos (by omega)]
        · rw [if_neg (by simpa using c3)] at step
          have h5:=Int.mul_pos (show 0 < n % d by omega) hk.1
          by_cases c4 : m % k = 0
          · rw [if_pos (by simpa using c4)] at step
            rw [run_stop step,c4,Int.zero_mul]
            unfold sgn
            rw [if_neg (by omega),if_pos (by omega)]
          · rw [if_neg (by simpa using c4)] at step
            rw [run_next step,ih (m % k + n % d).toNat (by omega) k (m % k) d (n % d) (by omega) (by omega) (by omega) (by omega) (by omega),Int.mul_comm k,Int.mul_comm d]

theorem bcmp_eq {n d m k : Int} (hn : 0 ≤ n ∧ n ≤ 4611686018427387904) (hd : 0 < d ∧ d ≤ 4611686018427387904) (hm : 0 ≤ m ∧ m ≤ 4611686018427387904) (hk : 0 < k ∧ k ≤ 4611686018427387904) : base_Compare n d m k = some (sgn (n * k - m * d)):=by
  unfold base_Compare
  rw [bcmp_run (d + k).toNat n d m k hn hd hm hk (by omega)]
  rfl
end Go.Rex

open Go Go.Rex
set_option maxRecDepth 100000
namespace Go.Rex
/-- the first number that is not within lo and hi -/
def outL (lo hi : Int) (l : List Int) (k : Nat) : Option Unit:=if lo ≤ l.getD k 0 ∧ l.getD k 0 ≤ hi then none else some ()
def inL (lo hi : Int) (l : List Int) : Prop:=∀ k,k < l.length → lo ≤ l.getD k 0 ∧ l.getD k 0 ≤ hi
theorem outL_none {lo hi : Int} {l : List Int} : firstOf (outL lo hi l) l.length = none ↔ inL lo hi l:=by
  rw [firstOf_none]
  unfold outL inL
  constructor
  · intro h k hk
    have:=h k hk
    by_cases q : lo ≤ l.getD k 0 ∧ l.getD k 0 ≤ hi
    · exact q
    · rw [if_neg q] at this;cases this
  · intro h k hk
    rw [if_pos (h k hk)]
instance (lo hi : Int) (l : List Int) : Decidable (inL lo hi l):=decidable_of_iff _ outL_none
theorem getD_get {l : List Int} {k : Nat} (h : k < l.length) : getI l (k : Int) = some (l.getD k 0):=by
  rw [getI_nat,List.getD_eq_getElem?_getD,List.getElem?_eq_getElem h];rfl
theorem mapOf {ε δ : Type} (p : Nat → Option ε) (f : ε → δ) (n : Nat) : firstOf (fun k=>(p k).map f) n = (firstOf p n).map f:=by
  induction n with
  | zero=>rfl
  | succ n ih =>
    rw [firstOf_succ,firstOf_succ,ih]
    cases firstOf p n<;>rfl
theorem each_in (lo hi : Int) (l : List Int) (hl : l.length ≤ 1000) : array_each_c1_6239 (l.length : Int) l lo hi = some (if inL lo hi l then 0 else 2):=by
  unfold array_each_c1_6239
  have h:=run_find (step:=array_each_c1_6239_l1 (l.length : Int) l lo hi) (n:=l.length) (r:=()) (p:=fun k=>(outL lo hi l k).map fun _=>(2 : Int)) (fun k hk _=>by
    dsimp only [array_each_c1_6239_l1]
    rw [if_pos (by simpa using hk)]
    unfold array_allWithin_c1_ea58
    rw [getD_get hk,Option.bind_some,awithin_eq,Option.bind_some]
    dsimp only
    rw [arefuse1]
    simp only [Option.bind_some]
    unfold outL
    by_cases q : lo ≤ l.getD k 0 ∧ l.getD k 0 ≤ hi
    · rw [if_pos q,decide_eq_true q]
      simp only [Bool.not_true,Bool.false_eq_true,if_false,ne_eq,not_true_eq_false,decide_false]
      rw [w64 (by omega)];rfl
    · rw [if_neg q,decide_eq_false q];rfl) (fun _=>by
    dsimp only [array_each_c1_6239_l1]
    rw [if_neg (by simp)])
  rw [h,mapOf]
  by_cases q : inL lo hi l
  · rw [if_pos q,outL_none.2 q];rfl
  · rw [if_neg q]
    cases e : firstOf (outL lo hi l) l.length with
    | none=>exact absurd (outL_none.1 e) q
    | some _=>rfl
theorem rin_eq (hi : Int) (l : List Int) (hl : l.length ≤ 1000) : ref07_within l hi = some (decide (inL 0 hi l)):=by
  unfold ref07_within
  have h:=run_find (step:=ref07_within_l1 l hi) (n:=l.length) (r:=()) (p:=outL 0 hi l) (fun k hk _=>by
    dsimp only [ref07_within_l1]
    rw [if_pos (by simpa using hk),getD_get hk,Option.bind_some,bwithin]
    unfold outL
    by_cases q : 0 ≤ l.getD k 0 ∧ l.getD k 0 ≤ hi
    · rw [if_pos q,if_pos q,if_pos rfl,w64 (by omega)];rfl
    · rw [if_neg q,if_neg q,if_neg (by simp)]) (fun _=>by
    dsimp only [ref07_within_l1]
    rw [if_neg (by simp)])
  rw [h]
  by_cases q : inL 0 hi l
  · rw [outL_none.2 q,decide_eq_true q];rfl
  · rw [decide_eq_false q]
    cases e : firstOf (outL 0 hi l) l.length with
    | none=>exact absurd (outL_none.1 e) q
    | some _=>rfl
/-- what is wrong with a row -/
def badR (m : Nat) (t : List (List Int)) (k : Nat) : Option Int:=if (t.getD k []).length ≠ m then some 10 else if inL 0 100 (t.getD k []) then none else some 2
def tcV (t : List (List Int)) (c : Int) : Int :=
  if t.length = 0 then 10 else if 4 < t.length then 8 else if (t.getD 0 []).length = 0 then 10 else if 3 < (t.getD 0 []).length then 8 else
    match firstOf (badR (t.getD 0 []).length t) t.length with
    | some e=>e
    | none=>if 0 ≤ c ∧ c ≤ 1000 then 0 else 2
theorem rowD {t : List (List Int)} {k : Nat} (h : k < t.length) : getI t (k : Int) = some (t.getD k []):=by
  rw [getI_nat,List.getD_eq_getElem?_getD,List.getElem?_eq_getElem h];rfl
theorem counted_ex (n : Nat) (b : Nat) : array_counted_c1_b585 (n : Int) (b : Int) = some (if n = 0 then 10 else if b < n then 8 else 0):=by
  unfold array_counted_c1_b585 array_firstError_751b array_refuse
  simp only [Option.bind_some,arefuse1]
  by_cases q1 : n = 0
  · simp [q1]
  · by_cases q2 : b < n
    · have : (n : Int) > b:=by omega
      simp [q1,q2,this]
    · have : ¬ ((n : Int) > b):=by omega
      simp [q1,q2,this]
theorem tc_prog (t : List (List Int)) (c : Int) (hr : ∀ k,(t.getD k []).length ≤ 1000) : array_task_check t c = some (tcV t c):=by
  unfold array_task_check array_counted array_each_3fc6 array_firstError_f6a9 tcV
  simp only [Option.bind_some,awithin_eq,arefuse1]
  rw [show (4 : Int) = ((4 : Nat) : Int) from rfl,counted_ex,Option.bind_some]
  by_cases q1 : t.length = 0
  · rw [if_pos q1,if_pos (by simp),if_pos q1];rfl
  rw [if_neg q1,if_neg q1]
  by_cases q2 : 4 < t.length
  · rw [if_pos q2,if_pos (by simp),if_pos q2];rfl
  rw [if_neg q2,if_neg q2,if_neg (by simp)]
  unfold array_task_check_c1_bdde array_task_columns array_counted
  have h0:=rowD (t:=t) (k:=0) (by omega)
  rw [show ((0 : Nat) : Int) = 0 from rfl] at h0
  simp only [h0,Option.bind_some]
  rw [show (3 : Int) = ((3 : Nat) : Int) from rfl,counted_ex,Option.bind_some]
  by_cases q3 : (t.getD 0 []).length = 0
  · rw [if_pos q3,Option.bind_some,if_pos (by simp),if_pos q3];rfl
  rw [if_neg q3,if_neg q3]
  by_cases q4 : 3 < (t.getD 0 []).length
  · rw [if_pos q4,Option.bind_some,if_pos (by simp),if_pos q4];rfl
  rw [if_neg q4,if_neg q4,Option.bind_some,if_neg (by simp)]
  unfold array_each_c1_a743
  have h:=run_find (step:=array_each_c1_a743_l1 (t.length : Int) t c) (n:=t.length) (r:=()) (p:=badR (t.getD 0 []).length t) (fun k hk _=>by
    dsimp only [array_each_c1_a743_l1]
    rw [if_pos (by simpa using hk)]
    unfold array_task_check_c2_a037 array_task_columns array_refuse array_allWithin array_each_aa71 array_firstError_d146
    rw [rowD hk,h0]
    simp only [Option.bind_some,arefuse1]
    unfold badR
    by_cases q : (t.getD k []).length ≠ (t.getD 0 []).length
    · have : (((t.getD k []).length : Int) ≠ ((t.getD 0 []).length : Int)):=by omega
      rw [if_pos q,decide_eq_true this];rfl
    · have hq : ¬ (((t.getD k []).length : Int) ≠ ((t.getD 0 []).length : Int)):=by omega
      rw [if_neg q,decide_eq_false hq]
      simp only [Bool.false_eq_true,if_false,ne_eq,not_true_eq_false,decide_false]
      rw [each_in _ _ _ (hr k),Option.bind_some]
      by_cases q' : inL 0 100 (t.getD k [])
      · rw [if_pos q',if_pos q']
        simp only [not_true_eq_false,decide_false,Bool.false_eq_true,if_false,Option.bind_some]
        rw [w64 (by omega)];rfl
      · rw [if_neg q',if_neg q'];rfl) (fun _=>by
    dsimp only [array_each_c1_a743_l1]
    rw [if_neg (by simp)])
  rw [h]
  cases e : firstOf (badR (t.getD 0 []).length t) t.length with
  | none =>
    simp only [Option.bind_some]
    by_cases q : 0 ≤ c ∧ c ≤ 1000
    · simp [q]
    · simp [q]
  | some x =>
    simp only [Option.bind_some]
    obtain ⟨k,_,hk,_⟩:=firstOf_some e
    unfold badR at hk
    have : x ≠ 0:=by
      split at hk
      · cases hk;decide
      · split at hk
        · cases hk
        · cases hk;decide
    rw [if_pos (by simpa using this)];rfl
theorem tc_ref (t : List (List Int)) (c : Int) (hr : ∀ k,(t.getD k []).length ≤ 1000) : ref07_CheckTask t c = some (tcV t c):=by
  unfold ref07_CheckTask tcV
  by_cases q1 : t.length = 0
  · rw [if_pos (by simpa using q1),if_pos q1]
  rw [if_neg (by simpa using q1),if_neg q1]
  by_cases q2 : 4 < t.length
  · rw [if_pos (by simp;omega),if_pos q2]
  rw [if_neg (by simp;omega),if_neg q2]
  have h0:=rowD (t:=t) (k:=0) (by omega)
  rw [show ((0 : Nat) : Int) = 0 from rfl] at h0
  rw [h0,Option.bind_some]
  by_cases q3 : (t.getD 0 []).length = 0
  · rw [if_pos (by simpa using q3),if_pos q3]
  rw [if_neg (by simpa using q3),if_neg q3]
  by_cases q4 : 3 < (t.getD 0 []).length
  · have : ((t.getD 0 []).length : Int) > 3:=by omega
    rw [decide_eq_true this,if_pos rfl,if_pos q4]
  have hq4 : ¬ ((t.getD 0 []).length : Int) > 3:=by omega
  rw [decide_eq_false hq4,if_neg (by simp),if_neg q4]
  have h:=run_find (step:=ref07_CheckTask_l1 t (t.getD 0 [])) (n:=t.length) (r:=()) (p:=badR (t.getD 0 []).length t) (fun k hk _=>by
    dsimp only [ref07_CheckTask_l1]
    rw [if_pos (by simpa using hk),rowD hk,Option.bind_some]
    unfold badR
    by_cases q : (t.getD k []).length ≠ (t.getD 0 []).length
    · have : (((t.getD k []).length : Int) ≠ ((t.getD 0 []).length : Int)):=by omega
      rw [if_pos q,decide_eq_true this];rfl
    have hq : ¬ (((t.getD k []).length : Int) ≠ ((t.getD 0 []).length : Int)):=by omega
    rw [if_neg q,decide_eq_false hq,if_neg (by simp)]
    generalize ht : t.getD k [] = w
    have hw : w.length ≤ 1000:=by rw [← ht];exact hr k
    have h2:=run_find (step:=ref07_CheckTask_l2 w) (n:=w.length) (r:=()) (p:=outL 0 100 w) (fun j hj _=>by
      dsimp only [ref07_CheckTask_l2]
      rw [if_pos (by simpa using hj),getD_get hj,Option.bind_some,bwithin]
      unfold outL
      by_cases q : 0 ≤ w.getD j 0 ∧ w.getD j 0 ≤ 100
      · rw [if_pos q,if_pos q,if_pos rfl,w64 (by omega)];rfl
      · rw [if_neg q,if_neg q,if_neg (by simp)]) (fun _=>by
      dsimp only [ref07_CheckTask_l2]
      rw [if_neg (by simp)])
    rw [h2]
    by_cases q' : inL 0 100 w
    · rw [outL_none.2 q',if_pos q']
      simp only [Option.bind_some]
      rw [w64 (by omega)];rfl
    · rw [if_neg q']
      cases e : firstOf (outL 0 100 w) w.length with
      | none=>exact absurd (outL_none.1 e) q'
      | some _=>rfl) (fun _=>by
    dsimp only [ref07_CheckTask_l1]
    rw [if_neg (by simp)])
  rw [h]
  cases e : firstOf (badR (t.getD 0 []).length t) t.length with
  | none =>
    simp only [Option.bind_some]
    rw [bwithin]
    by_cases q : 0 ≤ c ∧ c ≤ 1000
    · rw [if_pos q,if_pos q,if_pos rfl]
    · rw [if_neg q,if_neg q,if_neg (by simp)]
  | some x=>rfl
end Go.Rex

open Go Go.Rex
set_option maxRecDepth 100000
namespace Go.Rex
/-! ### sums -/
def sig (f : Nat → Int) : Nat → Int
  | 0=>0
  | k + 1=>sig f k + f k
theorem sig_le {f g : Nat → Int} : ∀ {n : Nat},(∀ k,k < n → f k ≤ g k) → sig f n ≤ sig g n
  | 0,_=>Int.le_refl _
  | n + 1,h=>by
    have:=sig_le (n:=n) (fun k hk=>h k (by omega))
    have:=h n (by omega)
    simp only [sig];omega
theorem sig_congr {f g : Nat → Int} : ∀ {n : Nat},(∀ k,k < n → f k = g k) → sig f n = sig g n
  | 0,_=>rfl
  | n + 1,h=>by simp only [sig];rw [sig_congr (n:=n) (fun k hk=>h k (by omega)),h n (by omega)]
theorem sig_const (a : Int) : ∀ n : Nat,sig (fun _=>a) n = n * a
  | 0=>by simp [sig]
  | n + 1=>by simp only [sig];rw [sig_const a n,Int.natCast_add,Int.add_mul];omega
theorem sig_bd {f : Nat → Int} {n : Nat} {a b : Int} (h : ∀ k,k < n → a ≤ f k ∧ f k ≤ b) : (n : Int) * a ≤ sig f n ∧ sig f n ≤ n * b :=
  ⟨by rw [← sig_const];exact sig_le fun k hk=>(h k hk).1,by rw [← sig_const];exact sig_le fun k hk=>(h k hk).2⟩
theorem sig_add (f g : Nat → Int) : ∀ n,sig (fun k=>f k + g k) n = sig f n + sig g n
  | 0=>rfl
  | n + 1=>by simp only [sig];rw [sig_add f g n];omega
theorem sig_mul (a : Int) (f : Nat → Int) : ∀ n,sig (fun k=>a * f k) n = a * sig f n
  | 0=>by simp [sig]
  | n + 1=>by simp only [sig];rw [sig_mul a f n,Int.mul_add]
theorem sig_zero : ∀ n,sig (fun _=>0) n = 0
  | 0=>rfl
  | n + 1=>by simp only [sig];rw [sig_zero n];rfl
theorem sig_swap (f : Nat → Nat → Int) (m : Nat) : ∀ n,sig (fun j=>sig (f j) m) n = sig (fun k=>sig (fun j=>f j k) n) m
  | 0=>by simp only [sig];rw [sig_zero]
  | n + 1=>by simp only [sig];rw [sig_swap f m n,← sig_add]
/-! ### a task that is right -/
def at2 (t : List (List Int)) (j k : Nat) : Int:=(t.getD j []).getD k 0
structure TaskOk (t : List (List Int)) (c : Int) (m : Nat) : Prop where
  n0 : 0 < t.length
  n4 : t.length ≤ 4
  m0 : 0 < m
  m3 : m ≤ 3
  row : ∀ j,j < t.length → (t.getD j []).length = m
  num : ∀ j k,j < t.length → k < m → 0 ≤ at2 t j k ∧ at2 t j k ≤ 100
  cap : 0 ≤ c ∧ c ≤ 1000
theorem taskOk {t : List (List Int)} {c : Int} (h : tcV t c = 0) : TaskOk t c (t.getD 0 []).length:=by
  unfold tcV at h
  by_cases q1 : t.length = 0
  · rw [if_pos q1] at h;omega
  rw [if_neg q1] at h
  by_cases q2 : 4 < t.length
  · rw [if_pos q2] at h;omega
  rw [if_neg q2] at h
  by_cases q3 : (t.getD 0 []).length = 0
  · rw [if_pos q3] at h;omega
  rw [if_neg q3] at h
  by_cases q4 : 3 < (t.getD 0 []).length
  · rw [if_pos q4] at h;omega
  rw [if_neg q4] at h
  cases e : firstOf (badR (t.getD 0 []).length t) t.length with
  | some x =>
    rw [e] at h
    simp only at h
    obtain ⟨k,_,hk,_⟩:=firstOf_some e
    unfold badR at hk
    split at hk
    · cases hk;omega
    · split at hk
      · cases hk
      · cases hk;omega
  | none =>
    rw [e] at h
    simp only at h
    have hb:=firstOf_none.1 e
    have hr : ∀ j,j < t.length → (t.getD j []).length = (t.getD 0 []).length ∧ inL 0 100 (t.getD j []):=by
      intro j hj
      have:=hb j hj
      unfold badR at this
      by_cases q : (t.getD j []).length ≠ (t.getD 0 []).length
      · rw [if_pos q] at this;cases this
      · rw [if_neg q] at this
        by_cases q' : inL 0 100 (t.getD j [])
        · exact ⟨Decidable.not_not.1 q,q'⟩
        · rw [if_neg q'] at this;cases this
    refine ⟨Nat.pos_of_ne_zero q1,by omega,Nat.pos_of_ne_zero q3,by omega,fun j hj=>(hr j hj).1,fun j k hj hk=>?_,?_⟩
    · exact (hr j hj).2 k (by rw [(hr j hj).1];exact hk)
    · by_cases q : 0 ≤ c ∧ c ≤ 1000
      · exact q
      · rw [if_neg q] at h;omega
/-! ### what every seat gets -/
def gt (t : List (List Int)) (o : List Int) (m : Nat) (j : Nat) : Int:=sig (fun k=>at2 t j k * o.getD k 0) m
def gtL (t : List (List Int)) (o : List Int) (m : Nat) : List Int:=(List.range t.length).map (gt t o m)
section
variable {t : List (List Int)} {c : Int} {m : Nat} (T : TaskOk t c m) {d : Int} {o : List Int} (hd : 1 ≤ d ∧ d ≤ 1000000000000) (hm : o.length = m) (ho : inL 0 d o)
include T hd hm ho
theorem term_bd {j k : Nat} (hj : j < t.length) (hk : k < m) : 0 ≤ at2 t j k * o.getD k 0 ∧ at2 t j k * o.getD k 0 ≤ 100000000000000:=by
  have h1:=T.num j k hj hk
  have h2:=ho k (by omega)
  refine ⟨Int.mul_nonneg h1.1 h2.1,?_⟩
  have:=Int.mul_le_mul h1.2 (show o.getD k 0 ≤ 1000000000000 by omega) h2.1 (by omega)
  omega
theorem part_bd {j k : Nat} (hj : j < t.length) (hk : k ≤ m) : 0 ≤ sig (fun k=>at2 t j k * o.getD k 0) k ∧ sig (fun k=>at2 t j k * o.getD k 0) k ≤ 300000000000000:=by
  have h:=sig_bd (f:=fun k=>at2 t j k * o.getD k 0) (n:=k) (a:=0) (b:=100000000000000) (fun q hq=>term_bd T hd hm ho hj (by omega))
  have:=T.m3
  omega
theorem gt_bd {j : Nat} (hj : j < t.length) : 0 ≤ gt t o m j ∧ gt t o m j ≤ 300000000000000:=part_bd T hd hm ho hj (Nat.le_refl _)
theorem products_ex {j : Nat} (hj : j < t.length) : array_products (t.getD j []) o = some (gt t o m j):=by
  unfold array_products
  have hr:=run_count (step:=array_products_l1 (t.getD j []) o) (e:=gt t o m j) (fun k=>(sig (fun k=>at2 t j k * o.getD k 0) k,(k : Int))) (n:=m) (fun k hk=>by
    have b1:=term_bd T hd hm ho hj hk
    have b2:=part_bd T hd hm ho hj (show k + 1 ≤ m by omega)
    dsimp only [array_products_l1]
    rw [decide_eq_true (show ((k : Int) < ((t.getD j []).length : Int)) by rw [T.row j hj];omega),if_pos rfl,getD_get (show k < (t.getD j []).length by rw [T.row j hj];omega),Option.bind_some,getD_get (show k < o.length by omega),Option.bind_some]
    unfold at2 at b1 b2
    simp only [sig] at b2
    rw [w64 (x:=(t.getD j []).getD k 0 * o.getD k 0) (by omega)]
    simp only [sig,at2]
    rw [w64 (by omega),wsucc (k:=k) (n:=m) (by omega) (by have:=T.m3;omega)]) (by
    dsimp only [array_products_l1]
    rw [decide_eq_false (show ¬ ((m : Int) < ((t.getD j []).length : Int)) by rw [T.row j hj];omega)]
    rfl)
  simp only [sig] at hr
  rw [show ((0 : Int),(0 : Int)) = (0,((0 : Nat) : Int)) from rfl,hr];rfl
theorem gets_ex : array_task_gets t c d o = some (gtL t o m):=by
  unfold array_task_gets
  have hr:=run_count (step:=array_task_gets_l1 t o) (e:=gtL t o m) (fun k=>((List.range k).map (gt t o m),(k : Int))) (n:=t.length) (fun k hk=>by
    dsimp only [array_task_gets_l1]
    rw [decide_eq_true (show ((k : Int) < (t.length : Int)) by omega),if_pos rfl,rowD hk,Option.bind_some,products_ex T hd hm ho hk,Option.bind_some,appI_one (by simp;have:=T.n4;omega) (by omega),Option.bind_some,wsucc (k:=k) (n:=t.length) (by omega) (by have:=T.n4;omega),List.range_succ,List.map_append]
    rfl) (by
    dsimp only [array_task_gets_l1]
    rw [decide_eq_false (by omega)]
    rfl)
  rw [show (([] : List Int),(0 : Int)) = ((List.range 0).map (gt t o m),((0 : Nat) : Int)) from rfl,hr];rfl
theorem inner_ref {j : Nat} (hj : j < t.length) : run (ref07_CheckOpen_l2 t o (j : Int)) (0,0) = some (gt t o m j):=by
  have hr:=run_count (step:=ref07_CheckOpen_l2 t o (j : Int)) (e:=gt t o m j) (fun k=>(sig (fun k=>at2 t j k * o.getD k 0) k,(k : Int))) (n:=m) (fun k hk=>by
    have b1:=term_bd T hd hm ho hj hk
    have b2:=part_bd T hd hm ho hj (show k + 1 ≤ m by omega)
    dsimp only [ref07_CheckOpen_l2]
    rw [decide_eq_true (show ((k : Int) < (o.length : Int)) by omega),if_pos rfl,rowD hj,Option.bind_some,getD_get (show k < (t.getD j []).length by rw [T.row j hj];omega),Option.bind_some,getD_get (show k < o.length by omega),Option.bind_some]
    unfold at2 at b1 b2
    simp only [sig] at b2
    rw [w64 (x:=(t.getD j []).getD k 0 * o.getD k 0) (by omega)]
    simp only [sig,at2]
    rw [w64 (by omega),wsucc (k:=k) (n:=m) (by omega) (by have:=T.m3;omega)]) (by
    dsimp only [ref07_CheckOpen_l2]
    rw [decide_eq_false (by omega)]
    rfl)
  exact hr
end
theorem gtL_len (t : List (List Int)) (o : List Int) (m : Nat) : (gtL t o m).length = t.length:=by unfold gtL;simp
theorem gtL_mem {t : List (List Int)} {o : List Int} {m : Nat} {x : Int} : x ∈ gtL t o m ↔ ∃ j,j < t.length ∧ gt t o m j = x:=by unfold gtL;simp
theorem gtL_ne {t : List (List Int)} {o : List Int} {m : Nat} (h : 0 < t.length) : gtL t o m ≠ []:=by
  intro e;have:=gtL_len t o m;rw [e] at this;simp at this;omega
noncomputable def least (t : List (List Int)) (o : List Int) (m : Nat) : Int:=fo mn2 (gtL t o m)
def badG (t : List (List Int)) (o : List Int) (m : Nat) (b : Int) (j : Nat) : Option Unit:=if gt t o m j > b then some () else none
/-- in lowest terms -/
def low1 (a b : Int) : Int:=a / ((Nat.gcd a.natAbs b.natAbs : Nat) : Int)
def low2 (a b : Int) : Int:=b / ((Nat.gcd a.natAbs b.natAbs : Nat) : Int)
noncomputable def opV (t : List (List Int)) (c : Int) (m : Nat) (d : Int) (o : List Int) : Int × Int × Int :=
  if ¬ (1 ≤ d ∧ d ≤ 1000000000000) then (0,0,2) else if o.length ≠ m then (0,0,10) else if ¬ inL 0 d o then (0,0,2) else
    match firstOf (badG t o m (c * d)) t.length with
    | some _=>(0,0,24)
    | none=>(low1 (least t o m) d,low2 (least t o m) d,0)
theorem gcdpos {a b : Int} (hb : 0 < b) : 0 < Nat.gcd a.natAbs b.natAbs:=Nat.gcd_pos_of_pos_right _ (by omega)
theorem tdg {a b : Int} (ha : 0 ≤ a) (hb : 0 < b) : a.tdiv ((Nat.gcd a.natAbs b.natAbs : Nat) : Int) = low1 a b ∧ b.tdiv ((Nat.gcd a.natAbs b.natAbs : Nat) : Int) = low2 a b:=by
  unfold low1 low2
  exact ⟨Int.tdiv_eq_ediv_of_nonneg ha,Int.tdiv_eq_ediv_of_nonneg (by omega)⟩
theorem low_bd {a b : Int} (ha : 0 ≤ a ∧ a ≤ 4611686018427387904) (hb : 0 < b ∧ b ≤ 4611686018427387904) : (0 ≤ low1 a b ∧ low1 a b ≤ a) ∧ (0 < low2 a b ∧ low2 a b ≤ b) ∧ ∃ g : Int,0 < g ∧ a = g * low1 a b ∧ b = g * low2 a b:=by
  have hg:=gcdpos (a:=a) hb.1
  have d1 : ((Nat.gcd a.natAbs b.natAbs : Nat) : Int) ∣ a:=by have:=Nat.gcd_dvd_left a.natAbs b.natAbs;exact Int.ofNat_dvd_left.2 this
  have d2 : ((Nat.gcd a.natAbs b.natAbs : Nat) : Int) ∣ b:=by have:=Nat.gcd_dvd_right a.natAbs b.natAbs;exact Int.ofNat_dvd_left.2 this
  have e1 : a = ((Nat.gcd a.natAbs b.natAbs : Nat) : Int) * low1 a b:=(Int.mul_ediv_cancel' d1).symm
  have e2 : b = ((Nat.gcd a.natAbs b.natAbs : Nat) : Int) * low2 a b:=(Int.mul_ediv_cancel' d2).symm
  have hg' : (1 : Int) ≤ ((Nat.gcd a.natAbs b.natAbs : Nat) : Int):=by omega
  have p1 : 0 ≤ low1 a b:=Int.ediv_nonneg ha.1 (by omega)
  have p2 : 0 ≤ low2 a b:=Int.ediv_nonneg (by omega) (by omega)
  refine ⟨⟨p1,?_⟩,⟨?_,?_⟩,_,hg',e1,e2⟩
  · exact Int.ediv_le_self _ ha.1
  · rcases Int.lt_or_eq_of_le p2 with h|h
    · exact h
    · rw [← h] at e2;simp at e2;omega
  · exact Int.ediv_le_self _ (by omega)
theorem gcd_nn : ∀ (n : Nat) (a b : Int),0 ≤ a → 0 ≤ b → b.natAbs = n → run base_Gcd_l1 (a,b) = some ((Nat.gcd a.natAbs b.natAbs : Nat) : Int):=by
  intro n
  induction n using Nat.strongRecOn with
  | _ n ih =>
    intro a b ha hb hn
    by_cases h : b = 0
    · subst h
      rw [Int.natAbs_zero,Nat.gcd_zero_right,Int.natAbs_of_nonneg ha]
      refine run_stop ?_
      dsimp only [base_Gcd_l1]
      rw [if_neg (by simp)]
    · have h1 : base_Gcd_l1 (a, b) = some (.inl (b, a.tmod b)) := by
        dsimp only [base_Gcd_l1]
        rw [if_pos (by simpa using h),if_neg h]
      rw [run_next h1,ih (a.tmod b).natAbs (by rw [Int.natAbs_tmod,← hn];exact Nat.mod_lt _ (by omega)) b (a.tmod b) hb (Int.tmod_nonneg _ ha) rfl,Int.natAbs_tmod,Nat.gcd_comm,← Nat.gcd_rec,Nat.gcd_comm]
theorem lowP {a b : Int} (ha : 0 ≤ a ∧ a ≤ 4611686018427387904) (hb : 0 < b ∧ b ≤ 4611686018427387904) : array_fraction_lowest a b = some (low1 a b,low2 a b):=by
  unfold array_fraction_lowest
  have e : array_fraction_lowest_l1 = base_Gcd_l1:=rfl
  have hb':=low_bd ha hb
  have hg:=gcdpos (a:=a) hb.1
  rw [e,gcd_nn _ b a (by omega) ha.1 rfl,Nat.gcd_comm,Option.bind_some,if_neg (by omega),(tdg ha.1 hb.1).1,(tdg ha.1 hb.1).2,w64 (by omega),w64 (by omega)]
theorem lowR {a b : Int} (ha : 0 ≤ a ∧ a ≤ 4611686018427387904) (hb : 0 < b ∧ b ≤ 4611686018427387904) : ref07_two a b = some (low1 a b,low2 a b):=by
  unfold ref07_two base_Lowest
  have hb':=low_bd ha hb
  have hg:=gcdpos (a:=a) hb.1
  rw [gcd_eq (by omega) (by omega),Option.bind_some,if_neg (by simp;omega),if_neg (by omega),(tdg ha.1 hb.1).1,(tdg ha.1 hb.1).2,w64 (by omega),w64 (by omega)]
  rfl
section
variable {t : List (List Int)} {c : Int} {m : Nat} (T : TaskOk t c m) {d : Int} {o : List Int} (hd : 1 ≤ d ∧ d ≤ 1000000000000) (hm : o.length = m) (ho : inL 0 d o)
include T hd hm ho
theorem least_bd : (∀ j,j < t.length → least t o m ≤ gt t o m j) ∧ 0 ≤ least t o m ∧ least t o m ≤ 300000000000000:=by
  obtain ⟨h1,h2⟩:=fo_mn (gtL_ne (o:=o) (m:=m) T.n0)
  refine ⟨fun j hj=>h1 _ (gtL_mem.2 ⟨j,hj,rfl⟩),?_⟩
  obtain ⟨j,hj,e⟩:=gtL_mem.1 h2
  have:=gt_bd T hd hm ho hj
  unfold least;omega
omit hd hm ho in
theorem bad_max (b : Int) : (fo mx2 (gtL t o m) > b) ↔ firstOf (badG t o m b) t.length ≠ none:=by
  obtain ⟨h1,h2⟩:=fo_mx (gtL_ne (o:=o) (m:=m) T.n0)
  constructor
  · intro h e
    have:=firstOf_none.1 e
    obtain ⟨j,hj,e'⟩:=gtL_mem.1 h2
    have:=this j hj
    unfold badG at this
    rw [if_pos (by omega)] at this
    cases this
  · intro h
    refine Decidable.byContradiction fun hc=>h (firstOf_none.2 fun j hj=>?_)
    have:=h1 _ (gtL_mem.2 ⟨j,hj,rfl⟩)
    unfold badG
    rw [if_neg (by omega)]
end
theorem cd_bd {t : List (List Int)} {c d : Int} {m : Nat} (T : TaskOk t c m) (hd : 1 ≤ d ∧ d ≤ 1000000000000) : 0 ≤ c * d ∧ c * d ≤ 1000000000000000:=by
  refine ⟨Int.mul_nonneg T.cap.1 (by omega),?_⟩
  have:=Int.mul_le_mul T.cap.2 hd.2 (by omega) (by omega)
  omega
theorem open_prog {t : List (List Int)} {c : Int} {m : Nat} (T : TaskOk t c m) (hc : tcV t c = 0) (d : Int) (o : List Int) (hl : o.length ≤ 1000) : array_CheckOpen t c d o = some (opV t c m d o):=by
  have hn:=T.n0
  have hm3:=T.m3
  have hr : ∀ k,(t.getD k []).length ≤ 1000:=by
    intro k
    by_cases h : k < t.length
    · rw [T.row k h];omega
    · rw [List.getD_eq_getElem?_getD,List.getElem?_eq_none (by omega)];simp
  unfold array_CheckOpen array_task_opened array_firstError_e6a2
  rw [Option.bind_some,tc_prog t c hr]
  dsimp only
  rw [Option.bind_some,hc,if_neg (by simp)]
  unfold array_task_opened_c1_30d5 array_allWithin array_each_aa71 array_firstError_f7c3
  rw [awithin_eq]
  simp only [Option.bind_some,arefuse1]
  unfold opV
  by_cases q1 : 1 ≤ d ∧ d ≤ 1000000000000
  rotate_left
  · rw [if_pos q1,decide_eq_false q1];rfl
  rw [if_neg (not_not_intro q1),decide_eq_true q1]
  simp only [Bool.not_true,Bool.false_eq_true,if_false,ne_eq,not_true_eq_false,decide_false]
  unfold array_task_opened_c1_c1_30d5 array_task_columns array_refuse
  have h0:=rowD (t:=t) (k:=0) (by omega)
  rw [show ((0 : Nat) : Int) = 0 from rfl] at h0
  simp only [h0,Option.bind_some,arefuse1]
  have r0:=T.row 0 hn
  by_cases q2 : o.length = m
  rotate_left
  · have : ((o.length : Int) ≠ ((t.getD 0 []).length : Int)):=by rw [r0];omega
    rw [if_pos q2,decide_eq_true this];rfl
  have hq2 : ¬ ((o.length : Int) ≠ ((t.getD 0 []).length : Int)):=by rw [r0];omega
  rw [if_neg (not_not_intro q2),decide_eq_false hq2]
  simp only [Bool.false_eq_true,if_false,not_true_eq_false,decide_false]
  rw [each_in _ _ _ hl,Option.bind_some]
  by_cases q3 : inL 0 d o
  rotate_left
  · rw [if_pos q3,if_neg q3];rfl
  rw [if_pos q3,if_neg (not_not_intro q3)]
  simp only [not_true_eq_false,decide_false,Bool.false_eq_true,if_false]
  unfold array_task_opened_c1_c2_3b05
  rw [gets_ex T q1 q2 q3]
  simp only [Option.bind_some]
  have hlen : (gtL t o m).length < 2 ^ 62:=by rw [gtL_len];have:=T.n4;omega
  rw [max_ex (gtL_ne hn) hlen,min_ex (gtL_ne hn) hlen]
  have hcd:=cd_bd T q1
  simp only [Option.bind_some,array_refuse,arefuse1]
  rw [w64 (by omega)]
  cases e : firstOf (badG t o m (c * d)) t.length with
  | some x =>
    have:=(bad_max T (o:=o) (c * d)).2 (by rw [e];simp)
    rw [decide_eq_true this];rfl
  | none =>
    have : ¬ (fo mx2 (gtL t o m) > c * d):=fun h=>(bad_max T (o:=o) (c * d)).1 h e
    rw [decide_eq_false this]
    simp only [Bool.false_eq_true,if_false,not_true_eq_false,decide_false,Option.bind_some]
    have hb:=least_bd T q1 q2 q3
    have:=lowP (a:=least t o m) (b:=d) (by omega) (by omega)
    unfold least at this
    rw [this]
    rfl
end Go.Rex

open Go Go.Rex
set_option maxRecDepth 100000
namespace Go.Rex
/-! ### the least,one after the other -/
def mstep (b : Int) (y : Option Int) (x : Int) : Option Int ⊕ (Unit ⊕ Int):=if x > b then .inr (.inl ()) else .inl (some (match y with|none=>x|some y=>mn2 y x))
theorem walk_least (b : Int) : ∀ (l : List Int) (y : Option Int),walk (mstep b) (fun y=>.inr (y.getD 0)) y l = if (∃ x ∈ l,x > b) then .inl () else .inr ((match y with|none=>fo mn2 l|some y=>l.foldl mn2 y))
  | [],y=>by
    rw [if_neg (by simp)]
    cases y<;>rfl
  | x :: l,y=>by
    simp only [walk,mstep]
    by_cases q : x > b
    · rw [if_pos q,if_pos ⟨x,by simp,q⟩]
    · rw [if_neg q]
      simp only
      rw [walk_least b l]
      by_cases r : ∃ z ∈ l,z > b
      · obtain ⟨z,h1,h2⟩:=r
        rw [if_pos ⟨z,h1,h2⟩,if_pos ⟨z,by simp [h1],h2⟩]
      · rw [if_neg r,if_neg (by rintro ⟨z,h1,h2⟩;rcases List.mem_cons.1 h1 with rfl|h1;exact q h2;exact r ⟨z,h1,h2⟩)]
        cases y<;>rfl
theorem bad_ex {t : List (List Int)} {o : List Int} {m : Nat} {b : Int} : (∃ x ∈ gtL t o m,x > b) ↔ firstOf (badG t o m b) t.length ≠ none:=by
  constructor
  · rintro ⟨x,h1,h2⟩ e
    obtain ⟨j,hj,rfl⟩:=gtL_mem.1 h1
    have:=firstOf_none.1 e j hj
    unfold badG at this
    rw [if_pos h2] at this;cases this
  · intro h
    refine Decidable.byContradiction fun hc=>h (firstOf_none.2 fun j hj=>?_)
    unfold badG
    rw [if_neg (fun hq=>hc ⟨_,gtL_mem.2 ⟨j,hj,rfl⟩,hq⟩)]
theorem open_ref {t : List (List Int)} {c : Int} {m : Nat} (T : TaskOk t c m) (d : Int) (o : List Int) (hl : o.length ≤ 1000) : ref07_CheckOpen t c d o = some (opV t c m d o):=by
  have hn:=T.n0
  have hn4:=T.n4
  have hm3:=T.m3
  unfold ref07_CheckOpen opV
  rw [bwithin]
  by_cases q1 : 1 ≤ d ∧ d ≤ 1000000000000
  rotate_left
  · rw [if_neg q1,if_pos q1,if_neg (by simp)]
  rw [if_pos q1,if_pos rfl,if_neg (not_not_intro q1)]
  have h0:=rowD (t:=t) (k:=0) (by omega)
  rw [show ((0 : Nat) : Int) = 0 from rfl] at h0
  rw [h0,Option.bind_some]
  have r0:=T.row 0 hn
  by_cases q2 : o.length = m
  rotate_left
  · have : ((o.length : Int) ≠ ((t.getD 0 []).length : Int)):=by rw [r0];omega
    rw [if_pos q2,decide_eq_true this];rfl
  have hq2 : ¬ ((o.length : Int) ≠ ((t.getD 0 []).length : Int)):=by rw [r0];omega
  rw [if_neg (not_not_intro q2),decide_eq_false hq2,if_neg (by simp),rin_eq _ _ hl,Option.bind_some]
  by_cases q3 : inL 0 d o
  rotate_left
  · rw [if_pos q3,decide_eq_false q3];rfl
  rw [decide_eq_true q3,if_pos rfl,if_neg (not_not_intro q3)]
  have hcd:=cd_bd T q1
  have hw:=run_walk (step:=ref07_CheckOpen_l1 t c d o) (fun (k : Nat) (b : Option Int)=>(b.getD 0,(k : Int))) (mstep (c * d)) (fun y=>Sum.inr (y.getD 0)) (fun k b=>(k = 0 ↔ b = none)) (gtL t o m) (fun k x b hx hI=>by
    have hk : k < t.length:=by have:=(List.getElem?_eq_some_iff.1 hx).1;rw [gtL_len] at this;exact this
    have hxe : gt t o m k = x:=by
      unfold gtL at hx
      rw [List.getElem?_map,List.getElem?_range hk] at hx
      simpa using hx
    refine ⟨?_,fun b' hb'=>?_⟩
    · dsimp only [ref07_CheckOpen_l1]
      rw [decide_eq_true (show ((k : Int) < (t.length : Int)) by omega),if_pos rfl,inner_ref T q1 q2 q3 hk,Option.bind_some,hxe,w64 (by omega)]
      unfold mstep
      by_cases r : x > c * d
      · rw [decide_eq_true r,if_pos rfl,if_pos r]
      · rw [decide_eq_false r,if_neg (by simp),if_neg r]
        by_cases r0 : k = 0
        · subst r0
          have hb:=hI.1 rfl
          subst hb
          rfl
        · cases b with
          | none=>exact absurd (hI.2 rfl) r0
          | some y =>
            rw [if_neg (by simpa using r0),wsucc (k:=k) (n:=t.length) (by omega) (by omega)]
            unfold mn2
            dsimp only [Option.getD]
            by_cases r2 : x < y
            · rw [if_pos (by simpa using r2),if_pos r2]
            · rw [if_neg (by simpa using r2),if_neg r2]
    · unfold mstep at hb'
      split at hb'
      · cases hb'
      · cases hb';simp) (fun b hI=>by
    dsimp only [ref07_CheckOpen_l1]
    rw [gtL_len,decide_eq_false (by omega)]
    rfl) (b0:=none) (by simp)
  rw [show ((0 : Int),(0 : Int)) = (((none : Option Int).getD 0),((0 : Nat) : Int)) from rfl,hw,walk_least]
  have hb:=least_bd T q1 q2 q3
  have hlow:=lowR (a:=least t o m) (b:=d) (by omega) (by omega)
  cases e : firstOf (badG t o m (c * d)) t.length with
  | some x=>rw [if_pos (bad_ex.2 (by rw [e];simp))];rfl
  | none =>
    rw [if_neg (fun h=>bad_ex.1 h e)]
    simp only [Option.bind_some]
    unfold least at hlow
    rw [hlow]
    rfl
end Go.Rex

open Go Go.Rex
set_option maxRecDepth 100000
namespace Go.Rex
/-! ### weights -/
def cl1 (t : List (List Int)) (l h : List Int) (k j : Nat) : Int:=(l.getD j 0 - h.getD j 0) * at2 t j k
def colS (t : List (List Int)) (l h : List Int) (k n : Nat) : Int:=sig (cl1 t l h k) n
def lowS (l : List Int) (n : Nat) : Int:=sig (fun j=>l.getD j 0) n
def higS (c : Int) (h : List Int) (n : Nat) : Int:=sig (fun j=>h.getD j 0 * c) n
def bndS (c : Int) (h p : List Int) (n m : Nat) : Int:=higS c h n + lowS p m
def okWt (t : List (List Int)) (m : Nat) (W : Int) (l h p : List Int) : Prop:=lowS l t.length = W ∧ ∀ k,k < m → colS t l h k t.length ≤ p.getD k 0
def badC (t : List (List Int)) (l h p : List Int) (k : Nat) : Option Unit:=if p.getD k 0 < colS t l h k t.length then some () else none
theorem badC_none {t : List (List Int)} {l h p : List Int} {m : Nat} : firstOf (badC t l h p) m = none ↔ ∀ k,k < m → colS t l h k t.length ≤ p.getD k 0:=by
  rw [firstOf_none]
  unfold badC
  constructor
  · intro g k hk
    have:=g k hk
    by_cases q : p.getD k 0 < colS t l h k t.length
    · rw [if_pos q] at this;cases this
    · omega
  · intro g k hk
    rw [if_neg (by have:=g k hk;omega)]
noncomputable instance (t : List (List Int)) (m : Nat) (W : Int) (l h p : List Int) : Decidable (okWt t m W l h p):=Classical.propDecidable _
section
variable {t : List (List Int)} {c : Int} {m : Nat} (T : TaskOk t c m) {l h p : List Int} (hl : l.length = t.length) (hh : h.length = t.length) (hp : p.length = m) (il : inL 0 1000000000000 l) (ih : inL 0 1000000000000 h) (ip : inL 0 1000000000000 p)
include T hl hh hp il ih ip
theorem cl1_bd {j k : Nat} (hj : j < t.length) (hk : k < m) : -100000000000000 ≤ cl1 t l h k j ∧ cl1 t l h k j ≤ 100000000000000:=by
  have h1:=T.num j k hj hk
  have h2:=il j (by omega)
  have h3:=ih j (by omega)
  unfold cl1
  generalize at2 t j k = a at *
  generalize l.getD j 0 = x at *
  generalize h.getD j 0 = y at *
  have e1:=Int.mul_le_mul h2.2 h1.2 h1.1 (by omega)
  have e2:=Int.mul_le_mul h3.2 h1.2 h1.1 (by omega)
  have e3:=Int.mul_nonneg h2.1 h1.1
  have e4:=Int.mul_nonneg h3.1 h1.1
  rw [Int.sub_mul]
  omega
theorem col_bd {j k : Nat} (hj : j ≤ t.length) (hk : k < m) : -400000000000000 ≤ colS t l h k j ∧ colS t l h k j ≤ 400000000000000:=by
  have:=sig_bd (f:=cl1 t l h k) (n:=j) (a:=-100000000000000) (b:=100000000000000) (fun q hq=>cl1_bd T hl hh hp il ih ip (by omega) hk)
  have:=T.n4
  unfold colS
  omega
theorem low_bd' {j : Nat} (hj : j ≤ t.length) : 0 ≤ lowS l j ∧ lowS l j ≤ 4000000000000:=by
  have:=sig_bd (f:=fun j=>l.getD j 0) (n:=j) (a:=0) (b:=1000000000000) (fun q hq=>il q (by omega))
  have:=T.n4
  unfold lowS
  omega
theorem cap_bd {j : Nat} (hj : j ≤ m) : 0 ≤ lowS p j ∧ lowS p j ≤ 3000000000000:=by
  have:=sig_bd (f:=fun j=>p.getD j 0) (n:=j) (a:=0) (b:=1000000000000) (fun q hq=>ip q (by omega))
  have:=T.m3
  unfold lowS
  omega
theorem hi1_bd {j : Nat} (hj : j < t.length) : 0 ≤ h.getD j 0 * c ∧ h.getD j 0 * c ≤ 1000000000000000:=by
  have h3:=ih j (by omega)
  refine ⟨Int.mul_nonneg h3.1 T.cap.1,?_⟩
  have:=Int.mul_le_mul h3.2 T.cap.2 T.cap.1 (by omega)
  omega
theorem hig_bd {j : Nat} (hj : j ≤ t.length) : 0 ≤ higS c h j ∧ higS c h j ≤ 4000000000000000:=by
  have:=sig_bd (f:=fun j=>h.getD j 0 * c) (n:=j) (a:=0) (b:=1000000000000000) (fun q hq=>hi1_bd T hl hh hp il ih ip (by omega))
  have:=T.n4
  unfold higS
  omega
/-- the program's columns, row by row -/
theorem colrow {j : Nat} (hj : j < t.length) : run (array_task_proves_l2 h (j : Int) (t.getD j []) (l.getD j 0)) ((List.range m).map (fun k=>colS t l h k j),0) = some ((List.range m).map (fun k=>colS t l h k (j + 1))):=by
  have hm3:=T.m3
  have hr:=run_count (step:=array_task_proves_l2 h (j : Int) (t.getD j []) (l.getD j 0)) (e:=(List.range m).map (fun k=>colS t l h k (j + 1))) (fun i=>((List.range m).map (fun k=>if k < i then colS t l h k (j + 1) else colS t l h k j),(i : Int))) (n:=m) (fun i hi=>by
    have b1:=cl1_bd T hl hh hp il ih ip hj hi
    have b2:=col_bd T hl hh hp il ih ip (show j + 1 ≤ t.length by omega) hi
    have h2:=il j (by omega)
    have h3:=ih j (by omega)
    dsimp only [array_task_proves_l2]
    rw [decide_eq_true (show ((i : Int) < ((t.getD j []).length : Int)) by rw [T.row j hj];omega),if_pos rfl,getD_get (show i < (t.getD j []).length by rw [T.row j hj];omega),Option.bind_some]
    rw [getD_get (l:=(List.range m).map _) (show i < _ by simp;omega),Option.bind_some,getD_get (show j < h.length by omega),Option.bind_some]
    have hg : ((List.range m).map (fun k=>if k < i then colS t l h k (j + 1) else colS t l h k j)).getD i 0 = colS t l h i j:=by
      rw [List.getD_eq_getElem?_getD,List.getElem?_map,List.getElem?_range hi]
      simp
    have e1 : colS t l h i (j + 1) = colS t l h i j + (l.getD j 0 - h.getD j 0) * (t.getD j []).getD i 0:=rfl
    have e2 : cl1 t l h i j = (l.getD j 0 - h.getD j 0) * (t.getD j []).getD i 0:=rfl
    rw [hg,w64 (x:=l.getD j 0 - h.getD j 0) (by omega),w64 (x:=(l.getD j 0 - h.getD j 0) * (t.getD j []).getD i 0) (by omega),w64 (by omega),← e1,wsucc (k:=i) (n:=m) (by omega) (by omega),Int.toNat_natCast]
    congr 3
    apply List.ext_getElem?
    intro q
    rw [List.getElem?_set]
    by_cases hq : i = q
    · subst hq
      rw [if_pos rfl]
      simp [hi]
    · rw [if_neg hq]
      simp only [List.getElem?_map]
      by_cases hqm : q < m
      · rw [List.getElem?_range hqm]
        simp only [Option.map_some]
        by_cases r : q < i
        · rw [if_pos r,if_pos (by omega)]
        · rw [if_neg r,if_neg (by omega)]
      · rw [List.getElem?_eq_none (by simp;omega)];rfl) (by
    dsimp only [array_task_proves_l2]
    rw [T.row j hj,decide_eq_false (by omega)]
    simp only [Bool.false_eq_true,if_false]
    congr 2
    apply List.map_congr_left
    intro k hk
    rw [if_pos (by simpa using hk)])
  have e0 : (List.range m).map (fun k=>colS t l h k j) = (List.range m).map (fun k=>if k < 0 then colS t l h k (j + 1) else colS t l h k j):=by simp
  rw [e0]
  exact hr
theorem prows {W : Int} (hW : 1 ≤ W ∧ W ≤ 1000000000000) : run (array_task_proves_l1 t l h) (W - lowS l 0,(List.range m).map (fun k=>colS t l h k 0),((0 : Nat) : Int)) = some (W - lowS l t.length,(List.range m).map (fun k=>colS t l h k t.length)):=by
  have hn4:=T.n4
  have hm3:=T.m3
  have hr:=run_count (step:=array_task_proves_l1 t l h) (e:=(W - lowS l t.length,(List.range m).map (fun k=>colS t l h k t.length))) (fun j=>(W - lowS l j,(List.range m).map (fun k=>colS t l h k j),(j : Int))) (n:=t.length) (fun j hj=>by
    have b1:=low_bd' T hl hh hp il ih ip (show j + 1 ≤ t.length by omega)
    dsimp only [array_task_proves_l1]
    rw [decide_eq_true (show ((j : Int) < (t.length : Int)) by omega),if_pos rfl,rowD hj,Option.bind_some,getD_get (show j < l.length by omega),Option.bind_some,colrow T hl hh hp il ih ip hj,Option.bind_some]
    have e1 : lowS l (j + 1) = lowS l j + l.getD j 0:=rfl
    have b2:=low_bd' T hl hh hp il ih ip (show j ≤ t.length by omega)
    rw [w64 (by omega),wsucc (k:=j) (n:=t.length) (by omega) (by omega),e1,show W - lowS l j - l.getD j 0 = W - (lowS l j + l.getD j 0) by omega]) (by
    dsimp only [array_task_proves_l1]
    rw [decide_eq_false (by omega)]
    rfl)
  exact hr
theorem pscan : run (array_task_proves_l3 p ((List.range m).map (fun k=>colS t l h k t.length))) 0 = some (match firstOf (badC t l h p) m with|some e=>.inl e|none=>.inr ()):=by
  have hn4:=T.n4
  have hm3:=T.m3
  have h3:=run_find (step:=array_task_proves_l3 p ((List.range m).map (fun k=>colS t l h k t.length))) (n:=m) (r:=()) (p:=badC t l h p) (fun k hk _=>by
    dsimp only [array_task_proves_l3]
    rw [decide_eq_true (show ((k : Int) < (((List.range m).map (fun k=>colS t l h k t.length)).length : Int)) by simp;omega),if_pos rfl]
    rw [getD_get (l:=(List.range m).map _) (show k < _ by simp;omega),Option.bind_some,getD_get (show k < p.length by omega),Option.bind_some]
    have hg : ((List.range m).map (fun k=>colS t l h k t.length)).getD k 0 = colS t l h k t.length:=by
      rw [List.getD_eq_getElem?_getD,List.getElem?_map,List.getElem?_range hk]
      simp
    rw [hg]
    unfold badC
    by_cases q : p.getD k 0 < colS t l h k t.length
    · rw [if_pos q,decide_eq_true q];rfl
    · rw [if_neg q,decide_eq_false q,if_neg (by simp),wsucc (k:=k) (n:=m) (by omega) (by omega)]) (fun _=>by
    dsimp only [array_task_proves_l3]
    rw [decide_eq_false (by simp)]
    rfl)
  rw [h3]
  cases firstOf (badC t l h p) m<;>rfl
theorem proves_ex {W : Int} (hW : 1 ≤ W ∧ W ≤ 1000000000000) : array_task_proves t c W l h p = some (decide (okWt t m W l h p)):=by
  have hn4:=T.n4
  have hm3:=T.m3
  unfold array_task_proves array_task_columns
  have h0:=rowD (t:=t) (k:=0) T.n0
  rw [show ((0 : Nat) : Int) = 0 from rfl] at h0
  rw [h0,Option.bind_some,Option.bind_some]
  have hmk:=mkI_nat (n:=m) (show m ≤ 1048576 by omega)
  rw [T.row 0 T.n0,hmk,Option.bind_some]
  have e0 : ((List.replicate m (0 : Int)) = (List.range m).map (fun k=>colS t l h k 0)):=by
    apply List.ext_getElem?
    intro q
    by_cases hq : q < m
    · rw [List.getElem?_replicate,if_pos hq,List.getElem?_map,List.getElem?_range hq];rfl
    · rw [List.getElem?_eq_none (by simp;omega),List.getElem?_eq_none (by simp;omega)]
  have e1 : (W,List.replicate m (0 : Int),(0 : Int)) = (W - lowS l 0,(List.range m).map (fun k=>colS t l h k 0),((0 : Nat) : Int)):=by rw [e0];simp [lowS,sig]
  rw [e1,prows T hl hh hp il ih ip hW,Option.bind_some]
  dsimp only
  rw [pscan T hl hh hp il ih ip]
  cases e : firstOf (badC t l h p) m with
  | some x =>
    have : ¬ ∀ k,k < m → colS t l h k t.length ≤ p.getD k 0:=fun g=>by rw [badC_none.2 g] at e;cases e
    have hne : ¬ okWt t m W l h p:=fun g=>this g.2
    rw [decide_eq_false hne];rfl
  | none =>
    have:=badC_none.1 e
    show some (decide (W - lowS l t.length = 0)) = _
    by_cases q : lowS l t.length = W
    · rw [decide_eq_true (show W - lowS l t.length = 0 by omega),decide_eq_true (show okWt t m W l h p from ⟨q,this⟩)]
    · rw [decide_eq_false (show ¬ W - lowS l t.length = 0 by omega),decide_eq_false (show ¬ okWt t m W l h p from fun g=>q g.1)]
theorem bound_ex (W : Int) : array_task_bound t c W l h p = some (bndS c h p t.length m,W):=by
  have hn4:=T.n4
  have hm3:=T.m3
  unfold array_task_bound
  have hr:=run_count (step:=array_task_bound_l1 c h) (e:=higS c h t.length) (fun j=>(higS c h j,(j : Int))) (n:=t.length) (fun j hj=>by
    have b0:=hi1_bd T hl hh hp il ih ip hj
    have b1:=hig_bd T hl hh hp il ih ip (show j + 1 ≤ t.length by omega)
    have e1 : higS c h (j + 1) = higS c h j + h.getD j 0 * c:=rfl
    dsimp only [array_task_bound_l1]
    rw [decide_eq_true (show ((j : Int) < (h.length : Int)) by omega),if_pos rfl,getD_get (show j < h.length by omega),Option.bind_some,w64 (x:=h.getD j 0 * c) (by omega),w64 (by omega),wsucc (k:=j) (n:=t.length) (by omega) (by omega)]
    rfl) (by
    dsimp only [array_task_bound_l1]
    rw [decide_eq_false (by omega)]
    rfl)
  rw [show ((0 : Int),(0 : Int)) = (higS c h 0,((0 : Nat) : Int)) from rfl,hr,Option.bind_some]
  have b2:=hig_bd T hl hh hp il ih ip (Nat.le_refl t.length)
  have hr2:=run_count (step:=array_task_bound_l2 p) (e:=higS c h t.length + lowS p m) (fun j=>(higS c h t.length + lowS p j,(j : Int))) (n:=m) (fun j hj=>by
    have b1:=cap_bd T hl hh hp il ih ip (show j + 1 ≤ m by omega)
    have e1 : lowS p (j + 1) = lowS p j + p.getD j 0:=rfl
    dsimp only [array_task_bound_l2]
    rw [decide_eq_true (show ((j : Int) < (p.length : Int)) by omega),if_pos rfl,getD_get (show j < p.length by omega),Option.bind_some,w64 (by omega),wsucc (k:=j) (n:=m) (by omega) (by omega),e1,Int.add_assoc]) (by
    dsimp only [array_task_bound_l2]
    rw [decide_eq_false (by omega)]
    rfl)
  rw [show (higS c h t.length,(0 : Int)) = (higS c h t.length + lowS p 0,((0 : Nat) : Int)) from by simp [lowS,sig],hr2]
  rfl
end
end Go.Rex

open Go Go.Rex
set_option maxRecDepth 100000
namespace Go.Rex
noncomputable def weE (t : List (List Int)) (m : Nat) (W : Int) (l h p : List Int) : Int :=
  if ¬ (1 ≤ W ∧ W ≤ 1000000000000) then 2 else if ¬ (l.length = t.length ∧ h.length = t.length ∧ p.length = m) then 10 else
    if ¬ (inL 0 1000000000000 l ∧ inL 0 1000000000000 h ∧ inL 0 1000000000000 p) then 2 else if okWt t m W l h p then 0 else 20
/-- the six checks, one after the other -/
theorem six (b1 b2 : Bool) {t : List (List Int)} {c : Int} {m : Nat} (T : TaskOk t c m) (W : Int) (l h p : List Int) (hl : l.length ≤ 1000) (hh : h.length ≤ 1000) (hp : p.length ≤ 1000)
    (hb1 : b1 = !decide (1 ≤ W ∧ W ≤ 1000000000000)) (hb2 : b2 = !decide (l.length = t.length ∧ h.length = t.length ∧ p.length = m)) :
    array_firstError_6002 b1 2 b2 10 (l.length : Int) l 0 1000000000000 (h.length : Int) h 0 1000000000000 (p.length : Int) p 0 1000000000000 t c W l h p = some (weE t m W l h p):=by
  unfold array_firstError_6002 weE
  subst hb1 hb2
  simp only [arefuse1,Option.bind_some]
  by_cases q1 : 1 ≤ W ∧ W ≤ 1000000000000
  rotate_left
  · rw [if_pos q1,decide_eq_false q1];rfl
  rw [if_neg (not_not_intro q1),decide_eq_true q1]
  simp only [Bool.not_true,Bool.false_eq_true,if_false,ne_eq,not_true_eq_false,decide_false]
  by_cases q2 : l.length = t.length ∧ h.length = t.length ∧ p.length = m
  rotate_left
  · rw [if_pos q2,decide_eq_false q2];rfl
  rw [if_neg (not_not_intro q2),decide_eq_true q2]
  simp only [Bool.not_true,Bool.false_eq_true,if_false,not_true_eq_false,decide_false]
  rw [each_in _ _ _ hl,Option.bind_some]
  by_cases q3 : inL 0 1000000000000 l
  rotate_left
  · rw [if_pos (fun g : _ ∧ _ ∧ _=>q3 g.1),if_neg q3];rfl
  rw [if_pos q3]
  simp only [not_true_eq_false,decide_false,Bool.false_eq_true,if_false]
  rw [each_in _ _ _ hh,Option.bind_some]
  by_cases q4 : inL 0 1000000000000 h
  rotate_left
  · rw [if_pos (fun g : _ ∧ _ ∧ _=>q4 g.2.1),if_neg q4];rfl
  rw [if_pos q4]
  simp only [not_true_eq_false,decide_false,Bool.false_eq_true,if_false]
  rw [each_in _ _ _ hp,Option.bind_some]
  by_cases q5 : inL 0 1000000000000 p
  rotate_left
  · rw [if_pos (fun g : _ ∧ _ ∧ _=>q5 g.2.2),if_neg q5];rfl
  rw [if_pos q5,if_neg (not_not_intro ⟨q3,q4,q5⟩)]
  simp only [not_true_eq_false,decide_false,Bool.false_eq_true,if_false]
  unfold array_task_weighed_c1_c1_be62 array_refuse
  rw [proves_ex T q2.1 q2.2.1 q2.2.2 q3 q4 q5 q1]
  simp only [Option.bind_some,arefuse1]
  by_cases q6 : okWt t m W l h p
  · rw [decide_eq_true q6,if_pos q6];rfl
  · rw [decide_eq_false q6,if_neg q6];rfl
theorem wei_ex {t : List (List Int)} {c : Int} {m : Nat} (T : TaskOk t c m) (W : Int) (l h p : List Int) (hl : l.length ≤ 1000) (hh : h.length ≤ 1000) (hp : p.length ≤ 1000) :
    array_task_weighed_c1_be62 t c W l h p = some (weE t m W l h p):=by
  unfold array_task_weighed_c1_be62 array_task_columns array_refuse array_allWithin array_each_aa71
  have h0:=rowD (t:=t) (k:=0) T.n0
  rw [show ((0 : Nat) : Int) = 0 from rfl] at h0
  rw [h0,awithin_eq]
  have r0:=T.row 0 T.n0
  by_cases q1 : l.length = t.length
  rotate_left
  · rw [decide_eq_true (show ((l.length : Int) ≠ (t.length : Int)) by omega),if_pos rfl]
    have:=six (!decide (1 ≤ W ∧ W ≤ 1000000000000)) true T W l h p hl hh hp rfl (by rw [decide_eq_false (show ¬ (l.length = t.length ∧ h.length = t.length ∧ p.length = m) from fun g=>q1 g.1)];rfl)
    show (array_firstError_6002 _ 2 true 10 _ _ _ _ _ _ _ _ _ _ _ _ _ _ _ _ _ _).bind _ = _
    rw [this];rfl
  rw [decide_eq_false (show ¬ ((l.length : Int) ≠ (t.length : Int)) by omega),if_neg (by simp)]
  by_cases q2 : h.length = t.length
  rotate_left
  · rw [decide_eq_true (show ((h.length : Int) ≠ (t.length : Int)) by omega),if_pos rfl]
    have:=six (!decide (1 ≤ W ∧ W ≤ 1000000000000)) true T W l h p hl hh hp rfl (by rw [decide_eq_false (show ¬ (l.length = t.length ∧ h.length = t.length ∧ p.length = m) from fun g=>q2 g.2.1)];rfl)
    show (array_firstError_6002 _ 2 true 10 _ _ _ _ _ _ _ _ _ _ _ _ _ _ _ _ _ _).bind _ = _
    rw [this];rfl
  rw [decide_eq_false (show ¬ ((h.length : Int) ≠ (t.length : Int)) by omega),if_neg (by simp)]
  have hb : (decide ((p.length : Int) ≠ ((t.getD 0 []).length : Int))) = !decide (l.length = t.length ∧ h.length = t.length ∧ p.length = m):=by
    rw [r0]
    by_cases q3 : p.length = m
    · rw [decide_eq_true (show l.length = t.length ∧ h.length = t.length ∧ p.length = m from ⟨q1,q2,q3⟩),decide_eq_false (show ¬ ((p.length : Int) ≠ (m : Int)) by omega)];rfl
    · rw [decide_eq_false (show ¬ (l.length = t.length ∧ h.length = t.length ∧ p.length = m) from fun g=>q3 g.2.2),decide_eq_true (show ((p.length : Int) ≠ (m : Int)) by omega)];rfl
  have:=six (!decide (1 ≤ W ∧ W ≤ 1000000000000)) (decide ((p.length : Int) ≠ ((t.getD 0 []).length : Int))) T W l h p hl hh hp rfl hb
  show (array_firstError_6002 _ 2 _ 10 _ _ _ _ _ _ _ _ _ _ _ _ _ _ _ _ _ _).bind _ = _
  rw [this];rfl
theorem weE_ok {t : List (List Int)} {m : Nat} {W : Int} {l h p : List Int} (e : weE t m W l h p = 0) : (1 ≤ W ∧ W ≤ 1000000000000) ∧ (l.length = t.length ∧ h.length = t.length ∧ p.length = m) ∧ (inL 0 1000000000000 l ∧ inL 0 1000000000000 h ∧ inL 0 1000000000000 p) ∧ okWt t m W l h p:=by
  unfold weE at e
  by_cases q1 : 1 ≤ W ∧ W ≤ 1000000000000
  rotate_left
  · rw [if_pos q1] at e;omega
  rw [if_neg (not_not_intro q1)] at e
  by_cases q2 : l.length = t.length ∧ h.length = t.length ∧ p.length = m
  rotate_left
  · rw [if_pos q2] at e;omega
  rw [if_neg (not_not_intro q2)] at e
  by_cases q3 : inL 0 1000000000000 l ∧ inL 0 1000000000000 h ∧ inL 0 1000000000000 p
  rotate_left
  · rw [if_pos q3] at e;omega
  rw [if_neg (not_not_intro q3)] at e
  by_cases q4 : okWt t m W l h p
  · exact ⟨q1,q2,q3,q4⟩
  · rw [if_neg q4] at e;omega
noncomputable def weV (t : List (List Int)) (c : Int) (m : Nat) (W : Int) (l h p : List Int) : Int × Int × Int :=
  if weE t m W l h p ≠ 0 then (0,0,weE t m W l h p) else (low1 (bndS c h p t.length m) W,low2 (bndS c h p t.length m) W,0)
theorem bnd_bd {t : List (List Int)} {c : Int} {m : Nat} (T : TaskOk t c m) {W : Int} {l h p : List Int} (e : weE t m W l h p = 0) : 0 ≤ bndS c h p t.length m ∧ bndS c h p t.length m ≤ 4003000000000000:=by
  obtain ⟨q1,q2,q3,q4⟩:=weE_ok e
  have:=hig_bd T q2.1 q2.2.1 q2.2.2 q3.1 q3.2.1 q3.2.2 (Nat.le_refl _)
  have:=cap_bd T q2.1 q2.2.1 q2.2.2 q3.1 q3.2.1 q3.2.2 (Nat.le_refl _)
  unfold bndS;omega
theorem tc_rows {t : List (List Int)} {c : Int} {m : Nat} (T : TaskOk t c m) : ∀ k,(t.getD k []).length ≤ 1000:=by
  intro k
  have:=T.m3
  by_cases h : k < t.length
  · rw [T.row k h];omega
  · rw [List.getD_eq_getElem?_getD,List.getElem?_eq_none (by omega)];simp
theorem wei_prog {t : List (List Int)} {c : Int} {m : Nat} (T : TaskOk t c m) (hc : tcV t c = 0) (W : Int) (l h p : List Int) (hl : l.length ≤ 1000) (hh : h.length ≤ 1000) (hp : p.length ≤ 1000) : array_CheckWeights t c W l h p = some (weV t c m W l h p):=by
  unfold array_CheckWeights array_task_weighed array_firstError_2d8a
  rw [Option.bind_some,tc_prog t c (tc_rows T)]
  dsimp only
  rw [Option.bind_some,hc,if_neg (by simp),wei_ex T W l h p hl hh hp,Option.bind_some]
  unfold weV
  by_cases e : weE t m W l h p = 0
  · rw [if_neg (not_not_intro e),e,if_neg (by simp),Option.bind_some,if_neg (by simp)]
    obtain ⟨q1,q2,q3,q4⟩:=weE_ok e
    have hb:=bnd_bd T e
    rw [bound_ex T q2.1 q2.2.1 q2.2.2 q3.1 q3.2.1 q3.2.2 W,Option.bind_some]
    dsimp only
    rw [lowP (by omega) (by omega)]
    rfl
  · rw [if_pos e,if_pos (by simpa using e),Option.bind_some,if_pos (by simpa using e)]
theorem reach_prog {t : List (List Int)} {c : Int} {m : Nat} (T : TaskOk t c m) (hc : tcV t c = 0) (v W : Int) (l h p : List Int) (hl : l.length ≤ 1000) (hh : h.length ≤ 1000) (hp : p.length ≤ 1000) :
    array_CannotReach t c v W l h p = some (if ¬ (0 ≤ v ∧ v ≤ 1000) then 2 else if weE t m W l h p ≠ 0 then weE t m W l h p else if v * W ≤ bndS c h p t.length m then 20 else 0):=by
  unfold array_CannotReach array_task_weighed array_firstError_dd43
  rw [awithin_eq]
  simp only [Option.bind_some]
  rw [tc_prog t c (tc_rows T),Option.bind_some,hc,if_neg (by simp),arefuse1]
  by_cases q : 0 ≤ v ∧ v ≤ 1000
  rotate_left
  · rw [if_pos q,decide_eq_false q];rfl
  rw [if_neg (not_not_intro q),decide_eq_true q]
  simp only [Bool.not_true,Bool.false_eq_true,if_false,ne_eq,not_true_eq_false,decide_false,Option.bind_some]
  rw [wei_ex T W l h p hl hh hp,Option.bind_some]
  by_cases e : weE t m W l h p = 0
  · rw [if_neg (not_not_intro e),e,if_neg (by simp)]
    obtain ⟨q1,q2,q3,q4⟩:=weE_ok e
    have hb:=bnd_bd T e
    unfold array_CannotReach_c1_c881 array_fraction_isAtLeast array_refuse
    rw [bound_ex T q2.1 q2.2.1 q2.2.2 q3.1 q3.2.1 q3.2.2 W]
    have hv:=Int.mul_le_mul q.2 q1.2 (by omega) (by omega)
    have hv0:=Int.mul_nonneg q.1 (show (0 : Int) ≤ W by omega)
    simp only [Option.bind_some,arefuse1]
    rw [w64 (by omega)]
    by_cases r : v * W ≤ bndS c h p t.length m
    · rw [if_pos r,decide_eq_true r];rfl
    · rw [if_neg r,decide_eq_false r];rfl
  · rw [if_pos e,if_pos (by simpa using e),Option.bind_some]
end Go.Rex

open Go Go.Rex
set_option maxRecDepth 100000
namespace Go.Rex
section
variable {t : List (List Int)} {c : Int} {m : Nat} (T : TaskOk t c m) {l h p : List Int} (hl : l.length = t.length) (hh : h.length = t.length) (hp : p.length = m) (il : inL 0 1000000000000 l) (ih : inL 0 1000000000000 h) (ip : inL 0 1000000000000 p)
include T hl hh hp il ih ip
theorem wr1 : run (ref07_CheckWeights_l1 c l h) (0,0,0) = some (lowS l t.length,higS c h t.length):=by
  have hn4:=T.n4
  exact run_count (step:=ref07_CheckWeights_l1 c l h) (e:=(lowS l t.length,higS c h t.length)) (fun j=>(lowS l j,higS c h j,(j : Int))) (n:=t.length) (fun j hj=>by
    have b0:=hi1_bd T hl hh hp il ih ip hj
    have b1:=hig_bd T hl hh hp il ih ip (show j + 1 ≤ t.length by omega)
    have b2:=low_bd' T hl hh hp il ih ip (show j + 1 ≤ t.length by omega)
    have e1 : higS c h (j + 1) = higS c h j + h.getD j 0 * c:=rfl
    have e2 : lowS l (j + 1) = lowS l j + l.getD j 0:=rfl
    dsimp only [ref07_CheckWeights_l1]
    rw [decide_eq_true (show ((j : Int) < (l.length : Int)) by omega),if_pos rfl,getD_get (show j < l.length by omega),Option.bind_some,getD_get (show j < h.length by omega),Option.bind_some,w64 (x:=h.getD j 0 * c) (by omega),w64 (x:=lowS l j + l.getD j 0) (by omega),w64 (by omega),wsucc (k:=j) (n:=t.length) (by omega) (by omega),← e1,← e2]) (by
    dsimp only [ref07_CheckWeights_l1]
    rw [decide_eq_false (by omega)]
    rfl)
theorem wr3 {k : Nat} (hk : k < m) : run (ref07_CheckWeights_l3 t l h (k : Int)) (0,0) = some (colS t l h k t.length):=by
  have hn4:=T.n4
  exact run_count (step:=ref07_CheckWeights_l3 t l h (k : Int)) (e:=colS t l h k t.length) (fun j=>(colS t l h k j,(j : Int))) (n:=t.length) (fun j hj=>by
    have b1:=cl1_bd T hl hh hp il ih ip hj hk
    have b2:=col_bd T hl hh hp il ih ip (show j + 1 ≤ t.length by omega) hk
    have h2:=il j (by omega)
    have h3:=ih j (by omega)
    have e1 : colS t l h k (j + 1) = colS t l h k j + (l.getD j 0 - h.getD j 0) * (t.getD j []).getD k 0:=rfl
    have e2 : cl1 t l h k j = (l.getD j 0 - h.getD j 0) * (t.getD j []).getD k 0:=rfl
    dsimp only [ref07_CheckWeights_l3]
    rw [decide_eq_true (show ((j : Int) < (l.length : Int)) by omega),if_pos rfl,getD_get (show j < l.length by omega),Option.bind_some,getD_get (show j < h.length by omega),Option.bind_some,rowD hj,Option.bind_some,getD_get (show k < (t.getD j []).length by rw [T.row j hj];omega),Option.bind_some,w64 (x:=l.getD j 0 - h.getD j 0) (by omega),w64 (x:=(l.getD j 0 - h.getD j 0) * (t.getD j []).getD k 0) (by omega),w64 (by omega),wsucc (k:=j) (n:=t.length) (by omega) (by omega),← e1]) (by
    dsimp only [ref07_CheckWeights_l3]
    rw [decide_eq_false (by omega)]
    rfl)
theorem wr2 (b : Int) (hb : 0 ≤ b ∧ b ≤ 4000000000000000) : run (ref07_CheckWeights_l2 t l h p) (b,0) = some (if ∀ k,k < m → colS t l h k t.length ≤ p.getD k 0 then .inr (b + lowS p m) else .inl ()):=by
  have hm3:=T.m3
  -- step by step
  have hs : ∀ k,k < m → ∀ x,x = b + lowS p k → ref07_CheckWeights_l2 t l h p (x,(k : Int)) = some (if p.getD k 0 < colS t l h k t.length then .inr (.inl ()) else .inl (b + lowS p (k + 1),((k + 1 : Nat) : Int))):=by
    intro k hk x hx
    subst hx
    have b1:=cap_bd T hl hh hp il ih ip (show k + 1 ≤ m by omega)
    have e1 : lowS p (k + 1) = lowS p k + p.getD k 0:=rfl
    dsimp only [ref07_CheckWeights_l2]
    rw [decide_eq_true (show ((k : Int) < (p.length : Int)) by omega),if_pos rfl,wr3 T hl hh hp il ih ip hk,Option.bind_some,getD_get (show k < p.length by omega),Option.bind_some]
    by_cases q : p.getD k 0 < colS t l h k t.length
    · rw [decide_eq_true q,if_pos rfl,if_pos q]
    · rw [decide_eq_false q,if_neg (by simp),if_neg q,w64 (by omega),wsucc (k:=k) (n:=m) (by omega) (by omega),e1,Int.add_assoc]
  have he : ref07_CheckWeights_l2 t l h p (b + lowS p m,(m : Int)) = some (.inr (.inr (b + lowS p m))):=by
    dsimp only [ref07_CheckWeights_l2]
    rw [decide_eq_false (by omega)]
    rfl
  have H : ∀ r k,m - k = r → k ≤ m → run (ref07_CheckWeights_l2 t l h p) (b + lowS p k,(k : Int)) = some (if ∀ q,q < m → k ≤ q → colS t l h q t.length ≤ p.getD q 0 then .inr (b + lowS p m) else .inl ()):=by
    intro r
    induction r with
    | zero =>
      intro k h1 h2
      obtain rfl : k = m:=by omega
      rw [if_pos (fun q _ _=>by omega)]
      exact run_stop he
    | succ r ihr =>
      intro k h1 h2
      have hk : k < m:=by omega
      have:=hs k hk _ rfl
      by_cases q : p.getD k 0 < colS t l h k t.length
      · rw [if_pos q] at this
        rw [if_neg (fun g=>by have:=g k hk (Nat.le_refl _);omega)]
        exact run_stop this
      · rw [if_neg q] at this
        rw [run_next this,ihr (k + 1) (by omega) (by omega)]
        congr 1
        by_cases g : ∀ q,q < m → k + 1 ≤ q → colS t l h q t.length ≤ p.getD q 0
        · rw [if_pos g, if_pos (fun z z1 z2 => by
            by_cases hz : z = k
            · subst hz;omega
            · exact g z z1 (by omega))]
        · rw [if_neg g,if_neg (fun g'=>g fun z z1 z2=>g' z z1 (by omega))]
  have:=H m 0 (by omega) (by omega)
  have e0 : lowS p 0 = 0:=rfl
  rw [e0,Int.add_zero] at this
  rw [show (b,(0 : Int)) = (b,((0 : Nat) : Int)) from rfl,this]
  congr 1
  by_cases g : ∀ k,k < m → colS t l h k t.length ≤ p.getD k 0
  · rw [if_pos g,if_pos (fun q hq _=>g q hq)]
  · rw [if_neg g,if_neg (fun g'=>g fun q hq=>g' q hq (by omega))]
end
theorem wei_ref {t : List (List Int)} {c : Int} {m : Nat} (T : TaskOk t c m) (W : Int) (l h p : List Int) (hl : l.length ≤ 1000) (hh : h.length ≤ 1000) (hp : p.length ≤ 1000) : ref07_CheckWeights t c W l h p = some (weV t c m W l h p):=by
  unfold ref07_CheckWeights weV
  have h0:=rowD (t:=t) (k:=0) T.n0
  rw [show ((0 : Nat) : Int) = 0 from rfl] at h0
  have r0:=T.row 0 T.n0
  rw [bwithin]
  by_cases q1 : 1 ≤ W ∧ W ≤ 1000000000000
  rotate_left
  · have e : weE t m W l h p = 2:=by unfold weE;rw [if_pos q1]
    rw [if_neg q1,e];rfl
  rw [if_pos q1,if_pos rfl]
  have e10 : ¬ (l.length = t.length ∧ h.length = t.length ∧ p.length = m) → weE t m W l h p = 10:=by
    intro g;unfold weE;rw [if_neg (not_not_intro q1),if_pos g]
  by_cases q2 : l.length = t.length
  rotate_left
  · rw [decide_eq_true (show ((l.length : Int) ≠ (t.length : Int)) by omega),if_pos rfl,e10 (fun g=>q2 g.1)];rfl
  rw [decide_eq_false (show ¬ ((l.length : Int) ≠ (t.length : Int)) by omega),if_neg (by simp)]
  by_cases q3 : h.length = t.length
  rotate_left
  · rw [decide_eq_true (show ((h.length : Int) ≠ (t.length : Int)) by omega),if_pos rfl,e10 (fun g=>q3 g.2.1)];rfl
  rw [decide_eq_false (show ¬ ((h.length : Int) ≠ (t.length : Int)) by omega),if_neg (by simp),h0,Option.bind_some,r0]
  by_cases q4 : p.length = m
  rotate_left
  · rw [decide_eq_true (show ((p.length : Int) ≠ (m : Int)) by omega),if_pos rfl,e10 (fun g=>q4 g.2.2)];rfl
  rw [decide_eq_false (show ¬ ((p.length : Int) ≠ (m : Int)) by omega),if_neg (by simp)]
  have e2 : ¬ (inL 0 1000000000000 l ∧ inL 0 1000000000000 h ∧ inL 0 1000000000000 p) → weE t m W l h p = 2:=by
    intro g;unfold weE;rw [if_neg (not_not_intro q1),if_neg (not_not_intro ⟨q2,q3,q4⟩),if_pos g]
  rw [rin_eq _ _ hl,Option.bind_some]
  by_cases q5 : inL 0 1000000000000 l
  rotate_left
  · rw [decide_eq_false q5,e2 (fun g=>q5 g.1)];rfl
  rw [decide_eq_true q5,if_pos rfl,rin_eq _ _ hh,Option.bind_some]
  by_cases q6 : inL 0 1000000000000 h
  rotate_left
  · rw [decide_eq_false q6,e2 (fun g=>q6 g.2.1)];rfl
  rw [decide_eq_true q6,if_pos rfl,rin_eq _ _ hp,Option.bind_some]
  by_cases q7 : inL 0 1000000000000 p
  rotate_left
  · rw [decide_eq_false q7,e2 (fun g=>q7 g.2.2)];rfl
  rw [decide_eq_true q7,if_pos rfl,wr1 T q2 q3 q4 q5 q6 q7,Option.bind_some]
  have e3 : weE t m W l h p = if okWt t m W l h p then 0 else 20:=by
    unfold weE;rw [if_neg (not_not_intro q1),if_neg (not_not_intro ⟨q2,q3,q4⟩),if_neg (not_not_intro ⟨q5,q6,q7⟩)]
  dsimp only
  by_cases q8 : lowS l t.length = W
  rotate_left
  · rw [decide_eq_true (show lowS l t.length ≠ W from q8),if_pos rfl,e3,if_neg (show ¬ okWt t m W l h p from fun g=>q8 g.1)];rfl
  rw [decide_eq_false (show ¬ lowS l t.length ≠ W from not_not_intro q8),if_neg (by simp)]
  have b2:=hig_bd T q2 q3 q4 q5 q6 q7 (Nat.le_refl t.length)
  rw [wr2 T q2 q3 q4 q5 q6 q7 _ b2]
  by_cases q9 : ∀ k,k < m → colS t l h k t.length ≤ p.getD k 0
  rotate_left
  · rw [if_neg q9,e3,if_neg (show ¬ okWt t m W l h p from fun g=>q9 g.2)];rfl
  rw [if_pos q9,Option.bind_some]
  have ok : okWt t m W l h p:=⟨q8,q9⟩
  have e4 : weE t m W l h p = 0:=by rw [e3,if_pos ok]
  have hb:=bnd_bd T e4
  dsimp only
  have hlow:=lowR (a:=bndS c h p t.length m) (b:=W) (by omega) (by omega)
  unfold bndS at hlow ⊢
  rw [hlow,e4]
  rfl
/-! ### what is proved holds for what is open -/
theorem dual {t : List (List Int)} {c : Int} {m : Nat} (T : TaskOk t c m) {d : Int} {o : List Int} (hd : 1 ≤ d ∧ d ≤ 1000000000000) (hm : o.length = m) (ho : inL 0 d o)
    (hg : ∀ j,j < t.length → gt t o m j ≤ c * d) {W : Int} {l h p : List Int} (hl : l.length = t.length) (hh : h.length = t.length) (hp : p.length = m) (il : inL 0 1000000000000 l) (ih : inL 0 1000000000000 h) (ip : inL 0 1000000000000 p) (ok : okWt t m W l h p) :
    least t o m * W ≤ bndS c h p t.length m * d:=by
  obtain ⟨hle,hl0,_⟩:=least_bd T hd hm ho
  obtain ⟨o1,o2⟩:=ok
  -- least * W = sum of low * least
  have s1 : least t o m * W = sig (fun j=>l.getD j 0 * least t o m) t.length:=by
    rw [← o1];unfold lowS
    rw [← sig_mul]
    exact sig_congr fun j _=>Int.mul_comm _ _
  have s2 : sig (fun j=>l.getD j 0 * least t o m) t.length ≤ sig (fun j=>l.getD j 0 * gt t o m j) t.length :=
    sig_le fun j hj=>Int.mul_le_mul_of_nonneg_left (hle j hj) (il j (by omega)).1
  have s3 : sig (fun j=>l.getD j 0 * gt t o m j) t.length = sig (fun j=>(l.getD j 0 - h.getD j 0) * gt t o m j) t.length + sig (fun j=>h.getD j 0 * gt t o m j) t.length:=by
    rw [← sig_add]
    exact sig_congr fun j _=>by rw [Int.sub_mul];omega
  have s4 : sig (fun j=>h.getD j 0 * gt t o m j) t.length ≤ d * higS c h t.length:=by
    unfold higS
    rw [← sig_mul]
    refine sig_le fun j hj=>?_
    have:=Int.mul_le_mul_of_nonneg_left (hg j hj) (ih j (by omega)).1
    have e : h.getD j 0 * (c * d) = d * (h.getD j 0 * c):=by rw [← Int.mul_assoc,Int.mul_comm d]
    omega
  have s5 : sig (fun j=>(l.getD j 0 - h.getD j 0) * gt t o m j) t.length = sig (fun k=>o.getD k 0 * colS t l h k t.length) m:=by
    have a1 : sig (fun j=>(l.getD j 0 - h.getD j 0) * gt t o m j) t.length = sig (fun j=>sig (fun k=>o.getD k 0 * cl1 t l h k j) m) t.length:=by
      refine sig_congr fun j _=>?_
      unfold gt
      rw [← sig_mul]
      refine sig_congr fun k _=>?_
      unfold cl1
      rw [← Int.mul_assoc,Int.mul_comm (o.getD k 0)]
    rw [a1,sig_swap (fun j k=>o.getD k 0 * cl1 t l h k j) m t.length]
    refine sig_congr fun k _=>?_
    unfold colS
    rw [← sig_mul]
  have s6 : sig (fun k=>o.getD k 0 * colS t l h k t.length) m ≤ d * lowS p m:=by
    unfold lowS
    rw [← sig_mul]
    refine sig_le fun k hk=>?_
    have a1:=ho k (by omega)
    have a2:=o2 k hk
    have a3:=ip k (by omega)
    have b1:=Int.mul_le_mul_of_nonneg_left a2 a1.1
    have b2:=Int.mul_le_mul_of_nonneg_right a1.2 a3.1
    omega
  have e : bndS c h p t.length m * d = d * higS c h t.length + d * lowS p m:=by unfold bndS;rw [Int.mul_comm,Int.mul_add]
  omega
end Go.Rex

open Go Go.Rex
set_option maxRecDepth 100000
namespace Go.Rex
theorem copyInts {l : List Int} (h : l.length ≤ 1048576) : base_CopyInts l = some l:=by
  unfold base_CopyInts
  rw [copyI' h]
  rfl
theorem copyLists {l : List (List Int)} (h : l.length ≤ 16) (h2 : ∀ r ∈ l,r.length ≤ 16) : base_CopyLists l = some l:=by
  unfold base_CopyLists
  have:=(run_iter (step:=base_CopyLists_l1 l) (fun k (b : List (List Int))=>(b,(k : Int))) (fun k b=>l.take (k + 1)) id l.length (fun k b=>b = l.take k) (b0:=[]) (by simp) (fun k b hk hI=>by
    subst hI
    refine ⟨?_,rfl⟩
    unfold base_CopyLists_l1
    simp only
    have hm : l[k] ∈ l:=List.getElem_mem hk
    rw [if_pos (by simp only [decide_eq_true_eq];omega),getI_lt' hk,Option.bind_some,copyInts (by have:=h2 _ hm;omega),Option.bind_some,appI_one (by rw [List.length_take];omega) (by omega),Option.bind_some,wsucc (n:=l.length) (by omega) (by omega)]
    have e : l.take (k + 1) = l.take k ++ [l[k]]:=by rw [List.take_add_one,List.getElem?_eq_getElem hk];rfl
    rw [e]) (fun b hI=>by
    subst hI
    unfold base_CopyLists_l1
    simp only
    rw [if_neg (by simp)]
    rfl))
  obtain ⟨h1,h3⟩:=this
  rw [show ((([] : List (List Int)),(0 : Int)) = (([] : List (List Int)),((0 : Nat) : Int))) from rfl,h1,h3 l.length (Nat.le_refl _),Option.bind_some]
  simp
theorem copyT {t : List (List Int)} {c : Int} (h : t.length ≤ 16) (h2 : ∀ r ∈ t,r.length ≤ 16) : ref07_CopyTask t c = some (t,c):=by
  unfold ref07_CopyTask
  rw [copyLists h h2];rfl
theorem copyO {d : Int} {o : List Int} (h : o.length ≤ 1000) : ref07_CopyOpen d o = some (d,o):=by
  unfold ref07_CopyOpen
  rw [copyInts (by omega)];rfl
theorem copyW {W : Int} {l h p : List Int} (h1 : l.length ≤ 1000) (h2 : h.length ≤ 1000) (h3 : p.length ≤ 1000) : ref07_CopyWeights W l h p = some (W,l,h,p):=by
  unfold ref07_CopyWeights
  rw [copyInts (by omega),copyInts (by omega),copyInts (by omega)];rfl
/-- which tasks the statement speaks of -/
theorem small_ex (t : List (List Int)) (c : Int) : ∃ b : Bool,law07_Small t c = some b ∧ (b = true → t.length ≤ 16 ∧ ∀ r ∈ t,r.length ≤ 16):=by
  unfold law07_Small
  by_cases q : (t.length : Int) > 6
  · exact ⟨false,by rw [if_pos (by simpa using q)],by simp⟩
  rw [if_neg (by simpa using q)]
  have h:=run_find (step:=law07_Small_l1 t) (n:=t.length) (r:=()) (p:=fun k=>if (t.getD k []).length > 5 then some () else none) (fun k hk _=>by
    dsimp only [law07_Small_l1]
    rw [if_pos (by simpa using hk),rowD hk,Option.bind_some]
    by_cases r : (t.getD k []).length > 5
    · rw [decide_eq_true (show ((t.getD k []).length : Int) > 5 by omega),if_pos r];rfl
    · rw [decide_eq_false (show ¬ ((t.getD k []).length : Int) > 5 by omega),if_neg r,if_neg (by simp),w64 (by omega)];rfl) (fun _=>by
    dsimp only [law07_Small_l1]
    rw [if_neg (by simp)])
  rw [h]
  cases e : firstOf (fun k=>if (t.getD k []).length > 5 then some () else none) t.length with
  | some x=>exact ⟨false,rfl,by simp⟩
  | none =>
    refine ⟨true,rfl,fun _=>⟨by omega,fun r hr=>?_⟩⟩
    obtain ⟨k,hk,rfl⟩:=List.getElem_of_mem hr
    have:=firstOf_none.1 e k hk
    have e' : t.getD k [] = t[k]:=by rw [List.getD_eq_getElem?_getD,List.getElem?_eq_getElem hk];rfl
    rw [e'] at this
    by_cases r : (t[k]).length > 5
    · rw [if_pos r] at this;cases this
    · omega
theorem short_ex (d : Int) (o : List Int) (W : Int) (l h p : List Int) : ∃ b : Bool,law07_short d o W l h p = some b ∧ (b = true → o.length ≤ 1000 ∧ l.length ≤ 1000 ∧ h.length ≤ 1000 ∧ p.length ≤ 1000):=by
  unfold law07_short
  by_cases q1 : (o.length : Int) ≤ 9
  rotate_left
  · exact ⟨false,by rw [if_neg (by simpa using q1)],by simp⟩
  by_cases q2 : (l.length : Int) ≤ 9
  rotate_left
  · exact ⟨false,by rw [if_pos (by simpa using q1),if_neg (by simpa using q2)],by simp⟩
  by_cases q3 : (h.length : Int) ≤ 9
  rotate_left
  · exact ⟨false,by rw [if_pos (by simpa using q1),if_pos (by simpa using q2),if_neg (by simpa using q3)],by simp⟩
  refine ⟨decide ((p.length : Int) ≤ 9),by rw [if_pos (by simpa using q1),if_pos (by simpa using q2),if_pos (by simpa using q3)],fun g=>?_⟩
  have:=of_decide_eq_true g
  omega
theorem open_bad {t : List (List Int)} {c : Int} (hc : tcV t c ≠ 0) (hr : ∀ k,(t.getD k []).length ≤ 1000) (d : Int) (o : List Int) : array_CheckOpen t c d o = some (0,0,tcV t c):=by
  unfold array_CheckOpen array_task_opened array_firstError_e6a2
  rw [Option.bind_some,tc_prog t c hr]
  dsimp only
  rw [Option.bind_some,if_pos (by simpa using hc),Option.bind_some,if_pos (by simpa using hc)]
theorem wei_bad {t : List (List Int)} {c : Int} (hc : tcV t c ≠ 0) (hr : ∀ k,(t.getD k []).length ≤ 1000) (W : Int) (l h p : List Int) : array_CheckWeights t c W l h p = some (0,0,tcV t c):=by
  unfold array_CheckWeights array_task_weighed array_firstError_2d8a
  rw [Option.bind_some,tc_prog t c hr]
  dsimp only
  rw [Option.bind_some,if_pos (by simpa using hc),Option.bind_some,if_pos (by simpa using hc)]
theorem reach_bad {t : List (List Int)} {c : Int} (hc : tcV t c ≠ 0) (hr : ∀ k,(t.getD k []).length ≤ 1000) (v W : Int) (l h p : List Int) : array_CannotReach t c v W l h p = some (tcV t c):=by
  unfold array_CannotReach array_task_weighed array_firstError_dd43
  rw [awithin_eq]
  simp only [Option.bind_some]
  rw [tc_prog t c hr,Option.bind_some,if_pos (by simpa using hc),Option.bind_some]
theorem opV_ok {t : List (List Int)} {c : Int} {m : Nat} {d : Int} {o : List Int} (e : (opV t c m d o).2.2 = 0) : (1 ≤ d ∧ d ≤ 1000000000000) ∧ o.length = m ∧ inL 0 d o ∧ (∀ j,j < t.length → gt t o m j ≤ c * d) ∧ opV t c m d o = (low1 (least t o m) d,low2 (least t o m) d,0):=by
  unfold opV at e ⊢
  by_cases q1 : 1 ≤ d ∧ d ≤ 1000000000000
  rotate_left
  · rw [if_pos q1] at e;cases e
  rw [if_neg (not_not_intro q1)] at e ⊢
  by_cases q2 : o.length = m
  rotate_left
  · rw [if_pos q2] at e;cases e
  rw [if_neg (not_not_intro q2)] at e ⊢
  by_cases q3 : inL 0 d o
  rotate_left
  · rw [if_pos q3] at e;cases e
  rw [if_neg (not_not_intro q3)] at e ⊢
  cases r : firstOf (badG t o m (c * d)) t.length with
  | some x=>rw [r] at e;cases e
  | none =>
    refine ⟨q1,q2,q3,fun j hj=>?_,rfl⟩
    have:=firstOf_none.1 r j hj
    unfold badG at this
    by_cases g : gt t o m j > c * d
    · rw [if_pos g] at this;cases this
    · omega
/-- the last comparison -/
theorem last_ok {t : List (List Int)} {c : Int} {m : Nat} (T : TaskOk t c m) {d : Int} {o : List Int} {W : Int} {l h p : List Int} (e : (opV t c m d o).2.2 = 0) (e' : weE t m W l h p = 0) :
    ∃ z,base_Compare (opV t c m d o).1 (opV t c m d o).2.1 (weV t c m W l h p).1 (weV t c m W l h p).2.1 = some z ∧ z ≤ 0:=by
  obtain ⟨hd,hm,ho,hg,hv⟩:=opV_ok e
  obtain ⟨q1,q2,q3,q4⟩:=weE_ok e'
  have hb:=bnd_bd T e'
  have hl:=least_bd T hd hm ho
  have hdu:=dual T hd hm ho hg q2.1 q2.2.1 q2.2.2 q3.1 q3.2.1 q3.2.2 q4
  have hw : weV t c m W l h p = (low1 (bndS c h p t.length m) W,low2 (bndS c h p t.length m) W,0):=by unfold weV;rw [if_neg (not_not_intro e')]
  rw [hv,hw]
  dsimp only
  obtain ⟨a1,a2,g,g1,g2,g3⟩:=low_bd (a:=least t o m) (b:=d) (by omega) (by omega)
  obtain ⟨b1,b2,k,k1,k2,k3⟩:=low_bd (a:=bndS c h p t.length m) (b:=W) (by omega) (by omega)
  rw [bcmp_eq (by omega) (by omega) (by omega) (by omega)]
  refine ⟨_,rfl,?_⟩
  generalize low1 (least t o m) d = n1 at *
  generalize low2 (least t o m) d = d1 at *
  generalize low1 (bndS c h p t.length m) W = n2 at *
  generalize low2 (bndS c h p t.length m) W = d2 at *
  rw [g2,k3,k2] at hdu
  have hdu' : (g * k) * (n1 * d2) ≤ (g * k) * (n2 * d1):=by
    have e1 : (g * k) * (n1 * d2) = g * n1 * (k * d2):=by rw [Int.mul_assoc,Int.mul_left_comm k,← Int.mul_assoc,]
    have e2 : (g * k) * (n2 * d1) = k * n2 * d:=by rw [g3,Int.mul_comm g k,Int.mul_assoc,Int.mul_left_comm g,← Int.mul_assoc]
    omega
  have:=Int.le_of_mul_le_mul_left hdu' (Int.mul_pos g1 k1)
  unfold sgn
  split
  · omega
  · split<;>omega
end Go.Rex

open Go Go.Rex
set_option maxRecDepth 100000
namespace Go.Rex
theorem dne {a : Int} : decide (a ≠ a) = false:=by simp
theorem allT {a b : Int} : ([a == a,b == b].all id) = true:=by simp
theorem claims_true (t : List (List Int)) (c d : Int) (o : List Int) (W : Int) (l h p : List Int) (v : Int) : law07_ArrayClaims t c d o W l h p v = some true:=by
  unfold law07_ArrayClaims
  obtain ⟨b1,hs,hs'⟩:=small_ex t c
  obtain ⟨b2,hq,hq'⟩:=short_ex d o W l h p
  rw [hs,Option.bind_some]
  by_cases g1 : b1 = true
  rotate_left
  · rw [if_neg g1]
  rw [if_pos g1,hq,Option.bind_some]
  by_cases g2 : b2 = true
  rotate_left
  · rw [if_neg g2]
  rw [if_pos g2]
  obtain ⟨t1,t2⟩:=hs' g1
  obtain ⟨l1,l2,l3,l4⟩:=hq' g2
  have hr : ∀ k,(t.getD k []).length ≤ 1000:=by
    intro k
    by_cases hk : k < t.length
    · have:=t2 _ (List.getElem_mem hk)
      rw [List.getD_eq_getElem?_getD,List.getElem?_eq_getElem hk]
      simp only [Option.getD_some];omega
    · rw [List.getD_eq_getElem?_getD,List.getElem?_eq_none (by omega)];simp
  have cT:=copyT (c:=c) t1 t2
  have cO:=copyO (d:=d) l1
  have cW:=copyW (W:=W) l2 l3 l4
  have kT : array_CheckTask t c = some (tcV t c):=by unfold array_CheckTask;rw [tc_prog t c hr];rfl
  have kR:=tc_ref t c hr
  by_cases hc : tcV t c = 0
  rotate_left
  · rw [cT,Option.bind_some]
    dsimp only
    rw [cO,Option.bind_some]
    dsimp only
    rw [open_bad hc hr,Option.bind_some]
    dsimp only
    rw [Option.bind_some,cW,Option.bind_some]
    dsimp only
    rw [wei_bad hc hr,Option.bind_some]
    dsimp only
    rw [Option.bind_some,Option.bind_some]
    rw [reach_bad hc hr,Option.bind_some,kR,Option.bind_some,Option.bind_some,kT,Option.bind_some,dne,if_neg (by simp),if_pos (by simpa using hc),if_pos (by simp),if_pos (by simp),if_pos (by simp),if_pos (by simp)]
    rfl
  have T:=taskOk hc
  have o1:=open_prog T hc d o l1
  have o2:=open_ref T d o l1
  have w1:=wei_prog T hc W l h p l2 l3 l4
  have w2:=wei_ref T W l h p l2 l3 l4
  have r1:=reach_prog T hc v W l h p l2 l3 l4
  have last:=last_ok (d:=d) (o:=o) (W:=W) (l:=l) (h:=h) (p:=p) T
  have hbd:=bnd_bd (W:=W) (l:=l) (h:=h) (p:=p) T
  have hwok:=weE_ok (t:=t) (m:=(t.getD 0 []).length) (W:=W) (l:=l) (h:=h) (p:=p)
  have hwe : (weV t c (t.getD 0 []).length W l h p).2.2 = weE t (t.getD 0 []).length W l h p:=by
    unfold weV
    by_cases e : weE t (t.getD 0 []).length W l h p = 0
    · rw [if_neg (not_not_intro e),e]
    · rw [if_pos e]
  have hwv : weE t (t.getD 0 []).length W l h p = 0 → weV t c (t.getD 0 []).length W l h p = (low1 (bndS c h p t.length (t.getD 0 []).length) W,low2 (bndS c h p t.length (t.getD 0 []).length) W,0):=by
    intro e;unfold weV;rw [if_neg (not_not_intro e)]
  generalize weE t (t.getD 0 []).length W l h p = E at *
  generalize opV t c (t.getD 0 []).length d o = O at *
  generalize weV t c (t.getD 0 []).length W l h p = V at *
  generalize bndS c h p t.length (t.getD 0 []).length = B at *
  obtain ⟨a1,a2,a3⟩:=O
  obtain ⟨v1,v2,v3⟩:=V
  dsimp only at last hwe hwv
  subst hwe
  rw [cT,Option.bind_some]
  dsimp only
  rw [cO,Option.bind_some]
  dsimp only
  rw [o1,Option.bind_some]
  dsimp only
  rw [Option.bind_some,cW,Option.bind_some]
  dsimp only
  rw [w1,Option.bind_some]
  dsimp only
  rw [Option.bind_some,Option.bind_some,r1,Option.bind_some,kR,Option.bind_some,Option.bind_some,kT,Option.bind_some,dne,if_neg (by simp),hc,if_neg (by simp),o2,Option.bind_some]
  dsimp only
  rw [w2,Option.bind_some]
  dsimp only
  rw [dne,if_neg (by simp),if_pos allT,if_neg (by simp),if_pos allT,bwithin]
  have fin : ∀ (A : Option Bool),(a3 = 0 → v3 = 0 → A = some true) → (if decide (a3 ≠ 0) = true then some true else if decide (v3 ≠ 0) = true then some true else A) = some true:=by
    intro A hA
    by_cases x : a3 = 0
    · rw [if_neg (by simpa using x)]
      by_cases y : v3 = 0
      · rw [if_neg (by simpa using y)];exact hA x y
      · rw [if_pos (by simpa using y)]
    · rw [if_pos (by simpa using x)]
  have cmp : ∀ (x : a3 = 0) (y : v3 = 0),((base_Compare a1 a2 v1 v2).bind fun z=>some (decide (z ≤ 0))) = some true:=by
    intro x y
    obtain ⟨z,hz,hz'⟩:=last x y
    rw [hz,Option.bind_some,decide_eq_true hz']
  by_cases q1 : 0 ≤ v ∧ v ≤ 1000
  rotate_left
  · rw [if_neg q1,if_neg (by simp),if_pos q1,if_pos (by simp)]
    exact fin _ cmp
  rw [if_pos q1,if_pos rfl,if_neg (not_not_intro q1)]
  by_cases q2 : v3 = 0
  rotate_left
  · rw [if_neg (by simpa using q2),if_pos q2,if_pos (by simp)]
    exact fin _ cmp
  rw [if_pos (by simpa using q2),if_neg (not_not_intro q2)]
  obtain ⟨e1,e2,e3,e4⟩:=hwok q2
  have hb:=hbd q2
  have hv:=hwv q2
  obtain ⟨b1,b2,g,k1,k2,k3⟩:=low_bd (a:=B) (b:=W) (by omega) (by omega)
  simp only [Prod.mk.injEq] at hv
  rw [← hv.1] at b1 k2
  rw [← hv.2.1] at b2 k3
  rw [bcmp_eq (by omega) (by omega) (by omega) (by omega),Option.bind_some]
  have key : (v * W ≤ B) ↔ 0 ≤ v1 * 1 - v * v2:=by
    have e : B - v * W = g * (v1 * 1 - v * v2):=by
      rw [Int.mul_one,Int.mul_sub,← k2,Int.mul_left_comm,← k3]
    constructor
    · intro hle
      refine Decidable.byContradiction fun hn=>?_
      have:=Int.mul_neg_of_pos_of_neg k1 (show v1 * 1 - v * v2 < 0 by omega)
      omega
    · intro hle
      have:=Int.mul_nonneg (Int.le_of_lt k1) hle
      omega
  by_cases q3 : v * W ≤ B
  · have h0:=key.1 q3
    have hz : 0 ≤ sgn (v1 * 1 - v * v2):=by unfold sgn;split<;>(try split)<;>omega
    rw [if_pos q3,if_pos (by simpa using hz),if_pos (by simp)]
    exact fin _ cmp
  · have h0 : ¬ 0 ≤ v1 * 1 - v * v2:=fun g=>q3 (key.2 g)
    have hz : ¬ 0 ≤ sgn (v1 * 1 - v * v2):=by unfold sgn;rw [if_pos (by omega)];omega
    rw [if_neg q3,if_neg (by simpa using hz),if_pos (by simp [q2])]
    exact fin _ cmp
end Go.Rex

namespace Go.Rex
open Go Go.ChangeShapes Go.WideShapes Go.ChangeAt Go.RowKit Go.Joins Go.Proofs
/-! ### arguments: what they are as trees,and the names of their blocks -/
structure Arg (W : World) (v' : Value) (p : TV) (bs : List Blk) (is : List Info) (av : Nat → Value) : Prop where
  vr : ∀ (D : Nat → Prop) (m : NMap) n,(∀ j,j < bs.length → D (n + j)) → (∀ (j : Nat) i,is[j]? = some i → m (n + j) = i) → VR D m (av n) v'
  vl : ∀ (Fz : Nat → Prop) (h : List Blk) n,(∀ j,j < bs.length → Fz (n + j)) → (∀ (j : Nat) b,bs[j]? = some b → h[n + j]? = some b) → VL Fz h noL p (av n)
  ok : ∀ (D : Nat → Prop) (m : NMap) n,(∀ j,j < bs.length → D (n + j)) → (∀ (j : Nat) i,is[j]? = some i → m (n + j) = i) → ∀ (j : Nat) b,bs[j]? = some b → BlkOk D m W (n + j) b
  lt : ∀ (j : Nat) b i,bs[j]? = some b → is[j]? = some i → b ≠ .dead → i.block < W.heap.size
  len : is.length = bs.length
structure Args (W : World) (vs' : List Value) (ps : List TV) (bs : List Blk) (is : List Info) (av : Nat → List Value) : Prop where
  vr : ∀ (D : Nat → Prop) (m : NMap) n,(∀ j,j < bs.length → D (n + j)) → (∀ (j : Nat) i,is[j]? = some i → m (n + j) = i) → VRs D m (av n) vs'
  vl : ∀ (Fz : Nat → Prop) (h : List Blk) n,(∀ j,j < bs.length → Fz (n + j)) → (∀ (j : Nat) b,bs[j]? = some b → h[n + j]? = some b) → VLs Fz h noL ps (av n)
  ok : ∀ (D : Nat → Prop) (m : NMap) n,(∀ j,j < bs.length → D (n + j)) → (∀ (j : Nat) i,is[j]? = some i → m (n + j) = i) → ∀ (j : Nat) b,bs[j]? = some b → BlkOk D m W (n + j) b
  lt : ∀ (j : Nat) b i,bs[j]? = some b → is[j]? = some i → b ≠ .dead → i.block < W.heap.size
  len : is.length = bs.length
/-- the names of the arguments -/
def nm (is : List Info) : NMap:=fun n=>is.getD n ⟨0,0,0,0⟩
section
variable {W : World} {vs' : List Value} {ps : List TV} {bs : List Blk} {is : List Info} {av : Nat → List Value}
end
theorem len1 {α : Type} {l : List α} (h : l.length = 1) : ∃ x0,l = [x0]:=by
  match l,h with
  | [x0],_=>exact ⟨_,rfl⟩
theorem len2 {α : Type} {l : List α} (h : l.length = 2) : ∃ x0 x1,l = [x0,x1]:=by
  match l,h with
  | [x0,x1],_=>exact ⟨_,_,rfl⟩
theorem len6 {α : Type} {l : List α} (h : l.length = 6) : ∃ x0 x1 x2 x3 x4 x5,l = [x0,x1,x2,x3,x4,x5]:=by
  match l,h with
  | [x0,x1,x2,x3,x4,x5],_=>exact ⟨_,_,_,_,_,_,rfl⟩
/-! ### arguments without names -/
def AtomV (c : Value) : Prop:=isAtom c = true ∧ ∀ D m,VR D m c c
theorem atomV_int (k : IntKind) (n : Int) : AtomV (.int k n):=⟨rfl,fun _ _=>.int _ _⟩
theorem Arg.atom {W : World} {v : Value} (h : AtomV v) : Arg W v (.v v) [] [] (fun _=>v) :=
  ⟨fun _ _ _ _ _=>h.2 _ _,fun _ _ _ _ _=>.v _ _ h.1,fun _ _ _ _ _ j b h=>by simp at h,fun j b i h=>by simp at h,rfl⟩
/-! ### a slice of rows -/
theorem flatMap_at {α β : Type} {g : α → List β} {es : Nat} (hg : ∀ x,(g x).length = es) (he : 0 < es) : ∀ (xs : List α) i,(xs.flatMap g)[i]? = (xs[i / es]?).bind fun x=>(g x)[i % es]?
  | [],i=>by simp
  | x :: t,i=>by
    rw [List.flatMap_cons]
    rcases Nat.lt_or_ge i es with h|h
    · rw [List.getElem?_append_left (by rw [hg];exact h),Nat.div_eq_of_lt h,Nat.mod_eq_of_lt h]
      rfl
    · rw [List.getElem?_append_right (by rw [hg];exact h),hg,flatMap_at hg he t (i - es)]
      have e1 : i / es = (i - es) / es + 1:=by rw [Nat.div_eq_sub_div he h]
      have e2 : i % es = (i - es) % es:=Nat.mod_eq_sub_mod h
      rw [e1,e2]
      rfl
theorem flatMap_len {α β : Type} {g : α → List β} {es : Nat} (hg : ∀ x,(g x).length = es) : ∀ (xs : List α),(xs.flatMap g).length = xs.length * es
  | []=>by simp
  | x :: t=>by rw [List.flatMap_cons,List.length_append,hg,flatMap_len hg t,List.length_cons,Nat.add_mul];omega
theorem flatMap_map {α : Type} {f : α → List TV} {g : α → List Value} (hf : ∀ x,f x = (g x).map .v) : ∀ (xs : List α),(xs.map f).flatten = (xs.flatMap g).map .v
  | []=>rfl
  | x :: t=>by rw [List.map_cons,List.flatten_cons,flatMap_map hf t,List.flatMap_cons,List.map_append,hf]
theorem choose_list {α : Type} {Q : Nat → α → Prop} : ∀ n,(∀ i,i < n → ∃ x,Q i x) → ∃ xs : List α,xs.length = n ∧ ∀ (i : Nat) x,xs[i]? = some x → Q i x
  | 0,_=>⟨[],rfl,fun i x h=>by simp at h⟩
  | n + 1,h=>by
    obtain ⟨xs,hl,hq⟩:=choose_list n (fun i hi=>h i (by omega))
    obtain ⟨x,hx⟩:=h n (by omega)
    refine ⟨xs ++ [x],by simp [hl],fun i y hy=>?_⟩
    rcases Nat.lt_or_ge i n with hi|hi
    · rw [List.getElem?_append_left (by omega)] at hy
      exact hq i y hy
    · rw [List.getElem?_append_right (by omega),hl] at hy
      have : i = n:=by
        rcases Nat.lt_or_ge 0 (i - n) with g|g
        · rw [List.getElem?_eq_none (by simp;omega)] at hy;cases hy
        · omega
      subst this
      simp at hy
      subst hy
      exact hx
section
variable {H : Type} {enc : TypeId × Value → H} {W : World} {base : Nat} {spare : Nat → Bool} {held : Bool}
theorem open_rowsC {α : Type} {f : α → List TV} {g : α → List Value} {es : Nat} (he : 0 < es) (hf : ∀ x, f x = (g x).map .v) (hg : ∀ x, (g x).length = es) (hat : ∀ x, ∀ c ∈ g x, AtomV c)
    {P : Program} {t te : TypeId} (ht : P.underlying t = some (.slice te)) (hC : P.cellsOf te = es) {r : Reach} {b0 : Nat} {v' : Value} (hval : Cell.okWide P W r b0 t v')
    (elem : ∀ n cs y,DataW.trod enc P W base spare held n te cs = some y → cs.length = es → ∃ x : α,cs = g x)
    {fuel : Nat} {x : DataW H × List MemPlace} (h : DataW.trod enc P W base spare held fuel t [v'] = some x) : ∃ (xs : List α) (bs : List Blk) (is : List Info) (av : Nat → Value),Arg W v' (.list es (xs.map f)) bs is av:=by
  rcases DataW.trod_slice ht h with ⟨hv,_⟩|⟨a,len,cap,elems,rest,n,_,hv,_,hb,hlc,hcm,hel,hel2,_,_⟩
  · obtain rfl : v' = .slice none 0 0:=by simpa using hv
    exact ⟨[],[],[],fun _=>.slice none 0 0,fun _ _ _ _ _=>.nilSlice 0 0,fun _ _ _ _ _=>.nillist _ _,fun _ _ _ _ _ j b h=>by simp at h,fun j b i h=>by simp at h,rfl⟩
  · obtain rfl : v' = .slice (some a) len cap:=by simpa using hv
    have hok : len ≤ cap ∧ (cap : Int) ≤ IntKind.i64.max ∧ W.has P r b0 a te cap:=by
      unfold Cell.okWide at hval
      simp only [ht] at hval
      unfold Cell.ok at hval
      simpa only [ht] using hval
    obtain ⟨gb,o,s⟩:=a
    obtain ⟨_,_,_,hs,row,cells,hsh,_⟩:=hok
    simp only at hs hsh
    subst hs
    have hgb : gb < W.heap.size:=by
      unfold World.shape? at hsh
      rcases Nat.lt_or_ge gb W.heap.size with hg|hg
      · exact hg
      · rw [Array.getElem?_eq_none hg] at hsh
        simp at hsh
    have key : ∀ i,i < len → ∃ x : α,∀ j,j < es → W.cell? ⟨gb,o + i * es + j,none⟩ = (g x)[j]?:=fun i hi=>by
      have h1:=hel2 i hi
      rw [List.getElem?_eq_getElem (by omega),Option.bind_eq_some_iff] at h1
      obtain ⟨cs,hcs,htr⟩:=h1
      rw [hC] at hcs
      unfold World.cells? at hcs
      split at hcs
      · have hlen:=mapM_some_length hcs
        simp at hlen
        obtain ⟨x,rfl⟩:=elem n cs _ htr hlen
        refine ⟨x,fun j hj=>?_⟩
        have:=mapM_some_get hcs j j (by simp [hj])
        have e : ((⟨gb,o,none⟩ : Addr).add (i * es)).add j = ⟨gb,o + i * es + j,none⟩:=by
          unfold Addr.add
          split<;>split<;>simp_all
        rw [← e]
        exact this
      · cases hcs
    obtain ⟨xs,hl,hq⟩:=choose_list len key
    subst hl
    have hlen:=flatMap_len hg xs
    have hfl:=flatMap_map hf xs
    refine ⟨xs,[.cells es (xs.flatMap g)],[⟨gb,o,cap * es,es⟩],fun n=>.slice (some ⟨n,0,none⟩) xs.length xs.length,fun D m n hD hm=>?_,fun Fz h n hF hh=>?_,fun D m n hD hm j b hb=>?_,fun j b i hb hi hd=>?_,rfl⟩
    · have e:=hm 0 _ rfl
      rw [Nat.add_zero] at e
      have:=VR.slice (D:=D) (m:=m) n 0 xs.length xs.length cap (hD 0 (by simp)) (Nat.le_refl _) hlc (.inr (by rw [e];simp))
      rw [e] at this
      exact this
    · have hw : ∀ r ∈ xs.map f,r.length = es:=fun r hr=>by obtain ⟨x,_,rfl⟩:=List.mem_map.1 hr;rw [hf,List.length_map,hg]
      have:=VL.list (Fz:=Fz) (h:=h) noL es (xs.map f) n 0 xs.length (xs.flatMap g) es (hF 0 (by simp)) (hh 0 _ rfl) (.inl rfl) hw (by simp) (by rw [List.length_map,hlen];omega) (fun j p x hp hx=>by
        rw [hfl,List.getElem?_map,Option.map_eq_some_iff] at hp
        rw [Nat.zero_add] at hx
        obtain ⟨y,h1,rfl⟩:=hp
        obtain rfl : y = x:=Option.some.inj (h1.symm.trans hx)
        obtain ⟨z,_,hz⟩:=List.mem_flatMap.1 (List.mem_of_getElem? hx)
        exact .v _ _ (hat z y hz).1)
      rw [List.length_map] at this
      exact this
    · match j,hb with
      | 0,hb =>
        obtain rfl:=Option.some.inj hb
        have e:=hm 0 _ rfl
        rw [Nat.add_zero] at e ⊢
        refine ⟨by rw [e],fun i v hv=>⟨v,?_,?_⟩⟩
        · rw [flatMap_at hg he,Option.bind_eq_some_iff] at hv
          obtain ⟨x,hx,hv⟩:=hv
          rw [e]
          have:=hq _ x hx (i % es) (Nat.mod_lt _ he)
          rw [Nat.add_assoc,Nat.mul_comm,Nat.div_add_mod] at this
          rw [this]
          exact hv
        · obtain ⟨z,_,hz⟩:=List.mem_flatMap.1 (List.mem_of_getElem? hv)
          exact (hat z v hz).2 _ _
      | j + 1,hb=>simp at hb
    · match j,hb,hi with
      | 0, hb, hi => obtain rfl := Option.some.inj hi
                     exact hgb
      | j + 1,hb,hi=>simp at hb
/-! ### aggregates of ints -/
def AI (cs : List Value) : Prop:=∀ c ∈ cs,∃ n : Int,c = .int .i64 n
theorem AI.list {cs : List Value} (h : AI cs) : ∃ l : List Int,cs = l.map (.int .i64):=by
  induction cs with
  | nil=>exact ⟨[],rfl⟩
  | cons c t ih =>
    obtain ⟨n,rfl⟩:=h c (by simp)
    obtain ⟨l,rfl⟩:=ih fun c hc=>h c (by simp [hc])
    exact ⟨n :: l,rfl⟩
variable {P : Program}
theorem ai_int {te : TypeId} (ht : P.underlying te = some (.int .i64)) {fuel : Nat} {cs : List Value} {x : DataW H × List MemPlace} (h : DataW.trod enc P W base spare held fuel te cs = some x) : AI cs:=by
  obtain ⟨n,rfl,_⟩:=DataW.trod_int ht h
  exact fun c hc=>⟨n,by simpa using hc⟩
theorem okW_int {t : TypeId} (ht : P.underlying t = some (.int .i64)) {r : Reach} {b : Nat} {v : Value} (w : Cell.okWide P W r b t v) : ∃ n : Int,v = .int .i64 n:=by
  unfold Cell.okWide at w
  simp only [ht] at w
  unfold Cell.ok at w
  simp only [ht] at w
  cases v<;>first|exact ⟨_,by rw [w.1]⟩|exact absurd w (by simp)
theorem open_int {t : TypeId} (ht : P.underlying t = some (.int .i64)) {r : Reach} {b : Nat} {v : Value} (w : Value.okWide P W r b t v) : ∃ n : Int,v = .int .i64 n:=by
  unfold Value.okWide at w
  simp only [ht] at w
  exact okW_int ht w
theorem open_cells {t : TypeId} {fs : Array Field} {ts : List TypeId} (ht : P.underlying t = some (.struct fs)) (hct : P.cellTypes P.depth t = some ts) (hn : P.cellsOf t = ts.length) {r : Reach} {b : Nat} {v : Value} (w : Value.okWide P W r b t v) :
    ∃ cs : List Value,v = .agg ⟨cs⟩ ∧ cs.length = ts.length ∧ ∀ (j : Nat) c u,cs[j]? = some c → ts[j]? = some u → Cell.okWide P W r b u c:=by
  unfold Value.okWide at w
  simp only [ht] at w
  obtain ⟨cs,rfl,hs,ts',hts,_,hc⟩:=w
  rw [hct] at hts
  obtain rfl:=Option.some.inj hts
  obtain ⟨l⟩:=cs
  have hl : l.length = ts.length:=by simpa [hn] using hs
  refine ⟨l,rfl,hl,fun j c u hj hu=>?_⟩
  obtain ⟨u',hu',hok⟩:=hc j c (by simpa using hj)
  rw [Nat.mod_eq_of_lt (by have:=(List.getElem?_eq_some_iff.1 hj).1;omega)] at hu'
  obtain rfl:=Option.some.inj (hu.symm.trans hu')
  exact hok
theorem st_field {t : TypeId} {fs : Array Field} {i : Nat} {f : Field} (ht : P.underlying t = some (.struct fs)) (hf : fs[i]? = some f) {fuel : Nat} {cs : List Value} {x : DataW H × List MemPlace} (h : DataW.trod enc P W base spare held fuel t cs = some x) :
    ∃ n y,DataW.trod enc P W base spare held n f.type ((cs.drop f.offset).take (P.cellsOf f.type)) = some y:=by
  obtain ⟨xs,n,_,_,hl,hx,hi⟩:=DataW.trod_struct ht h
  have:=hi i f hf
  have hil : i < fs.size:=(Array.getElem?_eq_some_iff.1 hf).1
  rw [List.getElem?_eq_getElem (by omega)] at this
  exact ⟨n,_,this⟩
end
end Go.Rex

namespace Go.Rex
open Go Go.ChangeShapes Go.WideShapes Go.ChangeAt Go.RowKit Go.Joins Go.Proofs
/-! ### arguments whose blocks name one another: lists of lists -/
structure NArg (W : World) (v' : Value) (p : TV) (bs : Nat → List Blk) (is : List Info) (av : Nat → Value) : Prop where
  vr : ∀ (D : Nat → Prop) (m : NMap) n,(∀ j,j < is.length → D (n + j)) → (∀ (j : Nat) i,is[j]? = some i → m (n + j) = i) → VR D m (av n) v'
  vl : ∀ (Fz : Nat → Prop) (h : List Blk) n,(∀ j,j < is.length → Fz (n + j)) → (∀ (j : Nat) b,(bs n)[j]? = some b → h[n + j]? = some b) → VL Fz h noL p (av n)
  ok : ∀ (D : Nat → Prop) (m : NMap) n,(∀ j,j < is.length → D (n + j)) → (∀ (j : Nat) i,is[j]? = some i → m (n + j) = i) → ∀ (j : Nat) b,(bs n)[j]? = some b → BlkOk D m W (n + j) b
  lt : ∀ n (j : Nat) b i,(bs n)[j]? = some b → is[j]? = some i → b ≠ .dead → i.block < W.heap.size
  len : ∀ n,(bs n).length = is.length
structure NArgs (W : World) (vs' : List Value) (ps : List TV) (bs : Nat → List Blk) (is : List Info) (av : Nat → List Value) : Prop where
  vr : ∀ (D : Nat → Prop) (m : NMap) n,(∀ j,j < is.length → D (n + j)) → (∀ (j : Nat) i,is[j]? = some i → m (n + j) = i) → VRs D m (av n) vs'
  vl : ∀ (Fz : Nat → Prop) (h : List Blk) n,(∀ j,j < is.length → Fz (n + j)) → (∀ (j : Nat) b,(bs n)[j]? = some b → h[n + j]? = some b) → VLs Fz h noL ps (av n)
  ok : ∀ (D : Nat → Prop) (m : NMap) n,(∀ j,j < is.length → D (n + j)) → (∀ (j : Nat) i,is[j]? = some i → m (n + j) = i) → ∀ (j : Nat) b,(bs n)[j]? = some b → BlkOk D m W (n + j) b
  lt : ∀ n (j : Nat) b i,(bs n)[j]? = some b → is[j]? = some i → b ≠ .dead → i.block < W.heap.size
  len : ∀ n,(bs n).length = is.length
theorem Arg.n {W : World} {v' : Value} {p : TV} {bs : List Blk} {is : List Info} {av : Nat → Value} (a : Arg W v' p bs is av) : NArg W v' p (fun _=>bs) is av :=
  ⟨fun D m n hD hm=>a.vr D m n (by rw [← a.len];exact hD) hm,fun Fz h n hF hh=>a.vl Fz h n (by rw [← a.len];exact hF) hh,fun D m n hD hm=>a.ok D m n (by rw [← a.len];exact hD) hm,fun _=>a.lt,fun _=>a.len.symm⟩
theorem NArgs.nil (W : World) : NArgs W [] [] (fun _=>[]) [] (fun _=>[]) :=
  ⟨fun _ _ _ _ _=>⟨rfl,fun i a a' h=>by simp at h⟩,fun _ _ _ _ _=>.nil,fun _ _ _ _ _ j b h=>by simp at h,fun _ j b i h=>by simp at h,fun _=>rfl⟩
theorem NArgs.cons {W : World} {v' : Value} {p : TV} {bs bs2 : Nat → List Blk} {is is2 : List Info} {av : Nat → Value} {vs' : List Value} {ps : List TV} {avs : Nat → List Value}
    (a : NArg W v' p bs is av) (az : NArgs W vs' ps bs2 is2 avs) : NArgs W (v' :: vs') (p :: ps) (fun n=>bs n ++ bs2 (n + is.length)) (is ++ is2) (fun n=>av n :: avs (n + is.length)):=by
  have cD : ∀ (D : Nat → Prop) n,(∀ j,j < (is ++ is2).length → D (n + j)) → (∀ j,j < is.length → D (n + j)) ∧ (∀ j,j < is2.length → D (n + is.length + j)):=by
    intro D n h
    refine ⟨fun j hj=>h j (by simp;omega),fun j hj=>?_⟩
    have:=h (is.length + j) (by simp;omega)
    rwa [← Nat.add_assoc] at this
  have cI : ∀ (m : NMap) n,(∀ (j : Nat) i,(is ++ is2)[j]? = some i → m (n + j) = i) → (∀ (j : Nat) i,is[j]? = some i → m (n + j) = i) ∧ (∀ (j : Nat) i,is2[j]? = some i → m (n + is.length + j) = i):=by
    intro m n h
    refine ⟨fun j i hj=>h j i (by rw [List.getElem?_append_left (List.getElem?_eq_some_iff.1 hj).1];exact hj),fun j i hj=>?_⟩
    have:=h (is.length + j) i (by rw [List.getElem?_append_right (by omega),Nat.add_sub_cancel_left];exact hj)
    rwa [← Nat.add_assoc] at this
  refine ⟨fun D m n hD hm=>?_,fun Fz h n hF hh=>?_,fun D m n hD hm j b hb=>?_,fun n j b i hb hi hd=>?_,fun n=>by simp [a.len,az.len]⟩
  · have h1:=a.vr D m n (cD D n hD).1 (cI m n hm).1
    have h2:=az.vr D m (n + is.length) (cD D n hD).2 (cI m n hm).2
    refine ⟨by simp [h2.len],fun i x x' hx hx'=>?_⟩
    cases i with
    | zero=>simp at hx hx';subst hx hx';exact h1
    | succ i=>simp at hx hx';exact h2.at' i x x' hx hx'
  · refine .cons (a.vl Fz h n (cD Fz n hF).1 fun j b hb=>hh j b (by rw [List.getElem?_append_left (List.getElem?_eq_some_iff.1 hb).1];exact hb)) (az.vl Fz h (n + is.length) (cD Fz n hF).2 fun j b hb=>?_)
    have:=hh (is.length + j) b (by rw [List.getElem?_append_right (by rw [a.len];omega),a.len,Nat.add_sub_cancel_left];exact hb)
    rwa [← Nat.add_assoc] at this
  · rcases Nat.lt_or_ge j is.length with hj|hj
    · rw [List.getElem?_append_left (by rw [a.len];exact hj)] at hb
      exact a.ok D m n (cD D n hD).1 (cI m n hm).1 j b hb
    · rw [List.getElem?_append_right (by rw [a.len];exact hj),a.len] at hb
      have:=az.ok D m (n + is.length) (cD D n hD).2 (cI m n hm).2 _ b hb
      rwa [show n + is.length + (j - is.length) = n + j by omega] at this
  · rcases Nat.lt_or_ge j is.length with hj|hj
    · rw [List.getElem?_append_left (by rw [a.len];exact hj)] at hb
      rw [List.getElem?_append_left hj] at hi
      exact a.lt n j b i hb hi hd
    · rw [List.getElem?_append_right (by rw [a.len];exact hj),a.len] at hb
      rw [List.getElem?_append_right hj] at hi
      exact az.lt _ _ b i hb hi hd
section
variable {W : World} {vs' : List Value} {ps : List TV} {bs : Nat → List Blk} {is : List Info} {av : Nat → List Value}
/-- the names of the variables of packages come first -/
def gnm (is : List Info) : NMap:=fun k=>if k < NG then gm k else is.getD (k - NG) ⟨0,0,0,0⟩
theorem gnm_at {is : List Info} {j : Nat} {i : Info} (h : is[j]? = some i) : gnm is (NG + j) = i:=by
  unfold gnm
  rw [if_neg (by omega),Nat.add_sub_cancel_left,List.getD_eq_getElem?_getD,h]
  rfl
theorem gh_len : GH.length = NG:=rfl
theorem NArgs.rel (a : NArgs W vs' ps bs is av) (hw : GW W) (hs : NG ≤ W.heap.size) : Rel W.heap.size (GH ++ bs NG).length (fun k=>k < (GH ++ bs NG).length) (gnm is) (GH ++ bs NG) W:=by
  have hl:=a.len NG
  have hn : (GH ++ bs NG).length = NG + is.length:=by rw [List.length_append,gh_len,hl]
  have old : ∀ k,k < NG → gnm is k = gm k:=fun k hk=>if_pos hk
  have parts : ∀ n b,n < (GH ++ bs NG).length → (GH ++ bs NG)[n]? = some b → (n < NG ∧ GH[n]? = some b) ∨ ∃ j,n = NG + j ∧ (bs NG)[j]? = some b:=by
    intro n b hn' hb
    rcases Nat.lt_or_ge n NG with h|h
    · rw [List.getElem?_append_left h] at hb;exact .inl ⟨h,hb⟩
    · rw [List.getElem?_append_right h,gh_len] at hb;exact .inr ⟨n - NG,by omega,hb⟩
  have st:=Rel.start W hw hs
  have lt : ∀ n b,n < (GH ++ bs NG).length → (GH ++ bs NG)[n]? = some b → b ≠ .dead → (gnm is n).block < W.heap.size:=by
    intro n b hn' hb hd
    rcases parts n b hn' hb with ⟨h1,h2⟩|⟨j,rfl,h2⟩
    · rw [old n h1];exact st.lt n b h1 h2 hd
    · have hj : j < is.length:=by omega
      rw [gnm_at (List.getElem?_eq_getElem hj)]
      exact a.lt NG j b _ h2 (List.getElem?_eq_getElem hj) hd
  refine ⟨Nat.le_refl _,fun _ h=>h,fun n b hn' hb=>?_,lt,fun n b hD hl=>absurd hD (by omega),fun n b hn' _ hb hd=>lt n b hn' hb hd,fun n b hD hl=>absurd hD (by omega),fun n n' b b' hD _ hl=>absurd hD (by omega),⟨fun g hg=>⟨?_,?_⟩,hs,hw⟩⟩
  · rcases parts n b hn' hb with ⟨h1,h2⟩|⟨j,rfl,h2⟩
    · exact (st.ok n b h1 h2).mono (fun k hk=>by have hk' : k < NG:=hk;show k < (GH ++ bs NG).length;omega) (fun k hk=>old k hk) (old n h1)
    · exact a.ok (fun k=>k < (GH ++ bs NG).length) (gnm is) NG (fun j hj=>by omega) (fun j i hi=>gnm_at hi) j b h2
  · show g < (GH ++ bs NG).length;omega
  · rw [old g hg];exact gm_at g
theorem NArgs.vls (a : NArgs W vs' ps bs is av) : VLs (fun k=>k < (GH ++ bs NG).length) (GH ++ bs NG) noL ps (av NG):=by
  have hn : (GH ++ bs NG).length = NG + is.length:=by rw [List.length_append,gh_len,a.len NG]
  exact a.vl _ _ NG (fun j hj=>by omega) (fun j b hb=>by rw [List.getElem?_append_right (by rw [gh_len];omega),gh_len,Nat.add_sub_cancel_left];exact hb)
theorem NArgs.vrs (a : NArgs W vs' ps bs is av) : VRs (fun k=>k < (GH ++ bs NG).length) (gnm is) (av NG) vs':=by
  have hn : (GH ++ bs NG).length = NG + is.length:=by rw [List.length_append,gh_len,a.len NG]
  exact a.vr _ _ NG (fun j hj=>by omega) (fun j i hi=>gnm_at hi)
theorem NArg.ofArgs (a : NArgs W vs' ps bs is av) : NArg W (.agg ⟨vs'⟩) (.agg ps) bs is (fun n=>.agg ⟨av n⟩) :=
  ⟨fun D m n hD hm=>.agg' (a.vr D m n hD hm),fun Fz h n hF hh=>.agg' (a.vl Fz h n hF hh),a.ok,a.lt,a.len⟩
/-- many arguments of a kind -/
theorem nargs_list {α : Type} {F : α → TV} : ∀ (vs' : List Value), (∀ c ∈ vs', ∃ (x : α) (bs : Nat → List Blk) (is : List Info) (av : Nat → Value), NArg W c (F x) bs is av) →
    ∃ (xs : List α) (bs : Nat → List Blk) (is : List Info) (av : Nat → List Value),xs.length = vs'.length ∧ NArgs W vs' (xs.map F) bs is av
  | [],_=>⟨[],_,_,_,rfl,NArgs.nil W⟩
  | c :: t,h=>by
    obtain ⟨xs,_,_,_,hl,a⟩:=nargs_list t (fun c hc=>h c (by simp [hc]))
    obtain ⟨x,_,_,_,b⟩:=h c (by simp)
    exact ⟨x :: xs,_,_,_,by simp [hl],NArgs.cons b a⟩
end
section
variable {H : Type} {enc : TypeId × Value → H} {W : World} {base : Nat} {spare : Nat → Bool} {held : Bool}
theorem cells_spot {gb : Nat} {o : Nat} {s : Option Nat} {k : Nat} {v : Value} (h : W.cell? ⟨gb,o + k,s⟩ = some v) : s = none ∧ gb < W.heap.size:=by
  unfold World.cell? at h
  split at h
  · rename_i hb
    refine ⟨?_,?_⟩
    · cases s with
      | none=>rfl
      | some s=>simp at h
    · rcases Nat.lt_or_ge gb W.heap.size with hg|hg
      · exact hg
      · rw [Array.getElem?_eq_none hg] at hb
        cases hb
  · cases h
/-- a slice that can be read: a row of values that can be read -/
theorem open_any {P : Program} {t te : TypeId} (ht : P.underlying t = some (.slice te)) {es : Nat} (he : 0 < es) (hC : P.cellsOf te = es) {v' : Value} {fuel : Nat} {x : DataW H × List MemPlace} (h : DataW.trod enc P W base spare held fuel t [v'] = some x) :
    v' = .slice none 0 0 ∨ (∃ a c,v' = .slice (some a) 0 c) ∨ ∃ gb o len cap n,v' = .slice (some ⟨gb,o,none⟩) len cap ∧ 0 < len ∧ len ≤ cap ∧ gb < W.heap.size ∧
      ∀ i,i < len → ∃ cs y,cs.length = es ∧ DataW.trod enc P W base spare held n te cs = some y ∧ ∀ j,j < es → W.cell? ⟨gb,o + i * es + j,none⟩ = cs[j]?:=by
  rcases DataW.trod_slice ht h with ⟨hv,_⟩|⟨a,len,cap,elems,rest,n,_,hv,_,hb,hlc,hcm,hel,hel2,_,_⟩
  · exact .inl (by simpa using hv)
  · obtain rfl : v' = .slice (some a) len cap:=by simpa using hv
    rcases Nat.eq_zero_or_pos len with h0|h0
    · subst h0
      exact .inr (.inl ⟨a,cap,rfl⟩)
    · obtain ⟨gb,o,s⟩:=a
      have first : s = none ∧ gb < W.heap.size:=by
        have h1:=hel2 0 h0
        rw [List.getElem?_eq_getElem (by omega),Option.bind_eq_some_iff] at h1
        obtain ⟨cs,hcs,htr⟩:=h1
        rw [hC] at hcs
        unfold World.cells? at hcs
        split at hcs
        · have hlen:=mapM_some_length hcs
          simp at hlen
          have h2:=mapM_some_get hcs 0 0 (by simp [he])
          have e : ((⟨gb,o,s⟩ : Addr).add (0 * es)).add 0 = ⟨gb,o + 0,s⟩:=by simp [Addr.add]
          rw [e] at h2
          exact cells_spot (h2.trans (List.getElem?_eq_getElem (by omega)))
        · cases hcs
      obtain ⟨rfl,hgb⟩:=first
      refine .inr (.inr ⟨gb,o,len,cap,n,rfl,h0,hlc,hgb,fun i hi=>?_⟩)
      have h1:=hel2 i hi
      rw [List.getElem?_eq_getElem (by omega),Option.bind_eq_some_iff] at h1
      obtain ⟨cs,hcs,htr⟩:=h1
      rw [hC] at hcs
      unfold World.cells? at hcs
      split at hcs
      · have hlen:=mapM_some_length hcs
        simp at hlen
        refine ⟨cs,_,hlen,htr,fun j hj=>?_⟩
        have:=mapM_some_get hcs j j (by simp [hj])
        have e : ((⟨gb,o,none⟩ : Addr).add (i * es)).add j = ⟨gb,o + i * es + j,none⟩:=by
          unfold Addr.add
          split<;>split<;>simp_all
        rw [← e]
        exact this
      · cases hcs
/-- a slice of what can be read az trees -/
theorem open_lists {α : Type} {F : α → TV} {P : Program} {t te : TypeId} (ht : P.underlying t = some (.slice te)) (hC : P.cellsOf te = 1)
    (elem : ∀ n c y,DataW.trod enc P W base spare held n te [c] = some y → ∃ (x : α) (bs : Nat → List Blk) (is : List Info) (av : Nat → Value),NArg W c (F x) bs is av)
    {v' : Value} {fuel : Nat} {x : DataW H × List MemPlace} (h : DataW.trod enc P W base spare held fuel t [v'] = some x) : ∃ (xs : List α) (bs : Nat → List Blk) (is : List Info) (av : Nat → Value),NArg W v' (.list 1 (xs.map fun x=>[F x])) bs is av:=by
  rcases open_any ht (by decide) hC h with rfl|⟨a,c,rfl⟩|⟨gb,o,len,cap,n,rfl,h0,hlc,hgb,key⟩
  · exact ⟨[],fun _=>[],[],fun _=>.slice none 0 0,fun _ _ _ _ _=>.nilSlice 0 0,fun _ _ _ _ _=>.nillist _ _,fun _ _ _ _ _ j b h=>by simp at h,fun _ j b i h=>by simp at h,fun _=>rfl⟩
  · exact ⟨[],fun _=>[],[],fun _=>vag,fun _ _ _ _ _=>.vague a c,fun _ _ _ _ _=>.vague _ _,fun _ _ _ _ _ j b h=>by simp at h,fun _ j b i h=>by simp at h,fun _=>rfl⟩
  · have key2 : ∀ i, i < len → ∃ c : Value, W.cell? ⟨gb, o + i, none⟩ = some c ∧ ∃ y, DataW.trod enc P W base spare held n te [c] = some y := fun i hi => by
      obtain ⟨cs,y,hl,htr,hcell⟩:=key i hi
      obtain ⟨c,rfl⟩:=len1 hl
      refine ⟨c,?_,y,htr⟩
      have:=hcell 0 (by decide)
      simpa using this
    obtain ⟨cs,hcl,hq⟩:=choose_list len key2
    obtain ⟨xs,bs,is,avs,hxl,az⟩:=nargs_list (W:=W) (F:=F) cs (fun c hc=>by
      obtain ⟨i,hi,rfl⟩:=List.mem_iff_getElem.1 hc
      obtain ⟨_,y,hy⟩:=hq i _ (List.getElem?_eq_getElem hi)
      exact elem n _ y hy)
    subst hcl
    have sD : ∀ (D : Nat → Prop) n,(∀ j,j < is.length + 1 → D (n + j)) → D n ∧ ∀ j,j < is.length → D (n + 1 + j):=by
      intro D n hD
      refine ⟨by simpa using hD 0 (by omega),fun j hj=>?_⟩
      have:=hD (j + 1) (by omega)
      rwa [show n + 1 + j = n + (j + 1) by omega]
    have sI : ∀ (m : NMap) n,(∀ (j : Nat) i,((⟨gb,o,cap * 1,1⟩ : Info) :: is)[j]? = some i → m (n + j) = i) → m n = ⟨gb,o,cap * 1,1⟩ ∧ ∀ (j : Nat) i,is[j]? = some i → m (n + 1 + j) = i:=by
      intro m n hm
      refine ⟨by simpa using hm 0 _ rfl,fun j i hi=>?_⟩
      have:=hm (j + 1) i (by simpa using hi)
      rwa [show n + 1 + j = n + (j + 1) by omega]
    refine ⟨xs,fun n=>.cells 1 (avs (n + 1)) :: bs (n + 1),⟨gb,o,cap * 1,1⟩ :: is,fun n=>.slice (some ⟨n,0,none⟩) xs.length xs.length,fun D m n hD hm=>?_,fun Fz h n hF hh=>?_,fun D m n hD hm j b hb=>?_,fun n j b i hb hi hd=>?_,fun n=>by simp [az.len]⟩
    · have e:=(sI m n hm).1
      have:=VR.slice (D:=D) (m:=m) n 0 xs.length xs.length cap (sD D n (by simpa using hD)).1 (Nat.le_refl _) (by omega) (.inr (by rw [e];simp))
      rw [e] at this
      rw [hxl] at this ⊢
      exact this
    · have hs := az.vl Fz h (n + 1) (sD Fz n (by simpa using hF)).2 (fun j b hb => by
        have:=hh (j + 1) b (by simpa using hb)
        rwa [show n + 1 + j = n + (j + 1) by omega])
      have hlen:=hs.len
      have hflat : (xs.map fun x=>[F x]).flatten = xs.map F:=by
        clear hlen hs az hxl
        induction xs with
        | nil=>rfl
        | cons a t ih=>simp [ih]
      have h0':=hh 0 (.cells 1 (avs (n + 1))) rfl
      have:=VL.list (Fz:=Fz) (h:=h) noL 1 (xs.map fun x=>[F x]) n 0 xs.length (avs (n + 1)) 1 (sD Fz n (by simpa using hF)).1 h0' (.inl rfl) (fun r hr=>by obtain ⟨x,_,rfl⟩:=List.mem_map.1 hr;rfl) (by simp) (by simp only [List.length_map] at hlen ⊢;omega) (fun j p x hp hx=>by
        rw [hflat] at hp
        rw [Nat.zero_add] at hx
        exact hs.at' j p x hp hx)
      rw [List.length_map] at this
      exact this
    · cases j with
      | zero =>
        obtain rfl:=Option.some.inj hb
        have e:=(sI m n hm).1
        have hv:=az.vr D m (n + 1) (sD D n (by simpa using hD)).2 (sI m n hm).2
        rw [Nat.add_zero]
        refine ⟨by rw [e],fun i v hi=>?_⟩
        obtain ⟨v',h1,h2⟩:=hv.at hi
        refine ⟨v',?_,h2⟩
        rw [e]
        exact (hq i v' h1).1
      | succ j =>
        have:=az.ok D m (n + 1) (sD D n (by simpa using hD)).2 (sI m n hm).2 j b (by simpa using hb)
        rwa [show n + 1 + j = n + (j + 1) by omega] at this
    · cases j with
      | zero =>
        obtain rfl:=Option.some.inj hi
        exact hgb
      | succ j=>exact az.lt _ j b i (by simpa using hb) (by simpa using hi) hd
/-- a slice of ints that can be read -/
theorem open_ints {P : Program} {t te : TypeId} (ht : P.underlying t = some (.slice te)) (hte : P.underlying te = some (.int .i64)) (hC : P.cellsOf te = 1) {f : Int → List TV} (hf : ∀ x, f x = [.v (.int .i64 x)])
    {v' : Value} {fuel : Nat} {x : DataW H × List MemPlace} (h : DataW.trod enc P W base spare held fuel t [v'] = some x) : ∃ (xs : List Int) (bs : Nat → List Blk) (is : List Info) (av : Nat → Value),NArg W v' (.list 1 (xs.map f)) bs is av:=by
  obtain rfl : f = fun x=>[.v (.int .i64 x)]:=funext hf
  exact open_lists (F:=fun x : Int=>.v (.int .i64 x)) ht hC (fun n c y hy=>by
    obtain ⟨z,hz,_⟩:=DataW.trod_int hte hy
    obtain rfl : c = .int .i64 z:=by simpa using hz
    exact ⟨z,_,_,_,(Arg.atom (atomV_int .i64 z)).n⟩) h
end

section
variable {H : Type} {enc : TypeId × Value → H} {W : World} {base : Nat} {spare : Nat → Bool} {held : Bool}
end
end Go.Rex

open Go Go.Rex Go.Proofs
namespace Go.Rex
/-! ### what a row's listed variables hold,cell by cell -/
section
variable {P : Program} {w : World}
theorem listed_at : ∀ {l : List (String × DataW Unit)} {ps : List MemPlace}, DataW.LaidVars P w l ps → ∀ {n : String} {d : DataW Unit}, (n, d) ∈ l →
    ∃ g t cs fuel p,P.globalNamed n = some g ∧ (P.globals[g]?).map (·.type) = some t ∧ w.var? P n = some cs ∧ DataW.trod (fun _=>()) P w 0 (fun _=>true) false fuel t cs.toList = some (d,p)
  | [],_,_,_,_,hm=>by cases hm
  | (a,b) :: r,_,h,n,d,hm=>by
    obtain ⟨g,t,cs,fuel,p,q,h1,h2,h3,h4,h5,_⟩:=h
    rcases List.mem_cons.1 hm with e|e
    · cases e;exact ⟨g,t,cs,fuel,p,h1,h2,h3,h4⟩
    · exact listed_at h5 e
/-- the cells of data that hold no names, part after part -/
def catC (P : Program) (f : TypeId → DataW Unit → Option (List Value)) : List (TypeId × DataW Unit) → Option (List Value)
  | []=>some []
  | (t,d) :: r=>match f t d,catC P f r with
    | some a,some b=>some (a ++ b)
    | _,_=>none
def offsC (P : Program) : Nat → List Field → Option Nat
  | o,[]=>some o
  | o,f :: r=>if f.offset = o then offsC P (o + P.cellsOf f.type) r else none
def flatC (P : Program) : Nat → TypeId → DataW Unit → Option (List Value)
  | 0,_,_=>none
  | n + 1,t,d=>match P.underlying t,d with
    | some (.int k),.lit (.int _ z)=>some [.int k z]
    | some (.array m e),.agg ds=>if ds.length = m ∧ P.cellsOf t = m * P.cellsOf e then catC P (flatC P n) (ds.map fun d=>(e,d)) else none
    | some (.struct fs),.agg ds=>if ds.length = fs.size ∧ offsC P 0 fs.toList = some (P.cellsOf t) then catC P (flatC P n) ((fs.toList.map (·.type)).zip ds) else none
    | _,_=>none
abbrev RdC (P : Program) (w : World) (t : TypeId) (d : DataW Unit) (r : List Value) : Prop:=∃ fuel p,DataW.trod (fun _=>()) P w 0 (fun _=>true) false fuel t r = some (d,p)
theorem cat_eq {f : TypeId → DataW Unit → Option (List Value)} (hf : ∀ t d cs, f t d = some cs → ∀ r, RdC P w t d r → r = cs) : ∀ (l : List (TypeId × DataW Unit)) (cs r : List Value) (pos : Nat → Nat), catC P f l = some cs →
    (∀ i t d,l[i]? = some (t,d) → RdC P w t d ((r.drop (pos i)).take (P.cellsOf t)) ∧ pos (i + 1) = pos i + P.cellsOf t) → r.length = pos l.length → r.drop (pos 0) = cs
  | [],cs,r,pos,h,_,hl=>by
    cases h
    exact List.drop_eq_nil_of_le (by rw [hl];exact Nat.le_refl _)
  | (t,d) :: l,cs,r,pos,h,ha,hl=>by
    unfold catC at h
    split at h
    · rename_i a b e1 e2
      cases h
      obtain ⟨h1,h2⟩:=ha 0 t d rfl
      have k1:=hf t d a e1 _ h1
      have k2:=cat_eq hf l b r (fun i=>pos (i + 1)) e2 (fun i t d hi=>ha (i + 1) t d (by simpa using hi)) (by simpa using hl)
      rw [h2,← List.drop_drop] at k2
      rw [← List.take_append_drop (P.cellsOf t) (r.drop (pos 0)),k1,k2]
    · cases h
theorem offs_pos : ∀ (fs : List Field) (o e : Nat),offsC P o fs = some e → ∃ pos : Nat → Nat,pos 0 = o ∧ pos fs.length = e ∧ ∀ i f,fs[i]? = some f → f.offset = pos i ∧ pos (i + 1) = pos i + P.cellsOf f.type
  | [],o,e,h=>by cases h;exact ⟨fun _=>o,rfl,rfl,fun i f hf=>by simp at hf⟩
  | f :: r,o,e,h=>by
    unfold offsC at h
    split at h
    · rename_i ho
      obtain ⟨pos,h1,h2,h3⟩:=offs_pos r _ _ h
      refine ⟨fun|0=>o|i + 1=>pos i,rfl,h2,fun i g hg=>?_⟩
      cases i with
      | zero=>cases hg;exact ⟨ho,h1⟩
      | succ i=>exact h3 i g (by simpa using hg)
    · cases h
theorem flat_eq : ∀ (n : Nat) (t : TypeId) (d : DataW Unit) (cs : List Value),flatC P n t d = some cs → ∀ r,RdC P w t d r → r = cs:=by
  intro n
  induction n with
  | zero=>intro t d cs h;cases h
  | succ n ih =>
    intro t d cs h r ⟨fuel,p,hr⟩
    unfold flatC at h
    split at h
    · rename_i k k' z hu
      cases h
      obtain ⟨z',e1,e2,_⟩:=DataW.trod_int hu hr
      simp only [Prod.mk.injEq,DataW.lit.injEq,Lit.int.injEq] at e2
      rw [e1,e2.1.2]
    · rename_i m e ds hu
      split at h
      · rename_i hc
        obtain ⟨xs,m',_,e2,e3,e4,e5⟩:=DataW.trod_array hu hr
        simp only [Prod.mk.injEq,DataW.agg.injEq] at e2
        have:=cat_eq (w:=w) ih (ds.map fun d=>(e,d)) cs r (fun i=>i * P.cellsOf e) h (fun i t' d' hi=>by
          rw [List.getElem?_map,Option.map_eq_some_iff] at hi
          obtain ⟨x,hx,hh⟩:=hi
          simp only [Prod.mk.injEq] at hh
          obtain ⟨rfl,rfl⟩:=hh
          have hlt:=(List.getElem?_eq_some_iff.1 hx).1
          have hi5:=e5 i (by omega)
          rw [e2.1,List.getElem?_map,Option.map_eq_some_iff] at hx
          obtain ⟨y,hy,rfl⟩:=hx
          rw [hy] at hi5
          exact ⟨⟨_,_,hi5⟩,by rw [Nat.add_mul,Nat.one_mul]⟩) (by rw [List.length_map,hc.1,← hc.2];exact e3)
        simpa using this
      · cases h
    · rename_i fs ds hu
      split at h
      · rename_i hc
        obtain ⟨xs,m',_,e2,e3,e4,e5⟩:=DataW.trod_struct hu hr
        simp only [Prod.mk.injEq,DataW.agg.injEq] at e2
        obtain ⟨pos,p0,p1,p2⟩:=offs_pos _ _ _ hc.2
        have:=cat_eq (w:=w) ih ((fs.toList.map (·.type)).zip ds) cs r pos h (fun i t' d' hi=>by
          rw [List.getElem?_zip_eq_some,List.getElem?_map,Option.map_eq_some_iff] at hi
          obtain ⟨⟨f,hf,rfl⟩,hx⟩:=hi
          have hfs : fs[i]? = some f:=by simpa using hf
          have hi5:=e5 i f hfs
          obtain ⟨q1,q2⟩:=p2 i f hf
          rw [e2.1,List.getElem?_map,Option.map_eq_some_iff] at hx
          obtain ⟨y,hy,rfl⟩:=hx
          rw [hy,q1] at hi5
          exact ⟨⟨_,_,hi5⟩,q2⟩) (by
          have : ((fs.toList.map (·.type)).zip ds).length = fs.toList.length:=by simp [hc.1]
          rw [this,p1];exact e3)
        rw [p0] at this
        simpa using this
      · cases h
    · cases h
theorem listed_cells {l : List (String × DataW Unit)} (h : laidMet P l w) {n : String} {d : DataW Unit} (hm : (n, d) ∈ l) {g : Nat} {t : TypeId} {cs : List Value} (hg : P.globalNamed n = some g) (hty : (P.globals[g]?).map (·.type) = some t) (hf : flatC P 10 t d = some cs) :
    ∀ (i : Nat) v,cs[i]? = some v → w.cell? ⟨g,i,none⟩ = some v:=by
  obtain ⟨ps,hv,_⟩:=h
  obtain ⟨g',t',cs',fuel,p,h1,h2,h3,h4⟩:=listed_at hv hm
  obtain rfl:=Option.some.inj (hg.symm.trans h1)
  obtain rfl:=Option.some.inj (hty.symm.trans h2)
  have e:=flat_eq (w:=w) 10 _ _ _ hf _ ⟨_,_,h4⟩
  intro i v hi
  rw [World.var?_cell h1 h3]
  rw [← e] at hi
  simpa using hi
end
/-- what is known of the variables, one after the other -/
def AllC (w : World) : Nat → List (Nat × List Value) → Prop
  | _,[]=>True
  | g,p :: r=>(∀ (i : Nat) v,p.2[i]? = some v → w.cell? ⟨g,i,none⟩ = some v) ∧ AllC w (g + 1) r
theorem allC_at {w : World} : ∀ (l : List (Nat × List Value)) (g k : Nat) (p : Nat × List Value),AllC w g l → l[k]? = some p → ∀ (i : Nat) v,p.2[i]? = some v → w.cell? ⟨g + k,i,none⟩ = some v
  | [],_,_,_,_,h=>by simp at h
  | q :: r,g,0,p,h,hk=>by cases hk;exact h.1
  | q :: r,g,k + 1,p,h,hk=>by
    have:=allC_at r (g + 1) k p h.2 (by simpa using hk)
    rw [show g + (k + 1) = g + 1 + k by omega]
    exact this
theorem noCells {w : World} {g : Nat} : ∀ (i : Nat) v,([] : List Value)[i]? = some v → w.cell? ⟨g,i,none⟩ = some v:=fun i v h=>by simp at h
theorem gh_size {w : World} {g : Nat} {v : Value} (h : w.cell? ⟨g,0,none⟩ = some v) : g < w.heap.size:=by
  unfold World.cell? at h
  rcases Nat.lt_or_ge g w.heap.size with q|q
  · exact q
  · rw [Array.getElem?_eq_none q] at h
    simp at h
theorem gw_all {w : World} (h : AllC w 0 ghCells) : GW w:=fun g es c hg i v hv=>by
  unfold GH at hg
  rw [List.getElem?_map,Option.map_eq_some_iff] at hg
  obtain ⟨p,hp,e⟩:=hg
  cases e
  have:=allC_at ghCells 0 g p h hp i v hv
  rwa [Nat.zero_add] at this
end Go.Rex
