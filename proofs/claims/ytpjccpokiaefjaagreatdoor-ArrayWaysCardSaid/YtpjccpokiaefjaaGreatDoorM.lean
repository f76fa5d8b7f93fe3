/- What these functions return: facts on lists and numbers. -/
import Derived.Test.YtpjccpokiaefjaaGreatDoorRexG7
import Derived.Test.YtpjccpokiaefjaaGreatDoorS
import Derived.ProofKit
import Derived.OpenShut
import Derived.ShutString
import Derived.ChangeOld
import Derived.Below
import Derived.Lib.SmallJoins
import Derived.ChangeShapes
import Derived.ChangeArms
import Derived.WideShapes
import Derived.Lay
import Derived.MakeChecks
import Derived.SevenTiedAt
set_option linter.unusedSimpArgs false
set_option linter.unusedVariables false
set_option linter.defProp false
namespace Go.Rex
/-! ### plain facts for shallow functions -/
theorem w64 {x : Int} (h : -9223372036854775808 ≤ x ∧ x ≤ 9223372036854775807) : IntKind.i64.wrap x = x:=IntWalk.i64_in x (by omega)
theorem getI_nat {α : Type} {xs : List α} {k : Nat} : getI xs (k : Int) = xs[k]?:=by
  unfold getI
  rw [if_pos (by omega),Int.toNat_natCast]
end Go.Rex

namespace Go.Rex
/-! ### a loop that walks a list,gathers,and may end early -/
end Go.Rex

open Go Go.Rex
namespace Go.Rex
set_option maxRecDepth 100000
/-! ### loops,once more -/
/-- the first one that has an answer -/
def firstOf {ε : Type} (p : Nat → Option ε) (n : Nat) : Option ε:=(List.range n).findSome? p
theorem firstOf_none {ε : Type} {p : Nat → Option ε} {n : Nat} : firstOf p n = none ↔ ∀ k,k < n → p k = none:=by
  unfold firstOf
  rw [List.findSome?_eq_none_iff]
  constructor
  · intro h k hk;exact h k (List.mem_range.2 hk)
  · intro h k hk;exact h k (List.mem_range.1 hk)
theorem firstOf_succ {ε : Type} {p : Nat → Option ε} {n : Nat} : firstOf p (n + 1) = match firstOf p n with|some e=>some e|none=>p n:=by
  unfold firstOf
  rw [List.range_succ,List.findSome?_append]
  cases h : List.findSome? p (List.range n) with
  | some e=>rfl
  | none=>simp
theorem run_find {ε δ : Type} {step : Int → Option (Int ⊕ (ε ⊕ δ))} {n : Nat} {p : Nat → Option ε} {r : δ}
    (h : ∀ k : Nat,k < n → (∀ j,j < k → p j = none) → step (k : Int) = some (match p k with|none=>.inl ((k + 1 : Nat) : Int)|some e=>.inr (.inl e))) (he : (∀ j,j < n → p j = none) → step (n : Int) = some (.inr (.inr r))) : run step 0 = some (match firstOf p n with|some e=>.inl e|none=>.inr r):=by
  suffices H : ∀ m,m ≤ n → firstOf p m = none → run step 0 = run step (m : Int) by
    cases hf : firstOf p n with
    | none =>
      simp only
      rw [H n (Nat.le_refl _) hf]
      exact run_stop (he (firstOf_none.1 hf))
    | some e =>
      simp only
      have : ∃ m,m < n ∧ firstOf p m = none ∧ p m = some e:=by
        clear h he H
        induction n with
        | zero=>simp [firstOf] at hf
        | succ n ih =>
          rw [firstOf_succ] at hf
          cases hn : firstOf p n with
          | none=>rw [hn] at hf;exact ⟨n,by omega,hn,hf⟩
          | some e'=>rw [hn] at hf;cases hf;obtain ⟨m,h1,h2⟩:=ih hn;exact ⟨m,by omega,h2⟩
      obtain ⟨m,hm,h1,h2⟩:=this
      rw [H m (by omega) h1]
      have:=h m hm (firstOf_none.1 h1)
      rw [h2] at this
      exact run_stop this
  intro m
  induction m with
  | zero=>intro _ _;rfl
  | succ m ih =>
    intro hm hf
    have hf':=firstOf_none.1 hf
    rw [ih (by omega) (firstOf_none.2 fun k hk=>hf' k (by omega))]
    have:=h m (by omega) (fun j hj=>hf' j (by omega))
    rw [hf' m (by omega)] at this
    exact run_next this
def iter {β : Type} (g : Nat → β → β) : Nat → β → β
  | 0,b=>b
  | k + 1,b=>g k (iter g k b)
/-! ### small things -/
/-! ### sums of lists -/
end Go.Rex

namespace Go.Rex
open Go.RowKit
/-! ## whole floats -/
structure FOk (f : Ieee.Format) (q : Nat) : Prop where
  lp : f.leastPlace = -(q : Int)
  le : f.fractionBits + 1 ≤ q
  inf : (q + 2) * f.binade ≤ f.infRung
  sgn : f.infRung < f.signWeight
theorem shl (m s : Nat) : m <<< s = m * 2 ^ s:=Nat.shiftLeft_eq m s
/-- a whole float: a sign and a size -/
def fz (k : FloatKind) (s : Bool) (m : Nat) : Nat:=k.encode (.number s m 0)
end Go.Rex

namespace Go.Rex
/-! ### floats that are whole numbers -/
end Go.Rex

namespace Go.Rex
/-! ### roots and ways -/
theorem shr1_eq {x : Int} (h0 : 0 ≤ x) (h1 : x < 9223372036854775808) : shI .shr .u64 (IntKind.u64.wrap x) 1 = some (x / 2):=by
  have hw : IntKind.u64.wrap x = x:=by
    unfold IntKind.wrap
    show x.emod (2 ^ 64) = x
    exact Int.emod_eq_of_lt h0 (by omega)
  rw [hw]
  unfold shI
  rw [if_neg (by omega)]
  dsimp only
  have : min (1 : Int).toNat IntKind.u64.bits = 1:=by decide
  rw [this,Int.fdiv_eq_ediv_of_nonneg _ (Int.pow_nonneg (by omega))]
  rfl
theorem search_run {n : Int} (h0 : 0 ≤ n) (h1 : n < 4611686018427387904) : ∀ (d lo hi : Nat),hi - lo ≤ d → lo ≤ hi → hi ≤ 2147483648 → ((lo : Int) * lo ≤ n) → (n < ((hi : Int) + 1) * ((hi : Int) + 1)) → ∃ i : Nat,run (sort_Search_2a44_l1 n) ((lo : Int),(hi : Int)) = some (i : Int) ∧ (i : Int) * i ≤ n ∧ n < ((i : Int) + 1) * ((i : Int) + 1) ∧ i ≤ 2147483648:=by
  intro d
  induction d with
  | zero =>
    intro lo hi hd hle hhi hl hh
    obtain rfl : lo = hi:=by omega
    refine ⟨lo,run_stop ?_,hl,hh,hhi⟩
    dsimp only [sort_Search_2a44_l1]
    rw [if_neg (by simp)]
  | succ d ih =>
    intro lo hi hd hle hhi hl hh
    by_cases q : lo < hi
    · obtain ⟨m,hm⟩ : ∃ m : Nat,m = (lo + hi) / 2:=⟨_,rfl⟩
      have hmi : ((lo : Int) + hi) / 2 = (m : Int):=by omega
      have hmb : ((m : Int) + 1) * ((m : Int) + 1) ≤ 2147483648 * 2147483648:=Int.mul_le_mul (by omega) (by omega) (by omega) (by omega)
      have hm0 : 0 ≤ ((m : Int) + 1) * ((m : Int) + 1):=Int.mul_nonneg (by omega) (by omega)
      have hst : sort_Search_2a44_l1 n ((lo : Int),(hi : Int)) = if decide (((m : Int) + 1) * ((m : Int) + 1) > n) = true then some (.inl ((lo : Int),(m : Int))) else some (.inl (((m + 1 : Nat) : Int),(hi : Int))):=by
        dsimp only [sort_Search_2a44_l1]
        rw [if_pos (by simp only [decide_eq_true_eq];omega),w64 (x:=(lo : Int) + hi) (by omega),shr1_eq (by omega) (by omega),Option.bind_some,hmi,w64 (x:=(m : Int)) (by omega)]
        unfold array_root_c1_d3d3
        rw [w64 (x:=(m : Int) + 1) (by omega),w64 (x:=((m : Int) + 1) * ((m : Int) + 1)) (by omega),Option.bind_some]
        rfl
      by_cases q2 : ((m : Int) + 1) * ((m : Int) + 1) > n
      · rw [run_next (s':=((lo : Int),(m : Int))) (by rw [hst,if_pos (by simpa using q2)])]
        exact ih lo m (by omega) (by omega) (by omega) hl q2
      · rw [run_next (s':=(((m + 1 : Nat) : Int),(hi : Int))) (by rw [hst,if_neg (by simpa using q2)])]
        exact ih (m + 1) hi (by omega) (by omega) (by omega) (by have e : (((m + 1 : Nat)) : Int) = (m : Int) + 1 := by omega
                                                                 rw [e];omega) hh
    · obtain rfl : lo = hi:=by omega
      refine ⟨lo,run_stop ?_,hl,hh,hhi⟩
      dsimp only [sort_Search_2a44_l1]
      rw [if_neg (by simp)]
/-- squares of distances -/
def sqd (x y z a b c : Int) : Int:=(a - x) * (a - x) + (b - y) * (b - y) + (c - z) * (c - z)
def inP (x : Int) : Prop:=-5000 ≤ x ∧ x ≤ 5000
theorem sq_le {x a : Int} (h : inP x) (h2 : inP a) : 0 ≤ (a - x) * (a - x) ∧ (a - x) * (a - x) ≤ 100000000 ∧ IntKind.i64.wrap (a - x) = a - x:=by
  unfold inP at h h2
  refine ⟨?_,?_,w64 (by omega)⟩
  · rcases Int.le_total 0 (a - x) with q|q
    · exact Int.mul_nonneg q q
    · exact Int.mul_nonneg_of_nonpos_of_nonpos q q
  · rcases Int.le_total 0 (a - x) with q|q
    · exact Int.le_trans (Int.mul_le_mul (show a - x ≤ 10000 by omega) (show a - x ≤ 10000 by omega) q (by omega)) (by omega)
    · have:=Int.mul_le_mul (show -(a - x) ≤ 10000 by omega) (show -(a - x) ≤ 10000 by omega) (show 0 ≤ -(a - x) by omega) (by omega)
      rw [Int.neg_mul_neg] at this
      omega
theorem square_eq {x y z a b c : Int} (hx : inP x) (hy : inP y) (hz : inP z) (ha : inP a) (hb : inP b) (hc : inP c) : array_way_square x y z a b c = some (sqd x y z a b c) ∧ 0 ≤ sqd x y z a b c ∧ sqd x y z a b c ≤ 300000000:=by
  obtain ⟨h1,h2,h3⟩:=sq_le hx ha
  obtain ⟨h4,h5,h6⟩:=sq_le hy hb
  obtain ⟨h7,h8,h9⟩:=sq_le hz hc
  unfold array_way_square sqd
  rw [h3,h6,h9,w64 (x:=(a - x) * (a - x)) (by omega),w64 (x:=(b - y) * (b - y)) (by omega),w64 (x:=(c - z) * (c - z)) (by omega),w64 (x:=(a - x) * (a - x) + (b - y) * (b - y)) (by omega),w64 (by omega)]
  exact ⟨rfl,by omega,by omega⟩
theorem apart_eq {x y z a b c : Int} (hx : inP x) (hy : inP y) (hz : inP z) (ha : inP a) (hb : inP b) (hc : inP c) : array_way_apart x y z a b c = some (if sqd x y z a b c < 100 then 11 else 0):=by
  unfold array_way_apart
  rw [(square_eq hx hy hz ha hb hc).1]
  unfold array_refuse array_refuse_c1_11f9
  simp only [Option.bind_some]
  by_cases q : sqd x y z a b c < 100
  · simp [q]
  · simp [q]
end Go.Rex

namespace Go.Rex
/-! ### which arrays and seats are right -/
instance (x : Int) : Decidable (inP x):=inferInstanceAs (Decidable (_ ∧ _))
theorem awithin_eq (x lo hi : Int) : array_within x lo hi = some (!decide (lo ≤ x ∧ x ≤ hi),2):=by
  unfold array_within array_refuse
  by_cases q : x < lo
  · rw [if_pos (by simpa using q),decide_eq_false (by omega)];rfl
  · rw [if_neg (by simpa using q)]
    by_cases q2 : x > hi
    · rw [decide_eq_true q2,decide_eq_false (by omega)];rfl
    · rw [decide_eq_false q2,decide_eq_true (by omega)];rfl
theorem arefuse1 (b : Bool) (e : Int) : array_refuse_c1_11f9 b e = some (if b = true then e else 0):=by
  unfold array_refuse_c1_11f9;cases b<;>rfl
theorem aud_eq (g d : Int) : array_audible_c1_eebc g d = some (if (8000 ≤ g ∧ g ≤ 192000) ∧ (30000 ≤ d ∧ d ≤ 40000) then 0 else 2):=by
  unfold array_audible_c1_eebc array_firstError_751b
  simp only [awithin_eq,Option.bind_some,arefuse1]
  by_cases q : 8000 ≤ g ∧ g ≤ 192000
  · by_cases q2 : 30000 ≤ d ∧ d ≤ 40000
    · simp [q,q2]
    · simp [q,q2]
  · simp [q]
theorem placed_is (x y z : Int) : array_placed x y z = some ((([x,y,z] : List Int).length : Int),[x,y,z],-5000,5000):=rfl
end Go.Rex

open Go Go.Rex
namespace Go.Rex
set_option maxRecDepth 100000
/-! ### errors,exactly -/
theorem within_ex (x lo hi : Int) : base_Within x lo hi = some (decide (lo ≤ x ∧ x ≤ hi)):=by
  unfold base_Within
  by_cases q : lo ≤ x
  · rw [if_pos (by simpa using q)];simp [q]
  · rw [if_neg (by simpa using q)];simp [q]
theorem bwithin {x lo hi : Int} {β : Type} {f : Bool → Option β} : ((base_Within x lo hi).bind f) = if lo ≤ x ∧ x ≤ hi then f true else f false:=by
  rw [within_ex,Option.bind_some]
  by_cases q : lo ≤ x ∧ x ≤ hi
  · rw [if_pos q,decide_eq_true q]
  · rw [if_neg q,decide_eq_false q]
theorem placeR_ex (x y z : Int) : ref07_PlaceErr x y z = some (if inP x ∧ inP y ∧ inP z then 0 else 2):=by
  unfold ref07_PlaceErr inP
  simp only [bwithin]
  repeat' split
  all_goals first|rfl|omega|simp_all
theorem soundR_ex (g d : Int) : ref07_SoundErr g d = some (if (8000 ≤ g ∧ g ≤ 192000) ∧ (30000 ≤ d ∧ d ≤ 40000) then 0 else 2):=by
  unfold ref07_SoundErr
  simp only [bwithin]
  repeat' split
  all_goals first|rfl|omega|simp_all
theorem placed_ex (x y z : Int) : array_each_c1_6239 (([x,y,z] : List Int).length : Int) [x,y,z] (-5000) 5000 = some (if inP x ∧ inP y ∧ inP z then 0 else 2):=by
  unfold array_each_c1_6239
  have hw : ∀ k : Nat,k < ([x,y,z] : List Int).length → array_allWithin_c1_ea58 (k : Int) [x,y,z] (-5000) 5000 = some (if inP (([x,y,z] : List Int).getD k 0) then 0 else 2):=fun k hk=>by
    unfold array_allWithin_c1_ea58
    rw [getI_nat,List.getElem?_eq_getElem hk,Option.bind_some,awithin_eq,Option.bind_some]
    dsimp only
    rw [arefuse1,Option.bind_some,show ([x,y,z] : List Int).getD k 0 = ([x,y,z] : List Int)[k] by rw [List.getD_eq_getElem?_getD,List.getElem?_eq_getElem hk];rfl]
    by_cases q : inP ([x,y,z] : List Int)[k]
    · have q' : -5000 ≤ ([x,y,z] : List Int)[k] ∧ ([x,y,z] : List Int)[k] ≤ 5000:=q
      rw [decide_eq_true q',if_pos q];rfl
    · have q' : ¬ (-5000 ≤ ([x,y,z] : List Int)[k] ∧ ([x,y,z] : List Int)[k] ≤ 5000):=q
      rw [decide_eq_false q',if_neg q];rfl
  have h:=run_find (step:=array_each_c1_6239_l1 (([x,y,z] : List Int).length : Int) [x,y,z] (-5000) 5000) (n:=3) (r:=()) (p:=fun k=>if inP (([x,y,z] : List Int).getD k 0) then none else some (2 : Int)) (fun k hk _=>by
    dsimp only [array_each_c1_6239_l1]
    rw [if_pos (by simp;omega),hw k hk,Option.bind_some]
    by_cases q : inP (([x,y,z] : List Int).getD k 0)
    · rw [if_pos q,if_pos q,if_neg (by simp),w64 (by omega)];rfl
    · rw [if_neg q,if_neg q,if_pos (by simp)]) (fun _=>by
    dsimp only [array_each_c1_6239_l1]
    rw [if_neg (by simp)])
  rw [h]
  simp only [firstOf,List.range,List.range.loop,List.findSome?]
  by_cases hx : inP x<;>by_cases hy : inP y<;>by_cases hz : inP z<;>simp [hx,hy,hz]
end Go.Rex

open Go Go.Rex
namespace Go.Rex
set_option maxRecDepth 100000
end Go.Rex

open Go Go.Rex
namespace Go.Rex
/-! ### roots of the base,and quotients -/
def IsRt (n r : Int) : Prop:=0 ≤ r ∧ r ≤ 2147483648 ∧ r * r ≤ n ∧ n < (r + 1) * (r + 1)
theorem IsRt.unique {n r s : Int} (h : IsRt n r) (g : IsRt n s) : r = s:=by
  obtain ⟨h0,h1,h2,h3⟩:=h
  obtain ⟨g0,g1,g2,g3⟩:=g
  rcases Int.lt_trichotomy r s with q|q|q
  · have:=Int.mul_le_mul (show r + 1 ≤ s by omega) (show r + 1 ≤ s by omega) (by omega) g0
    omega
  · exact q
  · have:=Int.mul_le_mul (show s + 1 ≤ r by omega) (show s + 1 ≤ r by omega) (by omega) h0
    omega
theorem Root_run {n : Int} (h0 : 0 ≤ n) (h1 : n < 4611686018427387904) : ∀ (k : Nat) (r : Int),k ≤ 30 → 0 ≤ r → r + 2 * 2 ^ k ≤ 2147483648 → r * r ≤ n → n < (r + 2 * 2 ^ k) * (r + 2 * 2 ^ k) → ∃ s,run (base_Root_l1 n) (r,2 ^ k) = some s ∧ IsRt n s:=by
  intro k
  induction k with
  | zero =>
    intro r _ hr hb hl hh
    have e : (2 : Int) ^ 0 = 1:=rfl
    rw [e] at hh hb ⊢
    have m1 : (r + 1) * (r + 1) ≤ 2147483648 * 2147483648:=Int.mul_le_mul (by omega) (by omega) (by omega) (by omega)
    have m0 : 0 ≤ (r + 1) * (r + 1):=Int.mul_nonneg (by omega) (by omega)
    have stop : ∀ s,IsRt n s → run (base_Root_l1 n) (s,0) = some s:=fun s _=>run_stop (by dsimp only [base_Root_l1];rw [if_neg (by decide)])
    by_cases q : (r + 1) * (r + 1) ≤ n
    · have hR : IsRt n (r + 1):=⟨by omega,by omega,q,by rw [show r + 1 + 1 = r + 2 * 1 by omega];exact hh⟩
      refine ⟨r + 1,?_,hR⟩
      rw [run_next (s':=(r + 1,0)) (by
        dsimp only [base_Root_l1]
        rw [if_pos (by decide),w64 (x:=r + 1) (by omega),w64 (x:=(r + 1) * (r + 1)) (by omega),if_pos (by simpa using q)]
        rfl)]
      exact stop _ hR
    · have hR : IsRt n r:=⟨hr,by omega,hl,by omega⟩
      refine ⟨r,?_,hR⟩
      rw [run_next (s':=(r,0)) (by
        dsimp only [base_Root_l1]
        rw [if_pos (by decide),w64 (x:=r + 1) (by omega),w64 (x:=(r + 1) * (r + 1)) (by omega),if_neg (by simpa using q)]
        rfl)]
      exact stop _ hR
  | succ k ih =>
    intro r hk hr hb hl hh
    obtain ⟨c,hc⟩ : ∃ c : Int,c = 2 ^ k:=⟨_,rfl⟩
    have hc0 : 0 < c:=by rw [hc];exact Int.pow_pos (by omega)
    have e : (2 : Int) ^ (k + 1) = 2 * c:=by rw [Int.pow_succ,← hc];omega
    rw [e] at hh hb ⊢
    have m1 : (r + 2 * c) * (r + 2 * c) ≤ 2147483648 * 2147483648:=Int.mul_le_mul (by omega) (by omega) (by omega) (by omega)
    have m0 : 0 ≤ (r + 2 * c) * (r + 2 * c):=Int.mul_nonneg (by omega) (by omega)
    have hd : IntKind.i64.wrap ((2 * c).tdiv 2) = c:=by rw [Int.tdiv_eq_ediv_of_nonneg (by omega),show 2 * c / 2 = c by omega,w64 (by omega)]
    by_cases q : (r + 2 * c) * (r + 2 * c) ≤ n
    · rw [run_next (s' := (r + 2 * c, c)) (by
        dsimp only [base_Root_l1]
        rw [if_pos (by simp only [decide_eq_true_eq];omega),w64 (x:=r + 2 * c) (by omega),w64 (x:=(r + 2 * c) * (r + 2 * c)) (by omega),if_pos (by simpa using q),hd]),hc]
      rw [← hc]
      have:=ih (r + 2 * c) (by omega) (by omega) (by rw [← hc];omega) q (by rw [← hc,show r + 2 * c + 2 * c = r + 2 * (2 * c) by omega];exact hh)
      rw [← hc] at this
      exact this
    · rw [run_next (s' := (r, c)) (by
        dsimp only [base_Root_l1]
        rw [if_pos (by simp only [decide_eq_true_eq];omega),w64 (x:=r + 2 * c) (by omega),w64 (x:=(r + 2 * c) * (r + 2 * c)) (by omega),if_neg (by simpa using q),hd]),hc]
      rw [← hc]
      have:=ih r (by omega) hr (by rw [← hc];omega) hl (by rw [← hc];omega)
      rw [← hc] at this
      exact this
theorem rootR {n r : Int} (h0 : 0 ≤ n) (h1 : n < 4611686018427387904) (hr : IsRt n r) : base_Root n = some r ∧ base_RootUp n = some (if r * r = n then r else r + 1):=by
  obtain ⟨s,hs,hS⟩:=Root_run h0 h1 30 0 (by omega) (by omega) (by decide) (by simpa using h0) (by
    have e : (0 + 2 * 2 ^ 30 : Int) * (0 + 2 * 2 ^ 30) = 4611686018427387904:=by decide
    rw [e];exact h1)
  obtain rfl:=hr.unique hS
  have e : base_Root n = some r:=by
    unfold base_Root
    rw [show ((0 : Int),(1073741824 : Int)) = ((0 : Int),(2 : Int) ^ 30) from rfl,hs]
    rfl
  refine ⟨e,?_⟩
  obtain ⟨a,b,c,d⟩:=hr
  have m0 : 0 ≤ r * r:=Int.mul_nonneg a a
  unfold base_RootUp
  rw [e,Option.bind_some,w64 (x:=r * r) (by omega),w64 (x:=r + 1) (by omega)]
  by_cases q : r * r = n
  · rw [if_neg (by simp only [decide_eq_true_eq];omega),if_pos q]
  · rw [if_pos (by simp only [decide_eq_true_eq];omega),if_neg q]
theorem floorN {a d : Int} (h0 : 0 ≤ a) (h1 : a ≤ 9000000000000000000) (hd : 0 < d) : base_Floor a d = some (a / d):=by
  have e:=Int.ediv_le_self d h0
  have e0:=Int.ediv_nonneg h0 (show 0 ≤ d by omega)
  unfold base_Floor
  rw [if_neg (by omega),if_neg (by simp only [decide_eq_true_eq];rw [Int.tmod_eq_emod_of_nonneg h0];have:=Int.emod_nonneg a (show d ≠ 0 by omega);omega),Int.tdiv_eq_ediv_of_nonneg h0,w64 (by omega)]
theorem ceilN {a d : Int} (h0 : 0 ≤ a) (h1 : a ≤ 4000000000000000000) (hd : 0 < d) (hd1 : d ≤ 1000000000000) : base_Ceil a d = some ((a + d - 1) / d):=by
  have e : (0 - a).tdiv d = - (a / d):=by rw [Int.zero_sub,Int.neg_tdiv,Int.tdiv_eq_ediv_of_nonneg h0]
  have f : (0 - a).tmod d = - (a % d):=by rw [Int.zero_sub,Int.neg_tmod,Int.tmod_eq_emod_of_nonneg h0]
  have hm:=Int.emod_nonneg a (show d ≠ 0 by omega)
  have hm2:=Int.emod_lt_of_pos a hd
  have hdm:=Int.mul_ediv_add_emod a d
  have hq0:=Int.ediv_nonneg h0 (show 0 ≤ d by omega)
  have hq1:=Int.ediv_le_self d h0
  unfold base_Ceil base_Floor
  rw [w64 (x:=0 - a) (by omega),if_neg (by omega),e,f]
  by_cases c : -(a % d) < 0
  · have key : (a + d - 1) / d = a / d + 1 := by
      rw [Int.ediv_eq_iff_of_pos hd]<;>try exact hd
      rw [Int.add_mul,Int.mul_comm (a / d)]
      omega
    rw [if_pos (by simpa using c),Option.bind_some,w64 (x:=-(a / d)) (by omega),w64 (x:=-(a / d) - 1) (by omega),w64 (by omega),key]
    congr 1;omega
  · have key : (a + d - 1) / d = a / d := by
      rw [Int.ediv_eq_iff_of_pos hd]<;>try exact hd
      rw [Int.mul_comm (a / d)]
      omega
    rw [if_neg (by simpa using c),Option.bind_some,w64 (x:=-(a / d)) (by omega),w64 (by omega),key]
    congr 1;omega
end Go.Rex

open Go Go.Rex
namespace Go.Rex
set_option maxRecDepth 100000
/-! ### ways -/
theorem rootA {n : Int} (h0 : 0 ≤ n) (h1 : n < 4611686018427387904) : ∃ r : Int,IsRt n r ∧ array_root n = some (r,if r * r = n then r else r + 1):=by
  obtain ⟨i,hi,hl,hh,hb⟩:=search_run h0 h1 2147483648 0 2147483648 (by omega) (by omega) (by omega) (by simpa using h0) (by simpa using by omega)
  refine ⟨i,⟨by omega,by omega,hl,hh⟩,?_⟩
  unfold array_root sort_Search_2a44
  rw [show ((0 : Nat) : Int) = 0 from rfl,show ((2147483648 : Nat) : Int) = 2147483648 from rfl] at hi
  rw [hi,Option.bind_some,Option.bind_some,w64 (x:=(i : Int) * i) (by have:=Int.mul_nonneg (show (0 : Int) ≤ i by omega) (show (0 : Int) ≤ i by omega);omega),w64 (x:=(i : Int) + 1) (by omega)]
  by_cases q : (i : Int) * i = n
  · rw [if_pos (by simpa using q),if_pos q]
  · rw [if_neg (by simpa using q),if_neg q]
theorem sqd_comm (x y z a b c : Int) : sqd x y z a b c = sqd a b c x y z:=by
  have e : ∀ p q : Int,(p - q) * (p - q) = (q - p) * (q - p):=fun p q=>by rw [← Int.neg_mul_neg,Int.neg_sub]
  unfold sqd
  rw [e a x,e b y,e c z]
theorem squareR_ex {x y z a b c : Int} (hx : inP x) (hy : inP y) (hz : inP z) (ha : inP a) (hb : inP b) (hc : inP c) : ref07_square x y z a b c = some (sqd x y z a b c):=by
  rw [sqd_comm]
  obtain ⟨h1,h2,h3⟩:=sq_le ha hx
  obtain ⟨h4,h5,h6⟩:=sq_le hb hy
  obtain ⟨h7,h8,h9⟩:=sq_le hc hz
  unfold ref07_square sqd
  rw [h3,h6,h9,w64 (x:=(x - a) * (x - a)) (by omega),w64 (x:=(y - b) * (y - b)) (by omega),w64 (x:=(z - c) * (z - c)) (by omega),w64 (x:=(x - a) * (x - a) + (y - b) * (y - b)) (by omega),w64 (by omega)]
/-- what two places say of the way -/
structure Len (x y z a b c r r' : Int) : Prop where
  p : array_way_length x y z a b c = some (r,r')
  q : ref07_milli x y z a b c = some (r,r')
  lo : 0 ≤ r
  le : r ≤ r'
  hi : r' ≤ r + 1 ∧ r' ≤ 20000000
  far : 100 ≤ sqd x y z a b c → 10000 ≤ r
theorem len_ex {x y z a b c : Int} (hx : inP x) (hy : inP y) (hz : inP z) (ha : inP a) (hb : inP b) (hc : inP c) : ∃ r r',Len x y z a b c r r' ∧ Len a b c x y z r r':=by
  obtain ⟨h1,h2,h3⟩:=square_eq hx hy hz ha hb hc
  obtain ⟨g1,g2,g3⟩:=square_eq ha hb hc hx hy hz
  obtain ⟨r,hr,hp⟩:=rootA (n:=1000000 * sqd x y z a b c) (by omega) (by omega)
  obtain ⟨k1,k2⟩:=rootR (n:=1000000 * sqd x y z a b c) (by omega) (by omega) hr
  obtain ⟨e1,e2,e3,e4⟩:=hr
  have hle : r ≤ 19999999:=by
    rcases Int.lt_or_le r 20000000 with q|q
    · omega
    · have:=Int.mul_le_mul q q (by omega) (by omega)
      omega
  have hfar : 100 ≤ sqd x y z a b c → 10000 ≤ r:=fun h=>by
    rcases Int.lt_or_le r 10000 with q|q
    · have:=Int.mul_le_mul (show r + 1 ≤ 10000 by omega) (show r + 1 ≤ 10000 by omega) (by omega) (by omega)
      omega
    · exact q
  refine ⟨r,if r * r = 1000000 * sqd x y z a b c then r else r + 1,⟨?_,?_,e1,by split<;>omega,by split<;>omega,hfar⟩,⟨?_,?_,e1,by split<;>omega,by split<;>omega,by rw [sqd_comm];exact hfar⟩⟩
  · unfold array_way_length
    rw [h1,Option.bind_some,w64 (by omega),hp];rfl
  · unfold ref07_milli
    rw [squareR_ex hx hy hz ha hb hc,Option.bind_some,w64 (by omega),k1,Option.bind_some,k2];rfl
  · unfold array_way_length
    rw [g1,Option.bind_some,sqd_comm a b c x y z,w64 (by omega),hp];rfl
  · unfold ref07_milli
    rw [squareR_ex ha hb hc hx hy hz,Option.bind_some,sqd_comm a b c x y z,w64 (by omega),k1,Option.bind_some,k2];rfl
theorem up_ex {p d : Int} (hp : 0 ≤ p) (h1 : p ≤ 4000000000000000000) (hd : 0 < d) (hd1 : d ≤ 1000000000000) : array_up p d = some ((p + d - 1) / d):=by
  have h0 : 0 ≤ p + d - 1:=by omega
  have:=Int.ediv_le_self d h0
  have:=Int.ediv_nonneg h0 (show 0 ≤ d by omega)
  unfold array_up
  rw [if_neg (by omega),w64 (x:=p + d) (by omega),w64 (x:=p + d - 1) (by omega),Int.tdiv_eq_ediv_of_nonneg h0,w64 (by omega)]
/-- a way told by whole numbers -/
def trvV (r r' u v : Int) : Int × Int:=(r * u / (1000 * v),(r' * u + 1000 * v - 1) / (1000 * v))
def numV (r r' u v : Int) : Int × Int:=((r * u / v + 500) / 1000,((r' * u + v - 1) / v + 500) / 1000)
def strV (r r' : Int) : Int × Int:=(1000000000 / r',(1000000000 + r - 1) / r)
section
variable {x y z a b c r r' u v : Int}
theorem ru_le (h : Len x y z a b c r r') (hu : 8000 ≤ u ∧ u ≤ 192000) : (0 ≤ r * u ∧ r * u ≤ 3840000000000) ∧ (0 ≤ r' * u ∧ r' * u ≤ 3840000000000):=by
  have h1:=h.lo;have h2:=h.le;have h3:=h.hi
  refine ⟨⟨Int.mul_nonneg h1 (by omega),?_⟩,⟨Int.mul_nonneg (by omega) (by omega),?_⟩⟩
  · exact Int.le_trans (Int.mul_le_mul (show r ≤ 20000000 by omega) hu.2 (by omega) (by omega)) (by decide)
  · exact Int.le_trans (Int.mul_le_mul (show r' ≤ 20000000 by omega) hu.2 (by omega) (by omega)) (by decide)
theorem scaled_ex (h : Len x y z a b c r r') (hu : 8000 ≤ u ∧ u ≤ 192000) {d : Int} (hd : 0 < d) (hd2 : d ≤ 40000000) : array_scaled r r' u d = some (r * u / d,(r' * u + d - 1) / d):=by
  obtain ⟨⟨h1,h2⟩,h3,h4⟩:=ru_le h hu
  have:=Int.ediv_le_self d h1
  have:=Int.ediv_nonneg h1 (show 0 ≤ d by omega)
  unfold array_scaled
  rw [if_neg (by omega),w64 (x:=r' * u) (by omega),up_ex h3 (by omega) hd (by omega),Option.bind_some,w64 (x:=r * u) (by omega),Int.tdiv_eq_ediv_of_nonneg h1,w64 (by omega)]
theorem trav_ex (h : Len x y z a b c r r') (hu : 8000 ≤ u ∧ u ≤ 192000) (hv : 30000 ≤ v ∧ v ≤ 40000) : array_way_travel x y z a b c u v = some (trvV r r' u v) ∧ ref07_Travel x y z a b c u v = some (trvV r r' u v):=by
  obtain ⟨⟨h1,h2⟩,h3,h4⟩:=ru_le h hu
  refine ⟨?_,?_⟩
  · unfold array_way_travel
    rw [h.p,Option.bind_some]
    try dsimp only
    rw [w64 (x:=1000 * v) (by omega),scaled_ex h hu (by omega) (by omega)];rfl
  · unfold ref07_Travel
    rw [h.q,Option.bind_some]
    try dsimp only
    rw [w64 (x:=r * u) (by omega),w64 (x:=1000 * v) (by omega),w64 (x:=r' * u) (by omega),floorN h1 (by omega) (by omega),Option.bind_some,ceilN h3 (by omega) (by omega) (by omega)];rfl
theorem nums_ex (h : Len x y z a b c r r') (hu : 8000 ≤ u ∧ u ≤ 192000) (hv : 30000 ≤ v ∧ v ≤ 40000) : array_way_numbers x y z a b c u v = some (numV r r' u v) ∧ ref07_NumbersOf x y z a b c u v = some (numV r r' u v):=by
  obtain ⟨⟨h1,h2⟩,h3,h4⟩:=ru_le h hu
  have q1:=Int.ediv_le_self v h1
  have q2:=Int.ediv_nonneg h1 (show 0 ≤ v by omega)
  have q3:=Int.ediv_le_self v (show 0 ≤ r' * u + v - 1 by omega)
  have q4:=Int.ediv_nonneg (show 0 ≤ r' * u + v - 1 by omega) (show 0 ≤ v by omega)
  refine ⟨?_,?_⟩
  · unfold array_way_numbers
    rw [h.p,Option.bind_some]
    try dsimp only
    rw [scaled_ex h hu (by omega) (by omega),Option.bind_some]
    unfold array_way_numbers_c1
    try dsimp only
    rw [w64 (x:=r * u / v + 500) (by omega),Int.tdiv_eq_ediv_of_nonneg (by omega),w64 (x:=(r * u / v + 500) / 1000) (by omega),Option.bind_some,w64 (x:=(r' * u + v - 1) / v + 500) (by omega),Int.tdiv_eq_ediv_of_nonneg (by omega),w64 (by omega)]
    rfl
  · unfold ref07_NumbersOf
    rw [h.q,Option.bind_some]
    try dsimp only
    rw [w64 (x:=r * u) (by omega),w64 (x:=r' * u) (by omega),floorN h1 (by omega) (by omega),Option.bind_some,w64 (x:=r * u / v + 500) (by omega),floorN (by omega) (by omega) (by omega),Option.bind_some,ceilN h3 (by omega) (by omega) (by omega),Option.bind_some,w64 (x:=(r' * u + v - 1) / v + 500) (by omega),floorN (by omega) (by omega) (by omega)];rfl
theorem str_ex (h : Len x y z a b c r r') (hf : 100 ≤ sqd x y z a b c) : array_way_strength x y z a b c = some (strV r r') ∧ ref07_Strength x y z a b c = some (strV r r'):=by
  have h1:=h.far hf
  have h2:=h.le
  have h3:=h.hi
  have q1:=Int.ediv_le_self r' (show (0 : Int) ≤ 1000000000 by omega)
  have q2:=Int.ediv_nonneg (show (0 : Int) ≤ 1000000000 by omega) (show 0 ≤ r' by omega)
  refine ⟨?_,?_⟩
  · unfold array_way_strength
    rw [h.p,Option.bind_some]
    try dsimp only
    rw [if_neg (by omega),up_ex (by omega) (by omega) (by omega) (by omega),Option.bind_some,Int.tdiv_eq_ediv_of_nonneg (by omega),w64 (by omega)];rfl
  · unfold ref07_Strength
    rw [h.q,Option.bind_some]
    try dsimp only
    rw [floorN (by omega) (by omega) (by omega),Option.bind_some,ceilN (by omega) (by omega) (by omega) (by omega)];rfl
end
instance (u v : Int) : Decidable ((8000 ≤ u ∧ u ≤ 192000) ∧ (30000 ≤ v ∧ v ≤ 40000)):=inferInstance
theorem wcheck_ex (x y z a b c : Int) : array_way_check x y z a b c = some (if (inP x ∧ inP y ∧ inP z) ∧ (inP a ∧ inP b ∧ inP c) then 0 else 2):=by
  unfold array_way_check array_firstError_6760
  simp only [placed_is,Option.bind_some,placed_ex]
  by_cases q : inP x ∧ inP y ∧ inP z
  · by_cases q2 : inP a ∧ inP b ∧ inP c
    · simp [q,q2]
    · have q3 : ¬ ((inP x ∧ inP y ∧ inP z) ∧ inP a ∧ inP b ∧ inP c):=fun h=>q2 h.2
      rw [if_pos q,if_neg q2,if_neg q3];simp
  · have q3 : ¬ ((inP x ∧ inP y ∧ inP z) ∧ inP a ∧ inP b ∧ inP c):=fun h=>q h.1
    rw [if_neg q,if_neg q3];simp
theorem e660 (x y z a b c u v : Int) : array_firstError_660f x y z a b c u v = some (if ((inP x ∧ inP y ∧ inP z) ∧ (inP a ∧ inP b ∧ inP c)) ∧ ((8000 ≤ u ∧ u ≤ 192000) ∧ (30000 ≤ v ∧ v ≤ 40000)) then 0 else 2):=by
  unfold array_firstError_660f
  rw [wcheck_ex,Option.bind_some,aud_eq]
  by_cases q : (inP x ∧ inP y ∧ inP z) ∧ (inP a ∧ inP b ∧ inP c)
  · by_cases q2 : (8000 ≤ u ∧ u ≤ 192000) ∧ (30000 ≤ v ∧ v ≤ 40000)
    · simp [q,q2]
    · have q3 : ¬ (((inP x ∧ inP y ∧ inP z) ∧ (inP a ∧ inP b ∧ inP c)) ∧ ((8000 ≤ u ∧ u ≤ 192000) ∧ (30000 ≤ v ∧ v ≤ 40000))):=fun h=>q2 h.2
      rw [if_pos q,if_neg q2,if_neg q3];simp
  · have q3 : ¬ (((inP x ∧ inP y ∧ inP z) ∧ (inP a ∧ inP b ∧ inP c)) ∧ ((8000 ≤ u ∧ u ≤ 192000) ∧ (30000 ≤ v ∧ v ≤ 40000))):=fun h=>q h.1
    rw [if_neg q,if_neg q3];simp
theorem near_ex {x y z a b c : Int} (h : inP x ∧ inP y ∧ inP z) (g : inP a ∧ inP b ∧ inP c) : ref07_Near x y z a b c = some (decide (sqd x y z a b c < 100)):=by
  unfold ref07_Near
  rw [squareR_ex h.1 h.2.1 h.2.2 g.1 g.2.1 g.2.2];rfl
theorem strP (x y z a b c : Int) : array_Strength x y z a b c = if ¬ ((inP x ∧ inP y ∧ inP z) ∧ (inP a ∧ inP b ∧ inP c)) then some (0,0,2) else if sqd x y z a b c < 100 then some (0,0,11) else (array_way_strength x y z a b c).bind fun p=>some (p.1,p.2,0):=by
  unfold array_Strength array_firstError_937b
  rw [wcheck_ex,Option.bind_some]
  by_cases q : (inP x ∧ inP y ∧ inP z) ∧ (inP a ∧ inP b ∧ inP c)
  · have q1 : ¬ ¬ ((inP x ∧ inP y ∧ inP z) ∧ (inP a ∧ inP b ∧ inP c)):=fun h=>h q
    rw [if_neg q1,if_pos q,apart_eq q.1.1 q.1.2.1 q.1.2.2 q.2.1 q.2.2.1 q.2.2.2]
    by_cases q2 : sqd x y z a b c < 100
    · simp [q2]
    · simp [q2]
  · rw [if_neg q,if_pos q];simp
theorem ways_true (x y z a b c u v : Int) : law07_ArrayWays x y z a b c u v = some true:=by
  by_cases q : (inP x ∧ inP y ∧ inP z) ∧ (inP a ∧ inP b ∧ inP c)
  · obtain ⟨r,r',h,h'⟩:=len_ex q.1.1 q.1.2.1 q.1.2.2 q.2.1 q.2.2.1 q.2.2.2
    have qn : ¬ ¬ ((inP x ∧ inP y ∧ inP z) ∧ (inP a ∧ inP b ∧ inP c)):=fun h=>h q
    have qn' : ¬ ¬ ((inP a ∧ inP b ∧ inP c) ∧ (inP x ∧ inP y ∧ inP z)):=fun h=>h ⟨q.2,q.1⟩
    have sT : array_Strength x y z a b c = if sqd x y z a b c < 100 then some (0,0,11) else some ((strV r r').1,(strV r r').2,0):=by
      rw [strP,if_neg qn]
      by_cases qs : sqd x y z a b c < 100
      · rw [if_pos qs,if_pos qs]
      · rw [if_neg qs,if_neg qs,(str_ex h (by omega)).1];rfl
    have sT' : array_Strength a b c x y z = if sqd x y z a b c < 100 then some (0,0,11) else some ((strV r r').1,(strV r r').2,0):=by
      rw [strP,if_neg qn',sqd_comm a b c x y z]
      by_cases qs : sqd x y z a b c < 100
      · rw [if_pos qs,if_pos qs]
      · rw [if_neg qs,if_neg qs,(str_ex h' (by rw [sqd_comm];omega)).1];rfl
    have rT:=fun hs : ¬ sqd x y z a b c < 100=>(str_ex h (by omega)).2
    by_cases q2 : (8000 ≤ u ∧ u ≤ 192000) ∧ (30000 ≤ v ∧ v ≤ 40000)
    · have tT : array_Travel x y z a b c u v = some ((trvV r r' u v).1, (trvV r r' u v).2, 0) := by
        unfold array_Travel array_audible
        rw [Option.bind_some]
        try dsimp only
        rw [e660,if_pos ⟨q,q2⟩,Option.bind_some,if_neg (by simp),(trav_ex h q2.1 q2.2).1];rfl
      have tT' : array_Travel a b c x y z u v = some ((trvV r r' u v).1,(trvV r r' u v).2,0):=by
        unfold array_Travel array_audible
        rw [Option.bind_some]
        try dsimp only
        rw [e660,if_pos ⟨⟨q.2,q.1⟩,q2⟩,Option.bind_some,if_neg (by simp),(trav_ex h' q2.1 q2.2).1];rfl
      have nT : array_NumbersOf x y z a b c u v = some ((numV r r' u v).1,(numV r r' u v).2,0):=by
        unfold array_NumbersOf array_audible
        rw [Option.bind_some]
        try dsimp only
        rw [e660,if_pos ⟨q,q2⟩,Option.bind_some,if_neg (by simp),(nums_ex h q2.1 q2.2).1];rfl
      have t2 : ref07_Travel x y z a b c u v = some ((trvV r r' u v).1,(trvV r r' u v).2):=(trav_ex h q2.1 q2.2).2
      have n2 : ref07_NumbersOf x y z a b c u v = some ((numV r r' u v).1,(numV r r' u v).2):=(nums_ex h q2.1 q2.2).2
      unfold law07_ArrayWays
      by_cases qs : sqd x y z a b c < 100
      · rw [if_pos qs] at sT sT'
        simp [tT,tT',nT,t2,n2,sT,sT',placeR_ex,q.1,q.2,near_ex q.1 q.2,qs,soundR_ex,q2]
      · rw [if_neg qs] at sT sT'
        have s2 : ref07_Strength x y z a b c = some ((strV r r').1,(strV r r').2):=rT qs
        simp [tT,tT',nT,t2,n2,sT,sT',s2,placeR_ex,q.1,q.2,near_ex q.1 q.2,qs,soundR_ex,q2]
    · have q3 : ¬ (((inP x ∧ inP y ∧ inP z) ∧ (inP a ∧ inP b ∧ inP c)) ∧ ((8000 ≤ u ∧ u ≤ 192000) ∧ (30000 ≤ v ∧ v ≤ 40000))):=fun h=>q2 h.2
      have tT : array_Travel x y z a b c u v = some (0,0,2):=by
        unfold array_Travel array_audible
        rw [Option.bind_some]
        try dsimp only
        rw [e660,if_neg q3];rfl
      have nT : array_NumbersOf x y z a b c u v = some (0,0,2):=by
        unfold array_NumbersOf array_audible
        rw [Option.bind_some]
        try dsimp only
        rw [e660,if_neg q3];rfl
      have s3 : ref07_SoundErr u v = some 2:=by rw [soundR_ex,if_neg q2]
      unfold law07_ArrayWays
      by_cases qs : sqd x y z a b c < 100
      · rw [if_pos qs] at sT sT'
        simp [tT,nT,sT,sT',placeR_ex,q.1,q.2,near_ex q.1 q.2,qs,s3]
      · rw [if_neg qs] at sT sT'
        have s2 : ref07_Strength x y z a b c = some ((strV r r').1,(strV r r').2):=rT qs
        simp [tT,nT,sT,sT',s2,placeR_ex,q.1,q.2,near_ex q.1 q.2,qs,s3]
  · have q3 : ¬ (((inP x ∧ inP y ∧ inP z) ∧ (inP a ∧ inP b ∧ inP c)) ∧ ((8000 ≤ u ∧ u ≤ 192000) ∧ (30000 ≤ v ∧ v ≤ 40000))):=fun h=>q h.1
    have tT : array_Travel x y z a b c u v = some (0,0,2):=by
      unfold array_Travel array_audible
      rw [Option.bind_some]
      try dsimp only
      rw [e660,if_neg q3];rfl
    have nT : array_NumbersOf x y z a b c u v = some (0,0,2):=by
      unfold array_NumbersOf array_audible
      rw [Option.bind_some]
      try dsimp only
      rw [e660,if_neg q3];rfl
    have sT : array_Strength x y z a b c = some (0,0,2):=by rw [strP,if_pos q]
    unfold law07_ArrayWays
    rw [tT,nT,sT]
    simp only [Option.bind_some]
    by_cases q1 : inP x ∧ inP y ∧ inP z
    · have e1 : ref07_PlaceErr x y z = some 0:=by rw [placeR_ex,if_pos q1]
      have e2 : ref07_PlaceErr a b c = some 2:=by rw [placeR_ex,if_neg (fun h=>q ⟨q1,h⟩)]
      simp [e1,e2]
    · have e1 : ref07_PlaceErr x y z = some 2:=by rw [placeR_ex,if_neg q1]
      simp [e1]
end Go.Rex

namespace Go.Rex
open Go Go.ChangeShapes Go.WideShapes Go.ChangeAt Go.RowKit Go.Joins Go.Proofs
/-! ### arguments: what they are as trees,and the names of their blocks -/
structure Arg (W : World) (v' : Value) (p : TV) (bs : List Blk) (is : List Info) (av : Nat → Value) : Prop where
  vr : ∀ (D : Nat → Prop) (m : NMap) n,(∀ j,j < bs.length → D (n + j)) → (∀ (j : Nat) i,is[j]? = some i → m (n + j) = i) → VR D m (av n) v'
  vl : ∀ (Fz : Nat → Prop) (h : List Blk) n,(∀ j,j < bs.length → Fz (n + j)) → (∀ (j : Nat) b,bs[j]? = some b → h[n + j]? = some b) → VL Fz h noL p (av n)
  ok : ∀ (D : Nat → Prop) (m : NMap) n,(∀ j,j < bs.length → D (n + j)) → (∀ (j : Nat) i,is[j]? = some i → m (n + j) = i) → ∀ (j : Nat) b,bs[j]? = some b → BlkOk D m W (n + j) b
  lt : ∀ (j : Nat) b i,bs[j]? = some b → is[j]? = some i → b ≠ .dead → i.block < W.heap.size
  len : is.length = bs.length
structure Args (W : World) (vs' : List Value) (ps : List TV) (bs : List Blk) (is : List Info) (av : Nat → List Value) : Prop where
  vr : ∀ (D : Nat → Prop) (m : NMap) n,(∀ j,j < bs.length → D (n + j)) → (∀ (j : Nat) i,is[j]? = some i → m (n + j) = i) → VRs D m (av n) vs'
  vl : ∀ (Fz : Nat → Prop) (h : List Blk) n,(∀ j,j < bs.length → Fz (n + j)) → (∀ (j : Nat) b,bs[j]? = some b → h[n + j]? = some b) → VLs Fz h noL ps (av n)
  ok : ∀ (D : Nat → Prop) (m : NMap) n,(∀ j,j < bs.length → D (n + j)) → (∀ (j : Nat) i,is[j]? = some i → m (n + j) = i) → ∀ (j : Nat) b,bs[j]? = some b → BlkOk D m W (n + j) b
  lt : ∀ (j : Nat) b i,bs[j]? = some b → is[j]? = some i → b ≠ .dead → i.block < W.heap.size
  len : is.length = bs.length
/-- the names of the arguments -/
def nm (is : List Info) : NMap:=fun n=>is.getD n ⟨0,0,0,0⟩
section
variable {W : World} {vs' : List Value} {ps : List TV} {bs : List Blk} {is : List Info} {av : Nat → List Value}
end
theorem len2 {α : Type} {l : List α} (h : l.length = 2) : ∃ x0 x1,l = [x0,x1]:=by
  match l,h with
  | [x0,x1],_=>exact ⟨_,_,rfl⟩
theorem len3 {α : Type} {l : List α} (h : l.length = 3) : ∃ x0 x1 x2,l = [x0,x1,x2]:=by
  match l,h with
  | [x0,x1,x2],_=>exact ⟨_,_,_,rfl⟩
/-! ### arguments without names -/
def AtomV (c : Value) : Prop:=isAtom c = true ∧ ∀ D m,VR D m c c
theorem atomV_int (k : IntKind) (n : Int) : AtomV (.int k n):=⟨rfl,fun _ _=>.int _ _⟩
theorem Arg.agg {W : World} {l : List Value} (h : ∀ c ∈ l,AtomV c) : Arg W (.agg ⟨l⟩) (.agg (l.map .v)) [] [] (fun _=>.agg ⟨l⟩):=by
  refine ⟨fun _ _ _ _ _=>.agg _ _ rfl fun i v v' hv hv'=>?_,fun _ _ _ _ _=>.agg _ _ _ (by simp) fun i p x hp hx=>?_,fun _ _ _ _ _ j b h=>by simp at h,fun j b i h=>by simp at h,rfl⟩
  · obtain rfl : v = v':=Option.some.inj (hv.symm.trans hv')
    exact (h v (List.mem_of_getElem? hv)).2 _ _
  · rw [List.getElem?_map,hx] at hp
    obtain rfl:=Option.some.inj hp
    exact .v _ _ (h x (List.mem_of_getElem? hx)).1
/-! ### a slice of rows -/
section
variable {H : Type} {enc : TypeId × Value → H} {W : World} {base : Nat} {spare : Nat → Bool} {held : Bool}
/-! ### aggregates of ints -/
def AI (cs : List Value) : Prop:=∀ c ∈ cs,∃ n : Int,c = .int .i64 n
theorem AI.list {cs : List Value} (h : AI cs) : ∃ l : List Int,cs = l.map (.int .i64):=by
  induction cs with
  | nil=>exact ⟨[],rfl⟩
  | cons c t ih =>
    obtain ⟨n,rfl⟩:=h c (by simp)
    obtain ⟨l,rfl⟩:=ih fun c hc=>h c (by simp [hc])
    exact ⟨n :: l,rfl⟩
variable {P : Program}
theorem okW_int {t : TypeId} (ht : P.underlying t = some (.int .i64)) {r : Reach} {b : Nat} {v : Value} (w : Cell.okWide P W r b t v) : ∃ n : Int,v = .int .i64 n:=by
  unfold Cell.okWide at w
  simp only [ht] at w
  unfold Cell.ok at w
  simp only [ht] at w
  cases v<;>first|exact ⟨_,by rw [w.1]⟩|exact absurd w (by simp)
theorem open_sti {t ti : TypeId} {fs : Array Field} {n : Nat} (ht : P.underlying t = some (.struct fs)) (hti : P.underlying ti = some (.int .i64)) (hct : P.cellTypes P.depth t = some (List.replicate n ti)) (hn : P.cellsOf t = n)
    {r : Reach} {b : Nat} {v : Value} (w : Value.okWide P W r b t v) : ∃ l : List Int,l.length = n ∧ v = .agg ⟨l.map (.int .i64)⟩:=by
  unfold Value.okWide at w
  simp only [ht] at w
  obtain ⟨cs,rfl,hs,ts,hts,_,hc⟩:=w
  rw [hct] at hts
  obtain rfl:=Option.some.inj hts
  obtain ⟨l⟩:=cs
  have : AI l:=by
    intro c hcm
    obtain ⟨j,hj,rfl⟩:=List.mem_iff_getElem.1 hcm
    obtain ⟨u,hu,hok⟩:=hc j l[j] (by simp)
    have:=List.eq_of_mem_replicate (List.mem_of_getElem? hu)
    subst this
    exact okW_int hti hok
  obtain ⟨l',rfl⟩:=this.list
  refine ⟨l',?_,rfl⟩
  simpa [hn] using hs
theorem arg_ints (l : List Int) : Arg W (.agg ⟨l.map (.int .i64)⟩) (.agg (l.map fun x=>.v (.int .i64 x))) [] [] (fun _=>.agg ⟨l.map (.int .i64)⟩):=by
  have:=Arg.agg (W:=W) (l:=l.map (.int .i64)) fun c hc=>by obtain ⟨x,_,rfl⟩:=List.mem_map.1 hc;exact atomV_int _ _
  rwa [List.map_map] at this
end
end Go.Rex

namespace Go.Rex
open Go Go.ChangeShapes Go.WideShapes Go.ChangeAt Go.RowKit Go.Joins Go.Proofs
/-! ### arguments whose blocks name one another: lists of lists -/
structure NArg (W : World) (v' : Value) (p : TV) (bs : Nat → List Blk) (is : List Info) (av : Nat → Value) : Prop where
  vr : ∀ (D : Nat → Prop) (m : NMap) n,(∀ j,j < is.length → D (n + j)) → (∀ (j : Nat) i,is[j]? = some i → m (n + j) = i) → VR D m (av n) v'
  vl : ∀ (Fz : Nat → Prop) (h : List Blk) n,(∀ j,j < is.length → Fz (n + j)) → (∀ (j : Nat) b,(bs n)[j]? = some b → h[n + j]? = some b) → VL Fz h noL p (av n)
  ok : ∀ (D : Nat → Prop) (m : NMap) n,(∀ j,j < is.length → D (n + j)) → (∀ (j : Nat) i,is[j]? = some i → m (n + j) = i) → ∀ (j : Nat) b,(bs n)[j]? = some b → BlkOk D m W (n + j) b
  lt : ∀ n (j : Nat) b i,(bs n)[j]? = some b → is[j]? = some i → b ≠ .dead → i.block < W.heap.size
  len : ∀ n,(bs n).length = is.length
structure NArgs (W : World) (vs' : List Value) (ps : List TV) (bs : Nat → List Blk) (is : List Info) (av : Nat → List Value) : Prop where
  vr : ∀ (D : Nat → Prop) (m : NMap) n,(∀ j,j < is.length → D (n + j)) → (∀ (j : Nat) i,is[j]? = some i → m (n + j) = i) → VRs D m (av n) vs'
  vl : ∀ (Fz : Nat → Prop) (h : List Blk) n,(∀ j,j < is.length → Fz (n + j)) → (∀ (j : Nat) b,(bs n)[j]? = some b → h[n + j]? = some b) → VLs Fz h noL ps (av n)
  ok : ∀ (D : Nat → Prop) (m : NMap) n,(∀ j,j < is.length → D (n + j)) → (∀ (j : Nat) i,is[j]? = some i → m (n + j) = i) → ∀ (j : Nat) b,(bs n)[j]? = some b → BlkOk D m W (n + j) b
  lt : ∀ n (j : Nat) b i,(bs n)[j]? = some b → is[j]? = some i → b ≠ .dead → i.block < W.heap.size
  len : ∀ n,(bs n).length = is.length
theorem Arg.n {W : World} {v' : Value} {p : TV} {bs : List Blk} {is : List Info} {av : Nat → Value} (a : Arg W v' p bs is av) : NArg W v' p (fun _=>bs) is av :=
  ⟨fun D m n hD hm=>a.vr D m n (by rw [← a.len];exact hD) hm,fun Fz h n hF hh=>a.vl Fz h n (by rw [← a.len];exact hF) hh,fun D m n hD hm=>a.ok D m n (by rw [← a.len];exact hD) hm,fun _=>a.lt,fun _=>a.len.symm⟩
theorem NArgs.nil (W : World) : NArgs W [] [] (fun _=>[]) [] (fun _=>[]) :=
  ⟨fun _ _ _ _ _=>⟨rfl,fun i a a' h=>by simp at h⟩,fun _ _ _ _ _=>.nil,fun _ _ _ _ _ j b h=>by simp at h,fun _ j b i h=>by simp at h,fun _=>rfl⟩
theorem NArgs.cons {W : World} {v' : Value} {p : TV} {bs bs2 : Nat → List Blk} {is is2 : List Info} {av : Nat → Value} {vs' : List Value} {ps : List TV} {avs : Nat → List Value}
    (a : NArg W v' p bs is av) (az : NArgs W vs' ps bs2 is2 avs) : NArgs W (v' :: vs') (p :: ps) (fun n=>bs n ++ bs2 (n + is.length)) (is ++ is2) (fun n=>av n :: avs (n + is.length)):=by
  have cD : ∀ (D : Nat → Prop) n,(∀ j,j < (is ++ is2).length → D (n + j)) → (∀ j,j < is.length → D (n + j)) ∧ (∀ j,j < is2.length → D (n + is.length + j)):=by
    intro D n h
    refine ⟨fun j hj=>h j (by simp;omega),fun j hj=>?_⟩
    have:=h (is.length + j) (by simp;omega)
    rwa [← Nat.add_assoc] at this
  have cI : ∀ (m : NMap) n,(∀ (j : Nat) i,(is ++ is2)[j]? = some i → m (n + j) = i) → (∀ (j : Nat) i,is[j]? = some i → m (n + j) = i) ∧ (∀ (j : Nat) i,is2[j]? = some i → m (n + is.length + j) = i):=by
    intro m n h
    refine ⟨fun j i hj=>h j i (by rw [List.getElem?_append_left (List.getElem?_eq_some_iff.1 hj).1];exact hj),fun j i hj=>?_⟩
    have:=h (is.length + j) i (by rw [List.getElem?_append_right (by omega),Nat.add_sub_cancel_left];exact hj)
    rwa [← Nat.add_assoc] at this
  refine ⟨fun D m n hD hm=>?_,fun Fz h n hF hh=>?_,fun D m n hD hm j b hb=>?_,fun n j b i hb hi hd=>?_,fun n=>by simp [a.len,az.len]⟩
  · have h1:=a.vr D m n (cD D n hD).1 (cI m n hm).1
    have h2:=az.vr D m (n + is.length) (cD D n hD).2 (cI m n hm).2
    refine ⟨by simp [h2.len],fun i x x' hx hx'=>?_⟩
    cases i with
    | zero=>simp at hx hx';subst hx hx';exact h1
    | succ i=>simp at hx hx';exact h2.at' i x x' hx hx'
  · refine .cons (a.vl Fz h n (cD Fz n hF).1 fun j b hb=>hh j b (by rw [List.getElem?_append_left (List.getElem?_eq_some_iff.1 hb).1];exact hb)) (az.vl Fz h (n + is.length) (cD Fz n hF).2 fun j b hb=>?_)
    have:=hh (is.length + j) b (by rw [List.getElem?_append_right (by rw [a.len];omega),a.len,Nat.add_sub_cancel_left];exact hb)
    rwa [← Nat.add_assoc] at this
  · rcases Nat.lt_or_ge j is.length with hj|hj
    · rw [List.getElem?_append_left (by rw [a.len];exact hj)] at hb
      exact a.ok D m n (cD D n hD).1 (cI m n hm).1 j b hb
    · rw [List.getElem?_append_right (by rw [a.len];exact hj),a.len] at hb
      have:=az.ok D m (n + is.length) (cD D n hD).2 (cI m n hm).2 _ b hb
      rwa [show n + is.length + (j - is.length) = n + j by omega] at this
  · rcases Nat.lt_or_ge j is.length with hj|hj
    · rw [List.getElem?_append_left (by rw [a.len];exact hj)] at hb
      rw [List.getElem?_append_left hj] at hi
      exact a.lt n j b i hb hi hd
    · rw [List.getElem?_append_right (by rw [a.len];exact hj),a.len] at hb
      rw [List.getElem?_append_right hj] at hi
      exact az.lt _ _ b i hb hi hd
section
variable {W : World} {vs' : List Value} {ps : List TV} {bs : Nat → List Blk} {is : List Info} {av : Nat → List Value}
/-- the names of the variables of packages come first -/
def gnm (is : List Info) : NMap:=fun k=>if k < NG then gm k else is.getD (k - NG) ⟨0,0,0,0⟩
theorem gnm_at {is : List Info} {j : Nat} {i : Info} (h : is[j]? = some i) : gnm is (NG + j) = i:=by
  unfold gnm
  rw [if_neg (by omega),Nat.add_sub_cancel_left,List.getD_eq_getElem?_getD,h]
  rfl
theorem gh_len : GH.length = NG:=rfl
theorem NArgs.rel (a : NArgs W vs' ps bs is av) (hw : GW W) (hs : NG ≤ W.heap.size) : Rel W.heap.size (GH ++ bs NG).length (fun k=>k < (GH ++ bs NG).length) (gnm is) (GH ++ bs NG) W:=by
  have hl:=a.len NG
  have hn : (GH ++ bs NG).length = NG + is.length:=by rw [List.length_append,gh_len,hl]
  have old : ∀ k,k < NG → gnm is k = gm k:=fun k hk=>if_pos hk
  have parts : ∀ n b,n < (GH ++ bs NG).length → (GH ++ bs NG)[n]? = some b → (n < NG ∧ GH[n]? = some b) ∨ ∃ j,n = NG + j ∧ (bs NG)[j]? = some b:=by
    intro n b hn' hb
    rcases Nat.lt_or_ge n NG with h|h
    · rw [List.getElem?_append_left h] at hb;exact .inl ⟨h,hb⟩
    · rw [List.getElem?_append_right h,gh_len] at hb;exact .inr ⟨n - NG,by omega,hb⟩
  have st:=Rel.start W hw hs
  have lt : ∀ n b,n < (GH ++ bs NG).length → (GH ++ bs NG)[n]? = some b → b ≠ .dead → (gnm is n).block < W.heap.size:=by
    intro n b hn' hb hd
    rcases parts n b hn' hb with ⟨h1,h2⟩|⟨j,rfl,h2⟩
    · rw [old n h1];exact st.lt n b h1 h2 hd
    · have hj : j < is.length:=by omega
      rw [gnm_at (List.getElem?_eq_getElem hj)]
      exact a.lt NG j b _ h2 (List.getElem?_eq_getElem hj) hd
  refine ⟨Nat.le_refl _,fun _ h=>h,fun n b hn' hb=>?_,lt,fun n b hD hl=>absurd hD (by omega),fun n b hn' _ hb hd=>lt n b hn' hb hd,fun n b hD hl=>absurd hD (by omega),fun n n' b b' hD _ hl=>absurd hD (by omega),⟨fun g hg=>⟨?_,?_⟩,hs,hw⟩⟩
  · rcases parts n b hn' hb with ⟨h1,h2⟩|⟨j,rfl,h2⟩
    · exact (st.ok n b h1 h2).mono (fun k hk=>by have hk' : k < NG:=hk;show k < (GH ++ bs NG).length;omega) (fun k hk=>old k hk) (old n h1)
    · exact a.ok (fun k=>k < (GH ++ bs NG).length) (gnm is) NG (fun j hj=>by omega) (fun j i hi=>gnm_at hi) j b h2
  · show g < (GH ++ bs NG).length;omega
  · rw [old g hg];exact gm_at g
theorem NArgs.vls (a : NArgs W vs' ps bs is av) : VLs (fun k=>k < (GH ++ bs NG).length) (GH ++ bs NG) noL ps (av NG):=by
  have hn : (GH ++ bs NG).length = NG + is.length:=by rw [List.length_append,gh_len,a.len NG]
  exact a.vl _ _ NG (fun j hj=>by omega) (fun j b hb=>by rw [List.getElem?_append_right (by rw [gh_len];omega),gh_len,Nat.add_sub_cancel_left];exact hb)
theorem NArgs.vrs (a : NArgs W vs' ps bs is av) : VRs (fun k=>k < (GH ++ bs NG).length) (gnm is) (av NG) vs':=by
  have hn : (GH ++ bs NG).length = NG + is.length:=by rw [List.length_append,gh_len,a.len NG]
  exact a.vr _ _ NG (fun j hj=>by omega) (fun j i hi=>gnm_at hi)
end
section
variable {H : Type} {enc : TypeId × Value → H} {W : World} {base : Nat} {spare : Nat → Bool} {held : Bool}
end

section
variable {H : Type} {enc : TypeId × Value → H} {W : World} {base : Nat} {spare : Nat → Bool} {held : Bool}
end
end Go.Rex

open Go Go.Rex Go.Proofs
namespace Go.Rex
/-! ### what a row's listed variables hold,cell by cell -/
section
variable {P : Program} {w : World}
theorem listed_at : ∀ {l : List (String × DataW Unit)} {ps : List MemPlace}, DataW.LaidVars P w l ps → ∀ {n : String} {d : DataW Unit}, (n, d) ∈ l →
    ∃ g t cs fuel p,P.globalNamed n = some g ∧ (P.globals[g]?).map (·.type) = some t ∧ w.var? P n = some cs ∧ DataW.trod (fun _=>()) P w 0 (fun _=>true) false fuel t cs.toList = some (d,p)
  | [],_,_,_,_,hm=>by cases hm
  | (a,b) :: r,_,h,n,d,hm=>by
    obtain ⟨g,t,cs,fuel,p,q,h1,h2,h3,h4,h5,_⟩:=h
    rcases List.mem_cons.1 hm with e|e
    · cases e;exact ⟨g,t,cs,fuel,p,h1,h2,h3,h4⟩
    · exact listed_at h5 e
/-- the cells of data that hold no names, part after part -/
def catC (P : Program) (f : TypeId → DataW Unit → Option (List Value)) : List (TypeId × DataW Unit) → Option (List Value)
  | []=>some []
  | (t,d) :: r=>match f t d,catC P f r with
    | some a,some b=>some (a ++ b)
    | _,_=>none
def offsC (P : Program) : Nat → List Field → Option Nat
  | o,[]=>some o
  | o,f :: r=>if f.offset = o then offsC P (o + P.cellsOf f.type) r else none
def flatC (P : Program) : Nat → TypeId → DataW Unit → Option (List Value)
  | 0,_,_=>none
  | n + 1,t,d=>match P.underlying t,d with
    | some (.int k),.lit (.int _ z)=>some [.int k z]
    | some (.array m e),.agg ds=>if ds.length = m ∧ P.cellsOf t = m * P.cellsOf e then catC P (flatC P n) (ds.map fun d=>(e,d)) else none
    | some (.struct fs),.agg ds=>if ds.length = fs.size ∧ offsC P 0 fs.toList = some (P.cellsOf t) then catC P (flatC P n) ((fs.toList.map (·.type)).zip ds) else none
    | _,_=>none
abbrev RdC (P : Program) (w : World) (t : TypeId) (d : DataW Unit) (r : List Value) : Prop:=∃ fuel p,DataW.trod (fun _=>()) P w 0 (fun _=>true) false fuel t r = some (d,p)
theorem cat_eq {f : TypeId → DataW Unit → Option (List Value)} (hf : ∀ t d cs, f t d = some cs → ∀ r, RdC P w t d r → r = cs) : ∀ (l : List (TypeId × DataW Unit)) (cs r : List Value) (pos : Nat → Nat), catC P f l = some cs →
    (∀ i t d,l[i]? = some (t,d) → RdC P w t d ((r.drop (pos i)).take (P.cellsOf t)) ∧ pos (i + 1) = pos i + P.cellsOf t) → r.length = pos l.length → r.drop (pos 0) = cs
  | [],cs,r,pos,h,_,hl=>by
    cases h
    exact List.drop_eq_nil_of_le (by rw [hl];exact Nat.le_refl _)
  | (t,d) :: l,cs,r,pos,h,ha,hl=>by
    unfold catC at h
    split at h
    · rename_i a b e1 e2
      cases h
      obtain ⟨h1,h2⟩:=ha 0 t d rfl
      have k1:=hf t d a e1 _ h1
      have k2:=cat_eq hf l b r (fun i=>pos (i + 1)) e2 (fun i t d hi=>ha (i + 1) t d (by simpa using hi)) (by simpa using hl)
      rw [h2,← List.drop_drop] at k2
      rw [← List.take_append_drop (P.cellsOf t) (r.drop (pos 0)),k1,k2]
    · cases h
theorem offs_pos : ∀ (fs : List Field) (o e : Nat),offsC P o fs = some e → ∃ pos : Nat → Nat,pos 0 = o ∧ pos fs.length = e ∧ ∀ i f,fs[i]? = some f → f.offset = pos i ∧ pos (i + 1) = pos i + P.cellsOf f.type
  | [],o,e,h=>by cases h;exact ⟨fun _=>o,rfl,rfl,fun i f hf=>by simp at hf⟩
  | f :: r,o,e,h=>by
    unfold offsC at h
    split at h
    · rename_i ho
      obtain ⟨pos,h1,h2,h3⟩:=offs_pos r _ _ h
      refine ⟨fun|0=>o|i + 1=>pos i,rfl,h2,fun i g hg=>?_⟩
      cases i with
      | zero=>cases hg;exact ⟨ho,h1⟩
      | succ i=>exact h3 i g (by simpa using hg)
    · cases h
theorem flat_eq : ∀ (n : Nat) (t : TypeId) (d : DataW Unit) (cs : List Value),flatC P n t d = some cs → ∀ r,RdC P w t d r → r = cs:=by
  intro n
  induction n with
  | zero=>intro t d cs h;cases h
  | succ n ih =>
    intro t d cs h r ⟨fuel,p,hr⟩
    unfold flatC at h
    split at h
    · rename_i k k' z hu
      cases h
      obtain ⟨z',e1,e2,_⟩:=DataW.trod_int hu hr
      simp only [Prod.mk.injEq,DataW.lit.injEq,Lit.int.injEq] at e2
      rw [e1,e2.1.2]
    · rename_i m e ds hu
      split at h
      · rename_i hc
        obtain ⟨xs,m',_,e2,e3,e4,e5⟩:=DataW.trod_array hu hr
        simp only [Prod.mk.injEq,DataW.agg.injEq] at e2
        have:=cat_eq (w:=w) ih (ds.map fun d=>(e,d)) cs r (fun i=>i * P.cellsOf e) h (fun i t' d' hi=>by
          rw [List.getElem?_map,Option.map_eq_some_iff] at hi
          obtain ⟨x,hx,hh⟩:=hi
          simp only [Prod.mk.injEq] at hh
          obtain ⟨rfl,rfl⟩:=hh
          have hlt:=(List.getElem?_eq_some_iff.1 hx).1
          have hi5:=e5 i (by omega)
          rw [e2.1,List.getElem?_map,Option.map_eq_some_iff] at hx
          obtain ⟨y,hy,rfl⟩:=hx
          rw [hy] at hi5
          exact ⟨⟨_,_,hi5⟩,by rw [Nat.add_mul,Nat.one_mul]⟩) (by rw [List.length_map,hc.1,← hc.2];exact e3)
        simpa using this
      · cases h
    · rename_i fs ds hu
      split at h
      · rename_i hc
        obtain ⟨xs,m',_,e2,e3,e4,e5⟩:=DataW.trod_struct hu hr
        simp only [Prod.mk.injEq,DataW.agg.injEq] at e2
        obtain ⟨pos,p0,p1,p2⟩:=offs_pos _ _ _ hc.2
        have:=cat_eq (w:=w) ih ((fs.toList.map (·.type)).zip ds) cs r pos h (fun i t' d' hi=>by
          rw [List.getElem?_zip_eq_some,List.getElem?_map,Option.map_eq_some_iff] at hi
          obtain ⟨⟨f,hf,rfl⟩,hx⟩:=hi
          have hfs : fs[i]? = some f:=by simpa using hf
          have hi5:=e5 i f hfs
          obtain ⟨q1,q2⟩:=p2 i f hf
          rw [e2.1,List.getElem?_map,Option.map_eq_some_iff] at hx
          obtain ⟨y,hy,rfl⟩:=hx
          rw [hy,q1] at hi5
          exact ⟨⟨_,_,hi5⟩,q2⟩) (by
          have : ((fs.toList.map (·.type)).zip ds).length = fs.toList.length:=by simp [hc.1]
          rw [this,p1];exact e3)
        rw [p0] at this
        simpa using this
      · cases h
    · cases h
theorem listed_cells {l : List (String × DataW Unit)} (h : laidMet P l w) {n : String} {d : DataW Unit} (hm : (n, d) ∈ l) {g : Nat} {t : TypeId} {cs : List Value} (hg : P.globalNamed n = some g) (hty : (P.globals[g]?).map (·.type) = some t) (hf : flatC P 10 t d = some cs) :
    ∀ (i : Nat) v,cs[i]? = some v → w.cell? ⟨g,i,none⟩ = some v:=by
  obtain ⟨ps,hv,_⟩:=h
  obtain ⟨g',t',cs',fuel,p,h1,h2,h3,h4⟩:=listed_at hv hm
  obtain rfl:=Option.some.inj (hg.symm.trans h1)
  obtain rfl:=Option.some.inj (hty.symm.trans h2)
  have e:=flat_eq (w:=w) 10 _ _ _ hf _ ⟨_,_,h4⟩
  intro i v hi
  rw [World.var?_cell h1 h3]
  rw [← e] at hi
  simpa using hi
end
/-- what is known of the variables, one after the other -/
def AllC (w : World) : Nat → List (Nat × List Value) → Prop
  | _,[]=>True
  | g,p :: r=>(∀ (i : Nat) v,p.2[i]? = some v → w.cell? ⟨g,i,none⟩ = some v) ∧ AllC w (g + 1) r
theorem allC_at {w : World} : ∀ (l : List (Nat × List Value)) (g k : Nat) (p : Nat × List Value),AllC w g l → l[k]? = some p → ∀ (i : Nat) v,p.2[i]? = some v → w.cell? ⟨g + k,i,none⟩ = some v
  | [],_,_,_,_,h=>by simp at h
  | q :: r,g,0,p,h,hk=>by cases hk;exact h.1
  | q :: r,g,k + 1,p,h,hk=>by
    have:=allC_at r (g + 1) k p h.2 (by simpa using hk)
    rw [show g + (k + 1) = g + 1 + k by omega]
    exact this
theorem noCells {w : World} {g : Nat} : ∀ (i : Nat) v,([] : List Value)[i]? = some v → w.cell? ⟨g,i,none⟩ = some v:=fun i v h=>by simp at h
theorem gh_size {w : World} {g : Nat} {v : Value} (h : w.cell? ⟨g,0,none⟩ = some v) : g < w.heap.size:=by
  unfold World.cell? at h
  rcases Nat.lt_or_ge g w.heap.size with q|q
  · exact q
  · rw [Array.getElem?_eq_none q] at h
    simp at h
theorem gw_all {w : World} (h : AllC w 0 ghCells) : GW w:=fun g es c hg i v hv=>by
  unfold GH at hg
  rw [List.getElem?_map,Option.map_eq_some_iff] at hg
  obtain ⟨p,hp,e⟩:=hg
  cases e
  have:=allC_at ghCells 0 g p h hp i v hv
  rwa [Nat.zero_add] at this
end Go.Rex
