/- What these functions return: facts on lists and numbers. -/
import Derived.Test.YtjhneebncpmneaaGreatDoorRexG9
import Derived.Test.YtjhneebncpmneaaGreatDoorS
import Derived.ProofKit
import Derived.OpenShut
import Derived.ShutString
import Derived.ChangeOld
import Derived.Below
import Derived.Lib.SmallJoins
import Derived.ChangeShapes
import Derived.ChangeArms
import Derived.WideShapes
import Derived.Lay
import Derived.MakeChecks
import Derived.SevenTiedAt
set_option linter.unusedSimpArgs false
set_option linter.unusedVariables false
set_option linter.defProp false
set_option linter.unusedSectionVars false
namespace Go.Rex
open Go.RowKit
/-! ## whole floats -/
structure FOk (f : Ieee.Format) (q : Nat) : Prop where
  lp : f.leastPlace = -(q : Int)
  le : f.fractionBits + 1 ≤ q
  inf : (q + 2) * f.binade ≤ f.infRung
  sgn : f.infRung < f.signWeight
theorem shl (m s : Nat) : m <<< s = m * 2 ^ s:=Nat.shiftLeft_eq m s
theorem log2_mul {m : Nat} (hm : m ≠ 0) (s : Nat) : (m * 2 ^ s).log2 = m.log2 + s:=by
  rw [Nat.log2_eq_iff (by have:=Nat.two_pow_pos s;exact Nat.mul_ne_zero hm (by omega))]
  have h1:=(Nat.log2_eq_iff hm).1 rfl
  constructor
  · rw [Nat.pow_add];exact Nat.mul_le_mul_right _ h1.1
  · rw [show m.log2 + s + 1 = m.log2 + 1 + s by omega,Nat.pow_add];exact Nat.mul_lt_mul_of_pos_right h1.2 (Nat.two_pow_pos s)
theorem cut_exact {m : Nat} (hm : m ≠ 0) (neg : Bool) {s d : Nat} (hd : d ≤ s) (way : Ieee.Toward) : way.cut neg (m * 2 ^ s) d = m * 2 ^ (s - d):=by
  have hg : min d ((m * 2 ^ s).log2 + 2) = d:=by rw [log2_mul hm];omega
  have e : m * 2 ^ s = 2 ^ d * (m * 2 ^ (s - d)):=by
    rw [Nat.mul_comm (2 ^ d),Nat.mul_assoc,← Nat.pow_add,Nat.sub_add_cancel hd]
  have hp:=Nat.two_pow_pos d
  unfold Ieee.Toward.cut
  rw [hg,shl,Nat.one_mul,e]
  dsimp only
  rw [Nat.mul_div_cancel_left _ hp,Nat.mul_mod_right]
  have : (2 ^ d == 0) = false:=by simp
  cases way<;>simp [this]
theorem cut_exact0 (neg : Bool) {d : Nat} (way : Ieee.Toward) : way.cut neg 0 d = 0:=by
  unfold Ieee.Toward.cut
  have hp : 0 < 1 <<< min d ((0 : Nat).log2 + 2):=by rw [shl,Nat.one_mul];exact Nat.two_pow_pos _
  have : (1 <<< min d ((0 : Nat).log2 + 2) == 0) = false:=by rw [beq_eq_false_iff_ne];omega
  cases way<;>simp [this]
def sg (s : Bool) (m : Nat) : Int:=if s then -(m : Int) else m
theorem signed_eq (s : Bool) (m u : Nat) : Ieee.signed s m u = sg s m * 2 ^ u:=by
  unfold Ieee.signed sg
  rw [shl]
  cases s<;>simp [Int.neg_mul]
/-- a whole float: a sign and a size -/
def fz (k : FloatKind) (s : Bool) (m : Nat) : Nat:=k.encode (.number s m 0)
theorem sg_mul (s : Bool) (m n : Nat) : sg s (m * n) = sg s m * n:=by cases s<;>simp [sg,Int.neg_mul]
theorem sg_abs (s : Bool) (m : Nat) : (sg s m).natAbs = m:=by cases s<;>simp [sg]
end Go.Rex

open Go Go.Rex
namespace Go.Rex
set_option maxRecDepth 100000
/-! ## numbers as words,at any place -/
/-! ## which number a datum is -/
/-- the number s m times 2 to the e is the whole number x -/
def NV (s : Bool) (m : Nat) (e : Int) (x : Int) : Prop:=(0 ≤ e ∧ sg s m * 2 ^ e.toNat = x) ∨ (e < 0 ∧ sg s m = x * 2 ^ (-e).toNat)
end Go.Rex

open Go Go.Rex
namespace Go.Rex
set_option maxRecDepth 100000
/-! ## samples: what a word of 32 bits is -/
def MOk (m : Nat) (e : Int) : Prop:=(m = 0 ∧ e = -149) ∨ (m ≠ 0 ∧ m < 2 ^ 24 ∧ -149 ≤ e ∧ e ≤ 104)
/-- a sample's number as a double -/
structure Dbl (s : Bool) (m : Nat) (e : Int) (v M : Nat) (E : Int) : Prop where
  nr : v = Ieee.double.nearest s m e
  rd : Ieee.double.read v = .number s M E
  nv : ∀ x,NV s M E x ↔ NV s m e x
  lt : M < 2 ^ 53
  hi : E ≤ 104
  sh : (m = 0 ∧ M = 0 ∧ E = -1074) ∨ ∃ t : Nat,m ≠ 0 ∧ M = m * 2 ^ t ∧ E = e - t
/-! ### the whole part -/
theorem sg_of_nat {s : Bool} {m : Nat} {e x : Int} (h : NV s m e x) : sg s x.natAbs = x:=by
  have key : ∀ (a : Nat) (y : Int),sg s a = y → sg s y.natAbs = y:=fun a y h=>by rw [← h,sg_abs]
  have hp : ∀ k : Nat,(0 : Int) < 2 ^ k:=fun k=>Int.pow_pos (by decide)
  rcases h with ⟨_,h⟩|⟨_,h⟩
  · have : sg s (m * 2 ^ e.toNat) = x:=by rw [sg_mul,← h,Int.natCast_pow];rfl
    exact key _ _ this
  · have h2 : 0 ≤ sg s 1 * x := by
      have h3 : sg s m = sg s 1 * (m : Int):=by cases s<;>simp [sg]
      have h4 : (0 : Int) ≤ sg s 1 * (x * 2 ^ (-e).toNat):=by rw [← h,h3];cases s<;>simp [sg]
      rw [← Int.mul_assoc] at h4
      by_cases hn : sg s 1 * x < 0
      · have:=Int.mul_neg_of_neg_of_pos hn (hp (-e).toNat)
        omega
      · omega
    cases s
    · simp [sg] at h2 ⊢;omega
    · simp [sg] at h2 ⊢;omega
end Go.Rex

namespace Go.Rex
open Go Go.Rex
set_option maxRecDepth 100000
/-! ## samples: what the program and the reference say of them -/
end Go.Rex

namespace Go.Rex
open Go Go.Rex
set_option maxRecDepth 100000
end Go.Rex

namespace Go.Rex
/-! ### plain facts for shallow functions -/
theorem w64 {x : Int} (h : -9223372036854775808 ≤ x ∧ x ≤ 9223372036854775807) : IntKind.i64.wrap x = x:=IntWalk.i64_in x (by omega)
/-- a loop that counts -/
theorem run_count {σ ε : Type} {step : σ → Option (σ ⊕ ε)} (f : Nat → σ) {n : Nat} {e : ε} (h : ∀ k,k < n → step (f k) = some (.inl (f (k + 1)))) (hn : step (f n) = some (.inr e)) : run step (f 0) = some e:=by
  suffices H : ∀ j k,n - k = j → k ≤ n → run step (f k) = some e from H n 0 (by omega) (Nat.zero_le _)
  intro j
  induction j with
  | zero => intro k hj hk; obtain rfl : k = n := by omega
            exact run_stop hn
  | succ j ih=>intro k hj hk;rw [run_next (h k (by omega))];exact ih (k + 1) (by omega) (by omega)
theorem getI_nat {α : Type} {xs : List α} {k : Nat} : getI xs (k : Int) = xs[k]?:=by
  unfold getI
  rw [if_pos (by omega),Int.toNat_natCast]
end Go.Rex

namespace Go.Rex
/-! ### a loop that walks a list,gathers,and may end early -/
end Go.Rex

open Go Go.Rex
namespace Go.Rex
set_option maxRecDepth 100000
/-! ### loops,once more -/
theorem wsucc {k : Nat} {n : Nat} (h : k ≤ n) (hn : n ≤ 2 ^ 62) : IntKind.i64.wrap ((k : Int) + 1) = ((k + 1 : Nat) : Int):=by rw [w64 (by omega)];omega
def iter {β : Type} (g : Nat → β → β) : Nat → β → β
  | 0,b=>b
  | k + 1,b=>g k (iter g k b)
theorem run_iter {β σ ε : Type} {step : σ → Option (σ ⊕ ε)} (st : Nat → β → σ) (g : Nat → β → β) (fin : β → ε) (n : Nat) (Inv : Nat → β → Prop) {b0 : β} (h0 : Inv 0 b0)
    (hs : ∀ k b,k < n → Inv k b → step (st k b) = some (.inl (st (k + 1) (g k b))) ∧ Inv (k + 1) (g k b)) (he : ∀ b,Inv n b → step (st n b) = some (.inr (fin b))) :
    run step (st 0 b0) = some (fin (iter g n b0)) ∧ ∀ k,k ≤ n → Inv k (iter g k b0):=by
  have hI : ∀ k,k ≤ n → Inv k (iter g k b0):=by
    intro k
    induction k with
    | zero=>intro _;exact h0
    | succ k ih=>intro hk;exact (hs k _ (by omega) (ih (by omega))).2
  refine ⟨?_,hI⟩
  exact run_count (fun k=>st k (iter g k b0)) (fun k hk=>(hs k _ hk (hI k (by omega))).1) (he _ (hI n (Nat.le_refl _)))
/-! ### small things -/
/-! ### sums of lists -/
end Go.Rex

namespace Go.Rex
open Go Go.Rex
set_option maxRecDepth 100000
/-! ## a sample's error -/
theorem cutN {s : Bool} {m : Nat} {e x : Int} (h : MOk m e) (hx : NV s m e x) : Ieee.Toward.cut .zero s (m <<< e.toNat) (-e).toNat = x.natAbs:=by
  rcases h with ⟨h0,h1⟩|⟨hm,-,-,-⟩
  · subst h0 h1
    have e0 : sg s 0 = 0:=by cases s<;>rfl
    have hx0 : x = 0:=by
      rcases hx with ⟨_,hx⟩|⟨_,hx⟩
      · rw [e0,Int.zero_mul] at hx;exact hx.symm
      · rw [e0] at hx
        rcases Int.mul_eq_zero.1 hx.symm with h|h
        · exact h
        · exact absurd h (Int.ne_of_gt (Int.pow_pos (by decide)))
    rw [hx0,show (0 : Nat) <<< (-149 : Int).toNat = 0 by rw [shl];simp,cut_exact0]
    rfl
  · rcases hx with ⟨he,hx⟩|⟨he,hx⟩
    · rw [shl,show (-e).toNat = 0 by omega,cut_exact hm s (by omega)]
      have h3:=congrArg Int.natAbs hx
      rw [Int.natAbs_mul,sg_abs,Int.natAbs_pow] at h3
      rw [← h3]
      rfl
    · have hX : m = x.natAbs * 2 ^ (-e).toNat := by
        have:=congrArg Int.natAbs hx
        rw [sg_abs,Int.natAbs_mul,Int.natAbs_pow] at this
        exact this
      have hX0 : x.natAbs ≠ 0:=by
        intro h
        rw [h,Nat.zero_mul] at hX
        exact hm hX
      rw [show e.toNat = 0 by omega,shl,Nat.pow_zero,Nat.mul_one,hX,cut_exact hX0 s (Nat.le_refl _)]
      simp
theorem f2i_32 {b : Nat} {s : Bool} {m : Nat} {e x : Int} (hr : Ieee.single.read b = .number s m e) (h : MOk m e) (hx : NV s m e x) (hb : -32767 ≤ x ∧ x ≤ 32767) : f2i .f32 b .i64 = some x:=by
  unfold f2i
  have e1 : FloatKind.f32.decode b = .number s m e:=hr
  rw [e1]
  have e2 : (Ieee.Datum.number s m e).toInt .zero = some x:=by
    unfold Ieee.Datum.toInt Ieee.Datum.integral
    simp only [cutN h hx,signed_eq,Int.pow_zero,Int.mul_one,sg_of_nat hx]
  rw [e2]
  simp only
  have hm : IntKind.i64.min = -9223372036854775808 ∧ IntKind.i64.max = 9223372036854775807:=by decide
  rw [hm.1,hm.2,if_pos (by omega)]
/-- the first error of a list -/
def fe : List Int → Int
  | []=>0
  | a :: t=>if a ≠ 0 then a else fe t
theorem firstError_eq {l : List Int} (hl : l.length ≤ 100) : figure_firstError l = some (fe l):=by
  have key : ∀ (t : List Int) (k : Nat),l.drop k = t → k ≤ l.length → ∃ r,run (figure_firstError_l1 l) (k : Int) = some r ∧ (match r with|.inl v=>v|.inr _=>0) = fe t:=by
    intro t
    induction t with
    | nil =>
      intro k hk hkl
      have : k = l.length:=by
        have:=congrArg List.length hk
        simp at this
        omega
      subst this
      refine ⟨.inr (),run_stop ?_,rfl⟩
      unfold figure_firstError_l1
      rw [if_neg (by simp)]
    | cons a t ih =>
      intro k hk hkl
      have hlt : k < l.length:=by
        rcases Nat.lt_or_ge k l.length with h|h
        · exact h
        · rw [List.drop_eq_nil_of_le h] at hk;cases hk
      have ha : l[k]? = some a:=by
        have : (l.drop k)[0]? = some a:=by rw [hk];rfl
        simpa using this
      have ht : l.drop (k + 1) = t:=by
        rw [← List.drop_drop,hk]
        rfl
      by_cases h0 : a = 0
      · obtain ⟨r,h1,h2⟩:=ih (k + 1) ht hlt
        refine ⟨r,?_,by rw [h2];unfold fe;rw [if_neg (by simpa using h0)];cases t<;>rfl⟩
        rw [← h1]
        refine run_next ?_
        unfold figure_firstError_l1
        rw [if_pos (by simp;omega),getI_nat,ha]
        simp only [Option.bind_some,h0,ne_eq,not_true_eq_false,decide_false,Bool.false_eq_true,if_false]
        rw [w64 (by omega)]
        rfl
      · refine ⟨.inl a,run_stop ?_,by unfold fe;rw [if_pos h0]⟩
        unfold figure_firstError_l1
        rw [if_pos (by simp;omega),getI_nat,ha]
        simp [h0]
  obtain ⟨r,h1,h2⟩:=key l 0 rfl (Nat.zero_le _)
  unfold figure_firstError
  rw [show (0 : Int) = ((0 : Nat) : Int) from rfl,h1]
  rw [← h2]
  cases r<;>rfl
/-! ## a sample -/
/-- the word b is the whole number x -/
def SV (b : Nat) (x : Int) : Prop:=∃ s m e,Ieee.single.read b = .number s m e ∧ MOk m e ∧ NV s m e x
theorem SV.val {b : Nat} {x : Int} (h : SV b x) (hb : -32767 ≤ x ∧ x ≤ 32767) : f2i .f32 b .i64 = some x:=by
  obtain ⟨s,m,e,h1,h2,h3⟩:=h
  exact f2i_32 h1 h2 h3 hb
/-- what the reference sees of a sample -/
structure RS (b : Nat) (o : Option Int) : Prop where
  val : ∃ v,f2f .f32 b .f64 = some v ∧ base_IsWhole v = some o.isSome ∧ ∀ x,o = some x → fcmp .gtr .f64 v 4674736138332667904 = decide (32767 < x) ∧ fcmp .lss .f64 v 13898108175187443712 = decide (x < -32767)
end Go.Rex

namespace Go.Rex
open Go Go.Rex
set_option maxRecDepth 100000
/-! ## the checks of responses and asks -/
/-- a sample that is right -/
def SGood (b : Nat) (x : Int) : Prop:=SV b x ∧ -32767 ≤ x ∧ x ≤ 32767
theorem within_eq (n a b : Int) : figure_within n a b = some (if a ≤ n ∧ n ≤ b then 0 else 2):=by
  unfold figure_within figure_refuse
  by_cases h1 : n < a
  · rw [if_pos (decide_eq_true h1)]
    simp only [if_true,Option.bind_some]
    rw [if_neg (by omega)]
  · rw [if_neg (by simpa using h1)]
    by_cases h2 : n > b
    · rw [if_pos (decide_eq_true h2)]
      simp only [Option.bind_some]
      rw [if_neg (by omega)]
    · rw [if_neg (by simpa using h2)]
      simp only [Option.bind_some]
      rw [if_pos (by omega)]
theorem base_within (n a b : Int) : base_Within n a b = some (decide (a ≤ n ∧ n ≤ b)):=by
  unfold base_Within
  by_cases h : a ≤ n
  · rw [if_pos (decide_eq_true h)]
    simp [h]
  · rw [if_neg (by simpa using h)]
    simp [h]
/-- a response without an error -/
structure Right (r : Int) (l : List Nat) : Prop where
  rate : 8000 ≤ r ∧ r ≤ 192000
  len : 0 < l.length ∧ l.length ≤ 1024
  smp : ∀ b ∈ l,∃ x,SGood b x
theorem floor_eq (n d : Int) (hd : 0 < d) (hn : -4611686018427387904 ≤ n ∧ n ≤ 4611686018427387904) : base_Floor n d = some (n / d):=by
  unfold base_Floor
  rw [if_neg (by omega)]
  have hb : -4611686018427387904 ≤ n / d ∧ n / d ≤ 4611686018427387904:=by
    constructor
    · have h1 : n / d ≥ -4611686018427387904 / 1 ∨ True:=.inr trivial
      have:=Int.le_ediv_of_mul_le hd (a:=-4611686018427387904) (b:=n) (by
        have:=Int.mul_le_mul_of_nonneg_left (show (1 : Int) ≤ d by omega) (show (0 : Int) ≤ 4611686018427387904 by decide)
        omega)
      exact this
    · have := Int.ediv_le_of_le_mul hd (a := n) (b := 4611686018427387904) (by
        have:=Int.mul_le_mul_of_nonneg_left (show (1 : Int) ≤ d by omega) (show (0 : Int) ≤ 4611686018427387904 by decide)
        omega)
      exact this
  by_cases h0 : 0 ≤ n
  · have e1 : n.tmod d = n % d:=Int.tmod_eq_emod_of_nonneg h0
    have e2 : n.tdiv d = n / d:=Int.tdiv_eq_ediv_of_nonneg h0
    have:=Int.emod_nonneg n (show d ≠ 0 by omega)
    rw [e1,if_neg (by simpa using this),e2,w64 (by omega)]
  · have hq:=Int.mul_tdiv_add_tmod n d
    have hm : -d < n.tmod d ∧ n.tmod d ≤ 0:=by
      have h1:=Int.tmod_lt_of_pos (-n) hd
      rw [Int.neg_tmod] at h1
      have h2:=Int.tmod_nonneg (a:=-n) d (by omega)
      rw [Int.neg_tmod] at h2
      omega
    by_cases hz : n.tmod d < 0
    · rw [if_pos (decide_eq_true hz)]
      have hdiv : n / d = n.tdiv d - 1:=by
        have h3 : n = (n.tmod d + d) + d * (n.tdiv d - 1):=by rw [Int.mul_sub];omega
        rw [h3,Int.add_mul_ediv_left _ _ (by omega),Int.ediv_eq_zero_of_lt (by omega) (by omega)]
        have:=Int.mul_tdiv_add_tmod n d
        rw [← h3]
        omega
      rw [hdiv] at hb ⊢
      rw [w64 (x:=n.tdiv d) (by omega),w64 (by omega)]
    · rw [if_neg (by simpa using hz)]
      have hz0 : n.tmod d = 0:=by omega
      have hdiv : n / d = n.tdiv d:=by
        have h3 : n = d * n.tdiv d:=by omega
        rw [h3,Int.mul_ediv_cancel_left _ (by omega)]
        rw [← h3]
      rw [hdiv] at hb ⊢
      rw [w64 (by omega)]
end Go.Rex

namespace Go.Rex
open Go Go.Rex
set_option maxRecDepth 100000
/-! ## energies of samples -/
noncomputable def val (l : List Nat) (k : Nat) : Int:=(f2i .f32 (l.getD k 0) .i64).getD 0
def loS (n x : Int) : Int:=(max (x.natAbs - n) 0) * (max (x.natAbs - n) 0)
/-- the sum of the first ones -/
def sumTo (f : Nat → Int) : Nat → Int
  | 0=>0
  | k + 1=>sumTo f k + f k
def loW (l : Nat → Int) (n : Int) (a k : Nat) : Int:=sumTo (fun j=>loS n (l (a + j))) k
theorem fe2 (a b : Int) : fe [a,b] = if a ≠ 0 then a else b:=by
  unfold fe fe
  by_cases h : a = 0
  · subst h
    by_cases hb : b = 0
    · subst hb;rfl
    · simp [hb]
  · simp [h]
end Go.Rex

namespace Go.Rex
open Go Go.Rex
set_option maxRecDepth 100000
/-! ## FigureEnergies -/
end Go.Rex

namespace Go.Rex
open Go Go.Rex
set_option maxRecDepth 100000
/-! ## shares and FigureLateral -/
end Go.Rex

namespace Go.Rex
open Go Go.Rex
set_option maxRecDepth 100000
/-! ## sums to the end,and FigureSums -/
end Go.Rex

namespace Go.Rex
open Go Go.Rex
set_option maxRecDepth 100000
def sgn (z : Int) : Int:=if z < 0 then -1 else if z > 0 then 1 else 0
/-- comparing by whole parts -/
theorem bcmp_run : ∀ (s : Nat) (n d m k : Int),0 ≤ n ∧ n ≤ 4611686018427387904 → 0 < d ∧ d ≤ 4611686018427387904 → 0 ≤ m ∧ m ≤ 4611686018427387904 → 0 < k ∧ k ≤ 4611686018427387904 → d + k = s → run base_Compare_l1 (n,d,m,k) = some (sgn (n * k - m * d)):=by
  intro s
  induction s using Nat.strongRecOn with
  | _ s ih =>
    intro n d m k hn hd hm hk hs
    have e1:=Int.emod_add_mul_ediv n d
    have e2:=Int.emod_add_mul_ediv m k
    have r1:=Int.emod_nonneg n (show d ≠ 0 by omega)
    have r2:=Int.emod_lt_of_pos n hd.1
    have r3:=Int.emod_nonneg m (show k ≠ 0 by omega)
    have r4:=Int.emod_lt_of_pos m hk.1
    have p0 : 0 ≤ n / d:=Int.ediv_nonneg hn.1 (by omega)
    have q0 : 0 ≤ m / k:=Int.ediv_nonneg hm.1 (by omega)
    have d1 : d * (n / d) = n - n % d:=by omega
    have d2 : k * (m / k) = m - m % k:=by omega
    have step : base_Compare_l1 (n,d,m,k) = if decide (n / d < m / k) = true then some (.inr (-1)) else if decide (n / d > m / k) = true then some (.inr 1) else if decide (n % d = 0) = true then (if decide (m % k = 0) = true then some (.inr 0) else some (.inr (-1))) else if decide (m % k = 0) = true then some (.inr 1) else some (.inl (k,m % k,d,n % d)):=by
      dsimp only [base_Compare_l1]
      rw [floor_eq _ _ hd.1 (by omega),floor_eq _ _ hk.1 (by omega),Option.bind_some,Option.bind_some,Int.mul_comm (n / d) d,Int.mul_comm (m / k) k,d1,d2,w64 (x:=n - n % d) (by omega),w64 (x:=m - m % k) (by omega),w64 (x:=n - (n - n % d)) (by omega),w64 (x:=m - (m - m % k)) (by omega),show n - (n - n % d) = n % d by omega,show m - (m - m % k) = m % k by omega]
    have hz : n * k - m * d = d * k * (n / d - m / k) + (n % d * k - m % k * d):=by
      have h1 : n * k = d * k * (n / d) + n % d * k:=by
        conv=>lhs;rw [← e1]
        rw [Int.add_mul,Int.mul_right_comm,Int.add_comm]
      have h2 : m * d = d * k * (m / k) + m % k * d:=by
        conv=>lhs;rw [← e2]
        rw [Int.add_mul,Int.mul_right_comm,Int.add_comm,Int.mul_comm k d]
      rw [h1,h2,Int.mul_sub]
      omega
    have t1 : 0 ≤ n % d * k:=Int.mul_nonneg r1 (by omega)
    have t2 : 0 ≤ m % k * d:=Int.mul_nonneg r3 (by omega)
    have t3 : n % d * k < d * k:=Int.mul_lt_mul_of_pos_right r2 hk.1
    have t4 : m % k * d < d * k:=by rw [Int.mul_comm d k];exact Int.mul_lt_mul_of_pos_right r4 hd.1
    have t5 : 0 < d * k:=Int.mul_pos hd.1 hk.1
    by_cases c1 : n / d < m / k
    · rw [if_pos (by simpa using c1)] at step
      rw [run_stop step]
      have h : d * k * (n / d - m / k) ≤ d * k * (-1):=Int.mul_le_mul_of_nonneg_left (by omega) (by omega)
      unfold sgn
      rw [if_pos (by omega)]
    · rw [if_neg (by simpa using c1)] at step
      by_cases c2 : n / d > m / k
      · rw [if_pos (by simpa using c2)] at step
        rw [run_stop step]
        have h : d * k * 1 ≤ d * k * (n / d - m / k):=Int.mul_le_mul_of_nonneg_left (by omega) (by omega)
        unfold sgn
        rw [if_neg (by omega),if_pos (by omega)]
      · rw [if_neg (by simpa using c2)] at step
        have hz2 : n * k - m * d = n % d * k - m % k * d:=by
          rw [hz,show n / d - m / k = 0 by omega,Int.mul_zero,Int.zero_add]
        rw [hz2]
        by_cases c3 : n % d = 0
        · rw [if_pos (by simpa using c3)] at step
          by_cases c4 : m % k = 0
          · rw [if_pos (by simpa using c4)] at step
            rw [run_stop step,c3,c4]
            simp [sgn]
          · rw [if_neg (by simpa using c4)] at step
            have:=Int.mul_pos (show 0 < m % k by omega) hd.1
            rw [run_stop step,c3,Int.zero_mul]
            unfold sgn
            rw [if_pos (by omega)]
        · rw [if_neg (by simpa using c3)] at step
          have h5:=Int.mul_pos (show 0 < n % d by omega) hk.1
          by_cases c4 : m % k = 0
          · rw [if_pos (by simpa using c4)] at step
            rw [run_stop step,c4,Int.zero_mul]
            unfold sgn
            rw [if_neg (by omega),if_pos (by omega)]
          · rw [if_neg (by simpa using c4)] at step
            rw [run_next step,ih (m % k + n % d).toNat (by omega) k (m % k) d (n % d) (by omega) (by omega) (by omega) (by omega) (by omega),Int.mul_comm k,Int.mul_comm d]

theorem bcmp_eq {n d m k : Int} (hn : 0 ≤ n ∧ n ≤ 4611686018427387904) (hd : 0 < d ∧ d ≤ 4611686018427387904) (hm : 0 ≤ m ∧ m ≤ 4611686018427387904) (hk : 0 < k ∧ k ≤ 4611686018427387904) : base_Compare n d m k = some (sgn (n * k - m * d)):=by
  unfold base_Compare
  rw [bcmp_run (d + k).toNat n d m k hn hd hm hk (by omega)]
  rfl
/-! ## FigureDefinitions -/
end Go.Rex

namespace Go.Rex
open Go Go.Rex
set_option maxRecDepth 100000
end Go.Rex

namespace Go.Rex
open Go Go.Rex
set_option maxRecDepth 100000
/-! ## products of two words -/
theorem wu64 {x : Int} (h : 0 ≤ x ∧ x ≤ 18446744073709551615) : IntKind.u64.wrap x = x:=IntWalk.u64_in x (by omega)
theorem shr32 {a : Int} (h : 0 ≤ a) : shI .shr .u64 a 32 = some (a / 4294967296):=by
  unfold shI
  rw [if_neg (by omega)]
  show some (a.fdiv (2 ^ 32)) = _
  rw [Int.fdiv_eq_ediv_of_nonneg _ (by omega)]
  rfl
theorem and32 {a : Int} (h : 0 ≤ a ∧ a ≤ 18446744073709551615) : bitI .and .u64 a 4294967295 = a % 4294967296:=by
  obtain ⟨n,rfl⟩ : ∃ n : Nat,a = n:=⟨a.toNat,by omega⟩
  unfold bitI
  show IntKind.u64.wrap (((BitVec.ofInt 64 (n : Int)) &&& (BitVec.ofInt 64 4294967295)).toNat : Int) = _
  have e : ((BitVec.ofInt 64 (n : Int)) &&& (BitVec.ofInt 64 4294967295)).toNat = n % 4294967296:=by
    rw [BitVec.toNat_and]
    have h1 : (BitVec.ofInt 64 (n : Int)).toNat = n:=by
      rw [BitVec.toNat_ofInt]
      omega
    have h2 : (BitVec.ofInt 64 4294967295).toNat = 2 ^ 32 - 1:=by decide
    rw [h1,h2,Nat.and_two_pow_sub_one_eq_mod]
  rw [e,wu64 (by omega)]
  omega
theorem mul64_eq {a b : Int} (ha : 0 ≤ a ∧ a ≤ 9223372036854775807) (hb : 0 ≤ b ∧ b ≤ 9223372036854775807) : math_bits_Mul64 a b = some (a * b / 18446744073709551616,a * b % 18446744073709551616):=by
  unfold math_bits_Mul64
  have p1:=Int.mul_nonneg (Int.emod_nonneg a (show (4294967296 : Int) ≠ 0 by omega)) (Int.emod_nonneg b (show (4294967296 : Int) ≠ 0 by omega))
  have A0:=Int.emod_nonneg a (show (4294967296 : Int) ≠ 0 by omega)
  have A1:=Int.emod_lt_of_pos a (show (0 : Int) < 4294967296 by omega)
  have B0:=Int.emod_nonneg b (show (4294967296 : Int) ≠ 0 by omega)
  have B1:=Int.emod_lt_of_pos b (show (0 : Int) < 4294967296 by omega)
  have ea:=Int.emod_add_mul_ediv a 4294967296
  have eb:=Int.emod_add_mul_ediv b 4294967296
  rw [shr32 ha.1,shr32 hb.1,Option.bind_some,Option.bind_some,and32 (a:=a) (by omega),and32 (a:=b) (by omega)]
  generalize a % 4294967296 = a0 at *
  generalize b % 4294967296 = b0 at *
  have C0 : 0 ≤ a / 4294967296:=Int.ediv_nonneg ha.1 (by omega)
  have D0 : 0 ≤ b / 4294967296:=Int.ediv_nonneg hb.1 (by omega)
  generalize a / 4294967296 = a1 at *
  generalize b / 4294967296 = b1 at *
  have hm : a * b = a1 * b1 * 18446744073709551616 + (a1 * b0 + a0 * b1) * 4294967296 + a0 * b0:=by
    rw [← ea,← eb]
    simp only [Int.add_mul,Int.mul_add]
    have x1 : 4294967296 * a1 * (4294967296 * b1) = a1 * b1 * 18446744073709551616:=by
      rw [Int.mul_assoc,Int.mul_left_comm a1,← Int.mul_assoc]
      omega
    have x2 : a0 * (4294967296 * b1) = a0 * b1 * 4294967296:=by rw [Int.mul_left_comm];omega
    have x3 : 4294967296 * a1 * b0 = a1 * b0 * 4294967296:=by rw [Int.mul_assoc];omega
    rw [x1,x2,x3]
    omega
  have hA1 : a1 ≤ 2147483647:=by omega
  have hB1 : b1 ≤ 2147483647:=by omega
  have q00 : 0 ≤ a0 * b0 ∧ a0 * b0 ≤ 4294967295 * 4294967295:=⟨Int.mul_nonneg A0 B0,Int.mul_le_mul (by omega) (by omega) B0 (by omega)⟩
  have q10 : 0 ≤ a1 * b0 ∧ a1 * b0 ≤ 2147483647 * 4294967295:=⟨Int.mul_nonneg C0 B0,Int.mul_le_mul (by omega) (by omega) B0 (by omega)⟩
  have q01 : 0 ≤ a0 * b1 ∧ a0 * b1 ≤ 4294967295 * 2147483647:=⟨Int.mul_nonneg A0 D0,Int.mul_le_mul (by omega) (by omega) D0 (by omega)⟩
  have q11 : 0 ≤ a1 * b1 ∧ a1 * b1 ≤ 2147483647 * 2147483647:=⟨Int.mul_nonneg C0 D0,Int.mul_le_mul (by omega) (by omega) D0 (by omega)⟩
  have e0 : IntKind.u64.wrap (a * b) = a * b % 18446744073709551616:=by
    have:=Int.emod_nonneg (a * b) (show (18446744073709551616 : Int) ≠ 0 by omega)
    have h2:=Int.emod_lt_of_pos (a * b) (show (0 : Int) < 18446744073709551616 by omega)
    show (a * b) % 18446744073709551616 = _
    rfl
  rw [e0,hm]
  generalize a0 * b0 = z00 at *
  generalize a1 * b0 = z10 at *
  generalize a0 * b1 = z01 at *
  generalize a1 * b1 = z11 at *
  rw [wu64 (x:=z00) (by omega),shr32 (a:=z00) (by omega),Option.bind_some,wu64 (x:=z10) (by omega),wu64 (x:=z10 + z00 / 4294967296) (by omega),shr32 (by omega),Option.bind_some,and32 (a:=z10 + z00 / 4294967296) (by omega),wu64 (x:=z01) (by omega),wu64 (x:=(z10 + z00 / 4294967296) % 4294967296 + z01) (by omega),shr32 (by omega),Option.bind_some,wu64 (x:=z11) (by omega),wu64 (x:=z11 + (z10 + z00 / 4294967296) / 4294967296) (by omega),wu64 (by omega)]
  congr 1
  congr 1
  omega
theorem product_eq {a b : Int} (ha : 0 ≤ a ∧ a ≤ 9223372036854775807) (hb : 0 ≤ b ∧ b ≤ 9223372036854775807) : figure_product a b = some (a * b / 18446744073709551616,a * b % 18446744073709551616):=by
  unfold figure_product
  rw [wu64 (by omega),wu64 (by omega),mul64_eq ha hb]
  rfl
theorem atMost_eq (X Y : Int) : figure_wide_isAtMost (X / 18446744073709551616) (X % 18446744073709551616) (Y / 18446744073709551616) (Y % 18446744073709551616) = some (decide (X ≤ Y)):=by
  unfold figure_wide_isAtMost
  simp only [decide_eq_true_eq]
  split
  · rw [decide_eq_true];omega
  · split
    · congr 1
      rw [decide_eq_decide]
      omega
    · rw [decide_eq_false];omega
/-! ## drops -/
/-- the first one of those that pass -/
theorem least (p : Nat → Prop) [DecidablePred p] : ∀ n : Nat,p n → ∃ k,k ≤ n ∧ p k ∧ ∀ j,j < k → ¬ p j:=by
  intro n
  induction n using Nat.strongRecOn with
  | ind n ih =>
    intro hn
    by_cases h : ∃ j,j < n ∧ p j
    · obtain ⟨j,h1,h2⟩:=h
      obtain ⟨k,h3,h4⟩:=ih j h1 h2
      exact ⟨k,by omega,h4⟩
    · exact ⟨n,Nat.le_refl _,hn,fun j hj hp=>h ⟨j,hj,hp⟩⟩
noncomputable def drop (l : List Nat) (k : Nat) : Int:=loW (val l) 0 k (l.length - k)
end Go.Rex

namespace Go.Rex
open Go Go.Rex
set_option maxRecDepth 100000
/-! ## levels -/
theorem mul64u {a b : Int} (ha : 0 ≤ a ∧ a ≤ 18446744073709551615) (hb : 0 ≤ b ∧ b ≤ 18446744073709551615) : math_bits_Mul64 a b = some (a * b / 18446744073709551616,a * b % 18446744073709551616):=by
  unfold math_bits_Mul64
  have p1:=Int.mul_nonneg (Int.emod_nonneg a (show (4294967296 : Int) ≠ 0 by omega)) (Int.emod_nonneg b (show (4294967296 : Int) ≠ 0 by omega))
  have A0:=Int.emod_nonneg a (show (4294967296 : Int) ≠ 0 by omega)
  have A1:=Int.emod_lt_of_pos a (show (0 : Int) < 4294967296 by omega)
  have B0:=Int.emod_nonneg b (show (4294967296 : Int) ≠ 0 by omega)
  have B1:=Int.emod_lt_of_pos b (show (0 : Int) < 4294967296 by omega)
  have ea:=Int.emod_add_mul_ediv a 4294967296
  have eb:=Int.emod_add_mul_ediv b 4294967296
  rw [shr32 ha.1,shr32 hb.1,Option.bind_some,Option.bind_some,and32 (a:=a) (by omega),and32 (a:=b) (by omega)]
  generalize a % 4294967296 = a0 at *
  generalize b % 4294967296 = b0 at *
  have C0 : 0 ≤ a / 4294967296:=Int.ediv_nonneg ha.1 (by omega)
  have D0 : 0 ≤ b / 4294967296:=Int.ediv_nonneg hb.1 (by omega)
  generalize a / 4294967296 = a1 at *
  generalize b / 4294967296 = b1 at *
  have hm : a * b = a1 * b1 * 18446744073709551616 + (a1 * b0 + a0 * b1) * 4294967296 + a0 * b0:=by
    rw [← ea,← eb]
    simp only [Int.add_mul,Int.mul_add]
    have x1 : 4294967296 * a1 * (4294967296 * b1) = a1 * b1 * 18446744073709551616:=by
      rw [Int.mul_assoc,Int.mul_left_comm a1,← Int.mul_assoc]
      omega
    have x2 : a0 * (4294967296 * b1) = a0 * b1 * 4294967296:=by rw [Int.mul_left_comm];omega
    have x3 : 4294967296 * a1 * b0 = a1 * b0 * 4294967296:=by rw [Int.mul_assoc];omega
    rw [x1,x2,x3]
    omega
  have hA1 : a1 ≤ 4294967295:=by omega
  have hB1 : b1 ≤ 4294967295:=by omega
  have q00 : 0 ≤ a0 * b0 ∧ a0 * b0 ≤ 4294967295 * 4294967295:=⟨Int.mul_nonneg A0 B0,Int.mul_le_mul (by omega) (by omega) B0 (by omega)⟩
  have q10 : 0 ≤ a1 * b0 ∧ a1 * b0 ≤ 4294967295 * 4294967295:=⟨Int.mul_nonneg C0 B0,Int.mul_le_mul (by omega) (by omega) B0 (by omega)⟩
  have q01 : 0 ≤ a0 * b1 ∧ a0 * b1 ≤ 4294967295 * 4294967295:=⟨Int.mul_nonneg A0 D0,Int.mul_le_mul (by omega) (by omega) D0 (by omega)⟩
  have q11 : 0 ≤ a1 * b1 ∧ a1 * b1 ≤ 4294967295 * 4294967295:=⟨Int.mul_nonneg C0 D0,Int.mul_le_mul (by omega) (by omega) D0 (by omega)⟩
  have e0 : IntKind.u64.wrap (a * b) = a * b % 18446744073709551616:=by
    have:=Int.emod_nonneg (a * b) (show (18446744073709551616 : Int) ≠ 0 by omega)
    have h2:=Int.emod_lt_of_pos (a * b) (show (0 : Int) < 18446744073709551616 by omega)
    show (a * b) % 18446744073709551616 = _
    rfl
  rw [e0,hm]
  generalize a0 * b0 = z00 at *
  generalize a1 * b0 = z10 at *
  generalize a0 * b1 = z01 at *
  generalize a1 * b1 = z11 at *
  rw [wu64 (x:=z00) (by omega),shr32 (a:=z00) (by omega),Option.bind_some,wu64 (x:=z10) (by omega),wu64 (x:=z10 + z00 / 4294967296) (by omega),shr32 (by omega),Option.bind_some,and32 (a:=z10 + z00 / 4294967296) (by omega),wu64 (x:=z01) (by omega),wu64 (x:=(z10 + z00 / 4294967296) % 4294967296 + z01) (by omega),shr32 (by omega),Option.bind_some,wu64 (x:=z11) (by omega),wu64 (x:=z11 + (z10 + z00 / 4294967296) / 4294967296) (by omega),wu64 (by omega)]
  congr 1
  congr 1
  omega
theorem productu {x y a b : Int} (hx : IntKind.u64.wrap x = a) (hy : IntKind.u64.wrap y = b) (ha : 0 ≤ a ∧ a ≤ 18446744073709551615) (hb : 0 ≤ b ∧ b ≤ 18446744073709551615) : figure_product x y = some (a * b / 18446744073709551616,a * b % 18446744073709551616):=by
  unfold figure_product
  rw [hx,hy,mul64u ha hb]
  rfl

theorem pow10L : ∀ k : Nat,k ≤ 18 → (10 : Int) ^ k ≤ 1000000000000000000 ∧ 1 ≤ (10 : Int) ^ k:=by
  have h : ((List.range 19).all fun k=>decide ((10 : Int) ^ k ≤ 1000000000000000000 ∧ 1 ≤ (10 : Int) ^ k)) = true:=by decide +kernel
  intro k hk
  have:=List.all_eq_true.1 h k (List.mem_range.2 (by omega))
  exact of_decide_eq_true this
theorem tenToL {k : Nat} (hk : k ≤ 18) : figure_tenTo (k : Int) = some (10 ^ k):=by
  have key:=run_iter (step:=figure_tenTo_l1 (k : Int)) (st:=fun j (b : Int)=>(b,(j : Int))) (g:=fun j b=>b * 10) (fin:=fun b=>b) k
    (fun j b=>b = 10 ^ j) (b0:=1) rfl (fun j b hj hb=>by
      subst hb
      refine ⟨?_,by rw [Int.pow_succ]⟩
      have h1:=pow10L j (by omega)
      have h2:=pow10L (j + 1) (by omega)
      rw [Int.pow_succ] at h2
      unfold figure_tenTo_l1
      simp only
      rw [if_pos (by rw [decide_eq_true_eq];omega),w64 (by omega),wsucc (n:=18) (by omega) (by decide)]) (fun b hb=>by
      unfold figure_tenTo_l1
      simp only
      rw [if_neg (by simp)])
  have hI:=key.2 k (Nat.le_refl _)
  have hr:=key.1
  rw [hI] at hr
  unfold figure_tenTo
  simp only [Int.natCast_zero] at hr
  rw [hr]
  rfl
theorem tenL {k : Nat} (hk : k ≤ 18) : ref05_ten (k : Int) = some (10 ^ k):=by
  have key:=run_iter (step:=ref05_ten_l1 (k : Int)) (st:=fun j (b : Int)=>(b,(j : Int))) (g:=fun j b=>10 * b) (fin:=fun b=>b) k
    (fun j b=>b = 10 ^ j) (b0:=1) rfl (fun j b hj hb=>by
      subst hb
      refine ⟨?_,by rw [Int.pow_succ,Int.mul_comm]⟩
      have h1:=pow10L j (by omega)
      have h2:=pow10L (j + 1) (by omega)
      rw [Int.pow_succ] at h2
      unfold ref05_ten_l1
      simp only
      rw [if_pos (by rw [decide_eq_true_eq];omega),w64 (by omega),wsucc (n:=18) (by omega) (by decide)]) (fun b hb=>by
      unfold ref05_ten_l1
      simp only
      rw [if_neg (by simp)])
  have hI:=key.2 k (Nat.le_refl _)
  have hr:=key.1
  rw [hI] at hr
  unfold ref05_ten
  simp only [Int.natCast_zero] at hr
  rw [hr]
  rfl
def tnsL : List Int:=[1000000000,1258925411,1584893192,1995262314,2511886431,3162277660,3981071705,5011872336,6309573444,7943282347]
def tnL (k : Nat) : Int:=tnsL.getD k 0
def lkL (L : Int) : Nat:=(L % 10).toNat
def lwL (L : Int) : Nat:=(L / 10 + 9).toNat
def ukL (u : Int) (k : Nat) : Int:=if k = 0 then 0 else u
/-- the power of a level, in parts of 10 ^ 18 -/
def WL (u L : Int) : Int:=(tnL (lkL L) + ukL u (lkL L)) * 10 ^ lwL L
theorem tn_bd {k : Nat} (hk : k ≤ 9) : 1000000000 ≤ tnL k ∧ tnL k ≤ 7943282347:=by
  have h : ((List.range 10).all fun k=>decide (1000000000 ≤ tnL k ∧ tnL k ≤ 7943282347)) = true:=by decide +kernel
  exact of_decide_eq_true (List.all_eq_true.1 h k (List.mem_range.2 (by omega)))
theorem tns_get {k : Nat} (hk : k ≤ 9) : getI tnsL (k : Int) = some (tnL k):=by
  rw [getI_nat,List.getElem?_eq_getElem (by unfold tnsL;simp;omega)]
  unfold tnL
  rw [List.getD_eq_getElem?_getD,List.getElem?_eq_getElem (by unfold tnsL;simp;omega)]
  rfl
theorem allL {n : Nat} {p : Int → Bool} {a : Int} (h : ((List.range n).all fun j=>p ((j : Int) + a)) = true) {L : Int} (h1 : a ≤ L) (h2 : L < a + n) : p L = true:=by
  have:=List.all_eq_true.1 h (L - a).toNat (List.mem_range.2 (by omega))
  rwa [show (((L - a).toNat : Nat) : Int) + a = L by omega] at this
theorem W1_mono {L : Int} (h1 : -90 ≤ L) (h2 : L < 99) : WL 1 L ≤ WL 1 (L + 1) :=
  of_decide_eq_true (allL (n:=189) (a:=-90) (p:=fun L=>decide (WL 1 L ≤ WL 1 (L + 1))) (by decide +kernel) h1 (by omega))
theorem W0_mono {L : Int} (h1 : -90 ≤ L) (h2 : L < 99) : WL 0 L ≤ WL 0 (L + 1) :=
  of_decide_eq_true (allL (n:=189) (a:=-90) (p:=fun L=>decide (WL 0 L ≤ WL 0 (L + 1))) (by decide +kernel) h1 (by omega))
theorem W_lt {L : Int} (h1 : -90 ≤ L) (h2 : L < 99) : WL 0 L < WL 1 (L + 1) :=
  of_decide_eq_true (allL (n:=189) (a:=-90) (p:=fun L=>decide (WL 0 L < WL 1 (L + 1))) (by decide +kernel) h1 (by omega))
theorem W_le {L : Int} (h1 : -90 ≤ L) (h2 : L < 99) : WL 1 L ≤ WL 0 (L + 1) :=
  of_decide_eq_true (allL (n:=189) (a:=-90) (p:=fun L=>decide (WL 1 L ≤ WL 0 (L + 1))) (by decide +kernel) h1 (by omega))
theorem W_op1 {h : Int} (h1 : -90 ≤ h) (h2 : h < 90) : WL 1 (-h - 1) * WL 0 h ≤ 1000000000000000000000000000000000000 :=
  of_decide_eq_true (allL (n:=180) (a:=-90) (p:=fun h=>decide (WL 1 (-h - 1) * WL 0 h ≤ 1000000000000000000000000000000000000)) (by decide +kernel) h1 (by omega))
theorem W_op2 {h : Int} (h1 : -88 ≤ h) (h2 : h ≤ 90) : 1000000000000000000000000000000000000 ≤ WL 1 (-h + 2) * WL 0 (h - 1) :=
  of_decide_eq_true (allL (n:=179) (a:=-88) (p:=fun h=>decide (1000000000000000000000000000000000000 ≤ WL 1 (-h + 2) * WL 0 (h - 1))) (by decide +kernel) h1 (by omega))
theorem W_pos {L : Int} (h1 : -90 ≤ L) (h2 : L ≤ 99) : 0 < WL 0 L ∧ 0 < WL 1 L :=
  of_decide_eq_true (allL (n:=190) (a:=-90) (p:=fun L=>decide (0 < WL 0 L ∧ 0 < WL 1 L)) (by decide +kernel) h1 (by omega))
theorem mod_eq {L : Int} (h1 : -91 ≤ L) (h2 : L ≤ 99) : figure_modulo L 10 = some (L % 10) ∧ base_Mod L 10 = some (L % 10) ∧ IntKind.i64.wrap ((IntKind.i64.wrap (L - L % 10)).tdiv 10) = L / 10 :=
  of_decide_eq_true (allL (n:=191) (a:=-91) (p:=fun L=>decide (figure_modulo L 10 = some (L % 10) ∧ base_Mod L 10 = some (L % 10) ∧ IntKind.i64.wrap ((IntKind.i64.wrap (L - L % 10)).tdiv 10) = L / 10)) (by decide +kernel) h1 (by omega))

end Go.Rex

namespace Go.Rex
open Go Go.Rex
set_option maxRecDepth 100000
theorem pow10_add (a b : Nat) : (10 : Int) ^ (a + b) = 10 ^ a * 10 ^ b:=Int.pow_add ..
/-- the power of a level, as the program tells it -/
theorem powerOf_eq {L : Int} (h1 : -91 ≤ L) (h2 : L ≤ 99) : ∃ (m1 m2 : Nat), m1 ≤ 9 ∧ m2 ≤ 10 ∧ (m1 : Int) = max (L / 10) 0 ∧ (m2 : Int) = max (-(L / 10)) 0 ∧
    figure_powerOf L = some (tnL (lkL L) * 10 ^ m1,(tnL (lkL L) + ukL 1 (lkL L)) * 10 ^ m1,IntKind.i64.wrap (1000000000 * 10 ^ m2)):=by
  obtain ⟨e1,e2,e3⟩:=mod_eq h1 h2
  refine ⟨(max (L / 10) 0).toNat,(max (-(L / 10)) 0).toNat,by omega,by omega,by omega,by omega,?_⟩
  have hk : (L % 10) = ((lkL L : Nat) : Int):=by unfold lkL;omega
  have hk9 : lkL L ≤ 9:=by unfold lkL;omega
  have ht:=tn_bd hk9
  unfold figure_powerOf
  rw [e1]
  simp only [Option.bind_some]
  rw [e3]
  have ei : IntKind.i64.wrap (0 - L / 10) = -(L / 10):=by rw [w64 (by omega)];omega
  rw [ei]
  have hg : getI ([1000000000,1258925411,1584893192,1995262314,2511886431,3162277660,3981071705,5011872336,6309573444,7943282347] : List Int) (L % 10) = some (tnL (lkL L)):=by
    rw [hk];exact tns_get hk9
  rw [hg]
  simp only [Option.bind_some]
  have n1 : (if (0 : Int) > L / 10 then 0 else L / 10) = (((max (L / 10) 0).toNat : Nat) : Int):=by split<;>omega
  have n2 : (if (0 : Int) > -(L / 10) then 0 else -(L / 10)) = (((max (-(L / 10)) 0).toNat : Nat) : Int):=by split<;>omega
  rw [n1,n2]
  have p1:=pow10L (max (L / 10) 0).toNat (by omega)
  have q1 : (10 : Int) ^ (max (L / 10) 0).toNat ≤ 1000000000:=by
    have : ∀ k : Nat,k ≤ 9 → (10 : Int) ^ k ≤ 1000000000:=by
      have h : ((List.range 10).all fun k=>decide ((10 : Int) ^ k ≤ 1000000000)) = true:=by decide +kernel
      intro k hk
      exact of_decide_eq_true (List.all_eq_true.1 h k (List.mem_range.2 (by omega)))
    exact this _ (by omega)
  have sz : ∀ x : Int,0 ≤ x → x ≤ 7943282348 → IntKind.i64.wrap (x * 10 ^ (max (L / 10) 0).toNat) = x * 10 ^ (max (L / 10) 0).toNat:=by
    intro x hx0 hx
    have h1:=Int.mul_le_mul hx q1 (by omega) (by decide)
    have h2:=Int.mul_nonneg hx0 (show (0 : Int) ≤ 10 ^ (max (L / 10) 0).toNat by omega)
    rw [w64 (by omega)]
  unfold figure_between figure_ends_times figure_between
  simp only [Option.bind_some]
  rw [tenToL (by omega),tenToL (by omega)]
  simp only [Option.bind_some]
  by_cases hp : L % 10 > 0
  · have hu : ukL 1 (lkL L) = 1:=if_neg (by omega)
    rw [if_pos (decide_eq_true hp),w64 (x:=tnL (lkL L) + 1) (by omega),sz _ (by omega) (by omega),sz _ (by omega) (by omega),hu]
  · have hu : ukL 1 (lkL L) = 0:=if_pos (by omega)
    rw [if_neg (by simpa using hp),sz _ (by omega) (by omega),hu,Int.add_zero]
abbrev reach1 (a b L : Int) : Prop:=WL 1 L * b ≤ a * 1000000000000000000
abbrev keep0 (a b L : Int) : Prop:=a * 1000000000000000000 ≤ WL 0 L * b
theorem lw_eq {L : Int} {m1 m2 : Nat} (h1 : -90 ≤ L) (e1 : (m1 : Int) = max (L / 10) 0) (e2 : (m2 : Int) = max (-(L / 10)) 0) : m2 ≤ 9 ∧ (10 : Int) ^ lwL L = 10 ^ m1 * 10 ^ (9 - m2) ∧ (1000000000000000000 : Int) = 1000000000 * 10 ^ m2 * 10 ^ (9 - m2):=by
  have h9 : m2 ≤ 9:=by omega
  refine ⟨h9,?_,?_⟩
  · rw [← pow10_add]
    congr 1
    unfold lwL
    omega
  · rw [Int.mul_assoc,← pow10_add,show m2 + (9 - m2) = 9 by omega]
    decide
theorem scale_le {x y c : Int} (hc : 0 < c) : x ≤ y ↔ x * c ≤ y * c :=
  ⟨fun h=>Int.mul_le_mul_of_nonneg_right h (by omega),fun h=>Int.le_of_mul_le_mul_right h hc⟩
theorem reaches_eq {a b L : Int} (ha : 1 ≤ a ∧ a ≤ 10000000000000) (hb : 1 ≤ b ∧ b ≤ 10000000000000) (h1 : -90 ≤ L) (h2 : L ≤ 99) : figure_quotient_reaches a b L = some (decide (reach1 a b L)):=by
  obtain ⟨m1,m2,b1,b2,e1,e2,hp⟩:=powerOf_eq (L:=L) (by omega) h2
  obtain ⟨b3,e3,e4⟩:=lw_eq h1 e1 e2
  have hk9 : lkL L ≤ 9:=by unfold lkL;omega
  have ht:=tn_bd hk9
  have hu : 0 ≤ ukL 1 (lkL L) ∧ ukL 1 (lkL L) ≤ 1:=by unfold ukL;split<;>omega
  have P : ∀ k : Nat,k ≤ 9 → (10 : Int) ^ k ≤ 1000000000 ∧ 1 ≤ (10 : Int) ^ k:=by
    have h : ((List.range 10).all fun k=>decide ((10 : Int) ^ k ≤ 1000000000 ∧ 1 ≤ (10 : Int) ^ k)) = true:=by decide +kernel
    intro k hk
    exact of_decide_eq_true (List.all_eq_true.1 h k (List.mem_range.2 (by omega)))
  have p1:=P m1 b1
  have p2:=P m2 b3
  have p3:=P (9 - m2) (by omega)
  unfold figure_quotient_reaches
  rw [hp]
  simp only [Option.bind_some]
  have s1 : 0 ≤ (tnL (lkL L) + ukL 1 (lkL L)) * 10 ^ m1 ∧ (tnL (lkL L) + ukL 1 (lkL L)) * 10 ^ m1 ≤ 7943282348000000000:=by
    have:=Int.mul_le_mul (show tnL (lkL L) + ukL 1 (lkL L) ≤ 7943282348 by omega) p1.1 (by omega) (by decide)
    exact ⟨Int.mul_nonneg (by omega) (by omega),by omega⟩
  rw [w64 (x:=1000000000 * 10 ^ m2) (by omega),product_eq (by omega) (by omega),product_eq (by omega) (by omega)]
  simp only [Option.bind_some]
  rw [atMost_eq]
  simp only [Option.bind_some]
  congr 1
  rw [decide_eq_decide,scale_le (c:=10 ^ (9 - m2)) (by omega)]
  unfold reach1 WL
  rw [e3,e4]
  have g1 : (tnL (lkL L) + ukL 1 (lkL L)) * 10 ^ m1 * b * 10 ^ (9 - m2) = (tnL (lkL L) + ukL 1 (lkL L)) * (10 ^ m1 * 10 ^ (9 - m2)) * b:=by
    simp only [Int.mul_assoc,Int.mul_comm b]
  have g2 : a * (1000000000 * 10 ^ m2) * 10 ^ (9 - m2) = a * (1000000000 * 10 ^ m2 * 10 ^ (9 - m2)):=by simp only [Int.mul_assoc]
  rw [g1,g2]
theorem keeps_eq {a b L : Int} (ha : 1 ≤ a ∧ a ≤ 10000000000000) (hb : 1 ≤ b ∧ b ≤ 10000000000000) (h1 : -90 ≤ L) (h2 : L ≤ 99) : figure_quotient_keepsTo a b L = some (decide (keep0 a b L)):=by
  obtain ⟨m1,m2,b1,b2,e1,e2,hp⟩:=powerOf_eq (L:=L) (by omega) h2
  obtain ⟨b3,e3,e4⟩:=lw_eq h1 e1 e2
  have hk9 : lkL L ≤ 9:=by unfold lkL;omega
  have ht:=tn_bd hk9
  have hu : ukL 0 (lkL L) = 0:=by unfold ukL;split<;>rfl
  have P : ∀ k : Nat,k ≤ 9 → (10 : Int) ^ k ≤ 1000000000 ∧ 1 ≤ (10 : Int) ^ k:=by
    have h : ((List.range 10).all fun k=>decide ((10 : Int) ^ k ≤ 1000000000 ∧ 1 ≤ (10 : Int) ^ k)) = true:=by decide +kernel
    intro k hk
    exact of_decide_eq_true (List.all_eq_true.1 h k (List.mem_range.2 (by omega)))
  have p1:=P m1 b1
  have p2:=P m2 b3
  have p3:=P (9 - m2) (by omega)
  unfold figure_quotient_keepsTo
  rw [hp]
  simp only [Option.bind_some]
  have s1 : 0 ≤ tnL (lkL L) * 10 ^ m1 ∧ tnL (lkL L) * 10 ^ m1 ≤ 7943282348000000000:=by
    have:=Int.mul_le_mul (show tnL (lkL L) ≤ 7943282348 by omega) p1.1 (by omega) (by decide)
    exact ⟨Int.mul_nonneg (by omega) (by omega),by omega⟩
  rw [w64 (x:=1000000000 * 10 ^ m2) (by omega),product_eq (by omega) (by omega),product_eq (by omega) (by omega)]
  simp only [Option.bind_some]
  rw [atMost_eq]
  simp only [Option.bind_some]
  congr 1
  rw [decide_eq_decide,scale_le (c:=10 ^ (9 - m2)) (by omega)]
  unfold keep0 WL
  rw [e3,e4,hu,Int.add_zero]
  have g1 : tnL (lkL L) * 10 ^ m1 * b * 10 ^ (9 - m2) = tnL (lkL L) * (10 ^ m1 * 10 ^ (9 - m2)) * b:=by
    simp only [Int.mul_assoc,Int.mul_comm b]
  have g2 : a * (1000000000 * 10 ^ m2) * 10 ^ (9 - m2) = a * (1000000000 * 10 ^ m2 * 10 ^ (9 - m2)):=by simp only [Int.mul_assoc]
  rw [g1,g2]
/-- below the lowest level nothing is kept to -/
theorem keeps_below {a b : Int} (ha : 1 ≤ a ∧ a ≤ 10000000000000) (hb : 1 ≤ b ∧ b ≤ 10000000000000) (h : reach1 a b (-90)) : figure_quotient_keepsTo a b (-91) = some false:=by
  have hW : WL 1 (-90) = 1000000000:=by decide
  unfold reach1 at h
  rw [hW] at h
  have hp : figure_powerOf (-91) = some (7943282347,7943282348,IntKind.i64.wrap 10000000000000000000):=by
    obtain ⟨m1,m2,b1,b2,e1,e2,hp⟩:=powerOf_eq (L:=-91) (by omega) (by omega)
    have z1 : m1 = 0:=by omega
    have z2 : m2 = 10:=by omega
    subst z1 z2
    rw [hp]
    rfl
  unfold figure_quotient_keepsTo
  rw [hp]
  simp only [Option.bind_some]
  rw [productu (x:=a) (a:=a) (b:=10000000000000000000) (wu64 (by omega)) (by decide) (by omega) (by omega),productu (x:=7943282347) (y:=b) (a:=7943282347) (b:=b) (by decide) (wu64 (by omega)) (by omega) (by omega)]
  simp only [Option.bind_some]
  rw [atMost_eq]
  simp only [Option.bind_some]
  congr 1
  rw [decide_eq_false]
  omega
theorem sgn_cases (z : Int) : (sgn z < 0 ↔ z < 0) ∧ (sgn z > 0 ↔ z > 0):=by
  unfold sgn
  split
  · constructor<;>constructor<;>intro<;>omega
  · split
    · constructor<;>constructor<;>intro<;>omega
    · constructor<;>constructor<;>intro<;>omega
theorem against_eq {a b u L : Int} (ha : 1 ≤ a ∧ a ≤ 10000000000000) (hb : 1 ≤ b ∧ b ≤ 10000000000000) (hu : 0 ≤ u ∧ u ≤ 1) (h1 : -90 ≤ L) (h2 : L ≤ 90) : ∃ s,ref05_against a b L u = some s ∧ (s < 0 ↔ a * 1000000000000000000 < WL u L * b) ∧ (s > 0 ↔ WL u L * b < a * 1000000000000000000):=by
  obtain ⟨e1,e2,e3⟩:=mod_eq (L:=L) (by omega) (by omega)
  have hk : (L % 10) = ((lkL L : Nat) : Int):=by unfold lkL;omega
  have hk9 : lkL L ≤ 9:=by unfold lkL;omega
  have ht:=tn_bd hk9
  have huk : 0 ≤ ukL u (lkL L) ∧ ukL u (lkL L) ≤ 1:=by unfold ukL;split<;>omega
  unfold ref05_against ref05_tenths
  rw [e2]
  simp only [Option.bind_some]
  rw [floor_eq _ _ (by omega) (by omega)]
  have hg : getI ([1000000000,1258925411,1584893192,1995262314,2511886431,3162277660,3981071705,5011872336,6309573444,7943282347] : List Int) (L % 10) = some (tnL (lkL L)):=by
    rw [hk];exact tns_get hk9
  rw [hg]
  simp only [Option.bind_some]
  have P : ∀ k : Nat,k ≤ 9 → (10 : Int) ^ k ≤ 1000000000 ∧ 1 ≤ (10 : Int) ^ k:=by
    have h : ((List.range 10).all fun k=>decide ((10 : Int) ^ k ≤ 1000000000 ∧ 1 ≤ (10 : Int) ^ k)) = true:=by decide +kernel
    intro k hk
    exact of_decide_eq_true (List.all_eq_true.1 h k (List.mem_range.2 (by omega)))
  have hx : IntKind.i64.wrap (tnL (lkL L) + u) = tnL (lkL L) + u:=by rw [w64 (by omega)]
  by_cases hw : L / 10 ≥ 0
  · obtain ⟨m,hm⟩ : ∃ m : Nat,L / 10 = (m : Int):=⟨(L / 10).toNat,by omega⟩
    have hm9 : m ≤ 9:=by omega
    have hlw : lwL L = m + 9:=by unfold lwL;omega
    have key : ∀ x : Int,1000000000 ≤ x → x ≤ 7943282348 → WL u L = x * 10 ^ lwL L → ∃ s,base_Compare a b (IntKind.i64.wrap (x * 10 ^ m)) 1000000000 = some s ∧ (s < 0 ↔ a * 1000000000000000000 < WL u L * b) ∧ (s > 0 ↔ WL u L * b < a * 1000000000000000000):=by
      intro x x1 x2 hW
      have p:=P m hm9
      have hm9' : m ≤ 9:=hm9
      have q : 0 ≤ x * 10 ^ m ∧ x * 10 ^ m ≤ 7943282348000000000:=by
        have:=Int.mul_le_mul x2 p.1 (by omega) (by decide)
        exact ⟨Int.mul_nonneg (by omega) (by omega),by omega⟩
      have q' : x * 10 ^ m ≤ 4611686018427387904:=by
        have hLk : L = 90 ∨ m ≤ 8:=by omega
        rcases hLk with h|h
        · subst h
          have hx' : x = 1000000000:=by
            have : WL u 90 = 1000000000 * 10 ^ lwL 90:=by
              unfold WL
              rw [show ukL u (lkL 90) = 0 from rfl,Int.add_zero]
              rfl
            rw [this] at hW
            have h10 : (10 : Int) ^ lwL 90 = 1000000000000000000:=by decide
            rw [h10] at hW
            omega
          have:=Int.mul_le_mul (Int.le_of_eq hx') p.1 (by omega) (by decide)
          omega
        · have p8 : (10 : Int) ^ m ≤ 100000000 := by
            have h : ((List.range 9).all fun k=>decide ((10 : Int) ^ k ≤ 100000000)) = true:=by decide +kernel
            exact of_decide_eq_true (List.all_eq_true.1 h m (List.mem_range.2 (by omega)))
          have:=Int.mul_le_mul x2 p8 (by omega) (by decide)
          omega
      rw [w64 (x:=x * 10 ^ m) (by omega),bcmp_eq (by omega) (by omega) (by omega) (by omega)]
      refine ⟨_,rfl,?_⟩
      obtain ⟨g1,g2⟩:=sgn_cases (a * 1000000000 - x * 10 ^ m * b)
      rw [g1,g2,hW,hlw,pow10_add]
      have e9 : (10 : Int) ^ 9 = 1000000000:=by decide
      rw [e9,show x * (10 ^ m * 1000000000) * b = x * 10 ^ m * b * 1000000000 by simp only [Int.mul_assoc,Int.mul_comm b]]
      omega
    rw [hm,tenL (k:=m) (by omega)]
    simp only [Option.bind_some]
    by_cases hp : L % 10 > 0
    · have hu' : ukL u (lkL L) = u:=if_neg (by omega)
      rw [if_pos (decide_eq_true hp),if_pos (by rw [decide_eq_true_eq];omega),hx]
      obtain ⟨s,s1,s2⟩:=key (tnL (lkL L) + u) (by omega) (by omega) (by unfold WL;rw [hu'])
      rw [s1]
      exact ⟨s,rfl,s2⟩
    · have hu' : ukL u (lkL L) = 0:=if_pos (by omega)
      rw [if_neg (by simpa using hp),if_pos (by rw [decide_eq_true_eq];omega)]
      obtain ⟨s,s1,s2⟩:=key (tnL (lkL L)) (by omega) (by omega) (by unfold WL;rw [hu',Int.add_zero])
      rw [s1]
      exact ⟨s,rfl,s2⟩
  · obtain ⟨m,hm⟩ : ∃ m : Nat,9 - L / 10 = (m : Int):=⟨(9 - L / 10).toNat,by omega⟩
    have hm9 : m ≤ 18 ∧ 10 ≤ m:=by omega
    have hlw : lwL L = 18 - m:=by unfold lwL;omega
    have key : ∀ x : Int,1000000000 ≤ x → x ≤ 7943282348 → WL u L = x * 10 ^ lwL L → ∃ s,base_Compare a b x (10 ^ m) = some s ∧ (s < 0 ↔ a * 1000000000000000000 < WL u L * b) ∧ (s > 0 ↔ WL u L * b < a * 1000000000000000000):=by
      intro x x1 x2 hW
      have p:=pow10L m (by omega)
      rw [bcmp_eq (by omega) (by omega) (by omega) (by omega)]
      refine ⟨_,rfl,?_⟩
      obtain ⟨g1,g2⟩:=sgn_cases (a * 10 ^ m - x * b)
      rw [g1,g2,hW,hlw]
      have e18 : (1000000000000000000 : Int) = 10 ^ m * 10 ^ (18 - m):=by
        rw [← pow10_add,show m + (18 - m) = 18 by omega];decide
      have pc:=(pow10L (18 - m) (by omega)).2
      generalize (10 : Int) ^ (18 - m) = c at *
      rw [e18,← Int.mul_assoc,show x * c * b = x * b * c by simp only [Int.mul_assoc,Int.mul_comm b]]
      generalize a * 10 ^ m = A at *
      generalize x * b = B at *
      constructor
      · constructor
        · intro h
          exact Int.mul_lt_mul_of_pos_right (by omega) (by omega)
        · intro h
          have:=Int.lt_of_mul_lt_mul_right h (by omega)
          omega
      · constructor
        · intro h
          exact Int.mul_lt_mul_of_pos_right (by omega) (by omega)
        · intro h
          have:=Int.lt_of_mul_lt_mul_right h (by omega)
          omega
    rw [w64 (x:=9 - L / 10) (by omega),hm,tenL (k:=m) (by omega)]
    simp only [Option.bind_some]
    by_cases hp : L % 10 > 0
    · have hu' : ukL u (lkL L) = u:=if_neg (by omega)
      rw [if_pos (decide_eq_true hp),if_neg (by rw [decide_eq_true_eq];omega),hx]
      obtain ⟨s,s1,s2⟩:=key (tnL (lkL L) + u) (by omega) (by omega) (by unfold WL;rw [hu'])
      rw [s1]
      exact ⟨s,rfl,s2⟩
    · have hu' : ukL u (lkL L) = 0:=if_pos (by omega)
      rw [if_neg (by simpa using hp),if_neg (by rw [decide_eq_true_eq];omega)]
      obtain ⟨s,s1,s2⟩:=key (tnL (lkL L)) (by omega) (by omega) (by unfold WL;rw [hu',Int.add_zero])
      rw [s1]
      exact ⟨s,rfl,s2⟩

end Go.Rex

namespace Go.Rex
open Go Go.Rex
set_option maxRecDepth 100000
theorem WL_mono1 {A : Int} (hA : -90 ≤ A) : ∀ c : Nat,A + c ≤ 99 → WL 1 A ≤ WL 1 (A + c)
  | 0,_=>by simp
  | c + 1,h=>by
    have h1:=WL_mono1 hA c (by omega)
    have h2:=W1_mono (L:=A + c) (by omega) (by omega)
    rw [show A + ((c + 1 : Nat) : Int) = A + c + 1 by omega]
    omega
theorem WL_mono0 {A : Int} (hA : -90 ≤ A) : ∀ c : Nat,A + c ≤ 99 → WL 0 A ≤ WL 0 (A + c)
  | 0,_=>by simp
  | c + 1,h=>by
    have h1:=WL_mono0 hA c (by omega)
    have h2:=W0_mono (L:=A + c) (by omega) (by omega)
    rw [show A + ((c + 1 : Nat) : Int) = A + c + 1 by omega]
    omega
theorem mono1 {A B : Int} (hA : -90 ≤ A) (hAB : A ≤ B) (hB : B ≤ 99) : WL 1 A ≤ WL 1 B:=by
  have:=WL_mono1 hA (B - A).toNat (by omega)
  rwa [show A + ((B - A).toNat : Int) = B by omega] at this
theorem mono0 {A B : Int} (hA : -90 ≤ A) (hAB : A ≤ B) (hB : B ≤ 99) : WL 0 A ≤ WL 0 B:=by
  have:=WL_mono0 hA (B - A).toNat (by omega)
  rwa [show A + ((B - A).toNat : Int) = B by omega] at this
/-- the enclosure of a level -/
structure LvlOf (a b m h : Int) : Prop where
  bm : -90 ≤ m ∧ m ≤ 90
  bh : -90 ≤ h ∧ h ≤ 90
  r1 : reach1 a b m
  r2 : ¬ reach1 a b (m + 1)
  k1 : keep0 a b h
  k2 : h = -90 ∨ ¬ keep0 a b (h - 1)
theorem run_lin {ε : Type} {step : Int → Option (Int ⊕ ε)} (st : Nat → Int) {k0 : Nat} {e : ε} (h : ∀ k : Nat,k < k0 → step (st k) = some (.inl (st (k + 1)))) (he : step (st k0) = some (.inr e)) : run step (st 0) = some e:=by
  have key:=run_iter (step:=step) (st:=fun k (b : Unit)=>st k) (g:=fun k b=>b) (fin:=fun b=>e) k0 (fun k b=>True) (b0:=()) trivial (fun k b hk hb=>⟨h k hk,trivial⟩) (fun b hb=>he)
  exact key.1
theorem reach_down {a b A B : Int} (hb : 1 ≤ b) (hA : -90 ≤ A) (hAB : A ≤ B) (hB : B ≤ 99) (h : reach1 a b B) : reach1 a b A:=by
  have:=Int.mul_le_mul_of_nonneg_right (mono1 hA hAB hB) (show 0 ≤ b by omega)
  unfold reach1 at *
  omega
theorem keep_up {a b A B : Int} (hb : 1 ≤ b) (hA : -90 ≤ A) (hAB : A ≤ B) (hB : B ≤ 99) (h : keep0 a b A) : keep0 a b B:=by
  have:=Int.mul_le_mul_of_nonneg_right (mono0 hA hAB hB) (show 0 ≤ b by omega)
  unfold keep0 at *
  omega
theorem WL_ends : WL 1 (-90) = 1000000000 ∧ WL 0 90 = 1000000000000000000000000000 ∧ WL 1 91 = 1258925412000000000000000000:=by decide +kernel
/-- both levels are one -/
theorem levels_in {a b : Int} (ha : 1 ≤ a ∧ a ≤ 10000000000000) (hb : 1 ≤ b ∧ b ≤ 10000000000000) :
    (¬ (b ≤ a * 1000000000 ∧ a ≤ 1000000000 * b) → figure_LevelOf a b = some (0,0,8) ∧ ref05_LevelOf a b = some (0,0,8)) ∧
    ((b ≤ a * 1000000000 ∧ a ≤ 1000000000 * b) → ∃ m h,LvlOf a b m h ∧ figure_LevelOf a b = some (m,h,0) ∧ ref05_LevelOf a b = some (m,h,0)):=by
  obtain ⟨w1,w2,w3⟩:=WL_ends
  have q1 : reach1 a b (-90) ↔ b ≤ a * 1000000000:=by
    unfold reach1;rw [w1];omega
  have q2 : keep0 a b 90 ↔ a ≤ 1000000000 * b:=by
    unfold keep0;rw [w2];omega
  have c1 : base_Compare a b 1000000000 1 = some (sgn (a * 1 - 1000000000 * b)):=bcmp_eq (by omega) (by omega) (by omega) (by omega)
  have c2 : base_Compare a b 1 1000000000 = some (sgn (a * 1000000000 - 1 * b)):=bcmp_eq (by omega) (by omega) (by omega) (by omega)
  have s1:=(sgn_cases (a * 1 - 1000000000 * b)).2
  have s2:=(sgn_cases (a * 1000000000 - 1 * b)).1
  unfold figure_LevelOf ref05_LevelOf
  rw [within_eq,within_eq,base_within,base_within,if_pos (by omega),if_pos (by omega),decide_eq_true (show 1 ≤ a ∧ a ≤ 10000000000000 from ha),decide_eq_true (show 1 ≤ b ∧ b ≤ 10000000000000 from hb)]
  simp only [Option.bind_some,if_true]
  rw [firstError_eq (by simp),show fe [0,0] = 0 from rfl]
  simp only [Option.bind_some,ne_eq,not_true_eq_false,decide_false,Bool.false_eq_true,if_false]
  rw [reaches_eq ha hb (by omega) (by omega),c1,c2]
  simp only [Option.bind_some]
  rw [keeps_eq ha hb (by omega) (by omega)]
  simp only [Option.bind_some,decide_eq_true_eq]
  constructor
  · intro hno
    constructor
    · by_cases x1 : reach1 a b (-90)
      · rw [if_pos x1,if_neg (fun x2=>hno ⟨q1.1 x1,q2.1 x2⟩)]
      · rw [if_neg x1]
    · by_cases x1 : a ≤ 1000000000 * b
      · rw [if_neg (by rw [s1];omega),if_pos (by rw [s2];omega)]
      · rw [if_pos (by rw [s1];omega)]
  · rintro ⟨y1,y2⟩
    have x1:=q1.2 y1
    have x2:=q2.2 y2
    rw [if_pos x1,if_pos x2,if_neg (by rw [s1];omega),if_neg (by rw [s2];omega)]
    -- the low end
    have n91 : ¬ reach1 a b 91:=by unfold reach1;rw [w3];omega
    obtain ⟨M,M1,M2,M3⟩:=least (fun j=>¬ reach1 a b (-90 + (j : Int) + 1)) 180 (by simpa using n91)
    have M3' : ∀ j : Nat,j < M → reach1 a b (-90 + (j : Int) + 1):=fun j hj=>Classical.not_not.1 (M3 j hj)
    have rM : reach1 a b (-90 + (M : Int)):=by
      by_cases h : M = 0
      · subst h;exact x1
      · have:=M3' (M - 1) (by omega)
        rwa [show -90 + ((M - 1 : Nat) : Int) + 1 = -90 + (M : Int) by omega] at this
    -- the high end
    have hH : ∃ H : Nat,H ≤ 180 ∧ keep0 a b (90 - (H : Int)) ∧ (H = 180 ∨ ¬ keep0 a b (90 - (H : Int) - 1)) ∧ ∀ j,j < H → keep0 a b (90 - (j : Int) - 1):=by
      obtain ⟨H,H1,H2,H3⟩:=least (fun j=>j = 180 ∨ ¬ keep0 a b (90 - (j : Int) - 1)) 180 (.inl rfl)
      have H3' : ∀ j : Nat,j < H → keep0 a b (90 - (j : Int) - 1):=fun j hj=>Classical.not_not.1 (fun h=>H3 j hj (.inr h))
      refine ⟨H,H1,?_,H2,H3'⟩
      by_cases h : H = 0
      · subst h;exact x2
      · have:=H3' (H - 1) (by omega)
        rwa [show 90 - ((H - 1 : Nat) : Int) - 1 = 90 - (H : Int) by omega] at this
    obtain ⟨H,H1,kH,H2,H3⟩:=hH
    have p1 : run (figure_LevelOf_l1 a b) (-90) = some (-90 + (M : Int)):=by
      have:=run_lin (step:=figure_LevelOf_l1 a b) (fun j=>-90 + (j : Int)) (k0:=M) (e:=-90 + (M : Int)) (fun k hk=>by
        unfold figure_LevelOf_l1
        rw [w64 (x:=-90 + (k : Int) + 1) (by omega),reaches_eq ha hb (by omega) (by omega)]
        simp only [Option.bind_some,decide_eq_true_eq]
        rw [if_pos (M3' k hk),show -90 + ((k + 1 : Nat) : Int) = -90 + (k : Int) + 1 by omega]) (by
        unfold figure_LevelOf_l1
        rw [w64 (x:=-90 + (M : Int) + 1) (by omega),reaches_eq ha hb (by omega) (by omega)]
        simp only [Option.bind_some,decide_eq_true_eq]
        rw [if_neg M2])
      exact this
    have p2 : run (figure_LevelOf_l2 a b) 90 = some (90 - (H : Int)):=by
      have:=run_lin (step:=figure_LevelOf_l2 a b) (fun j=>90 - (j : Int)) (k0:=H) (e:=90 - (H : Int)) (fun k hk=>by
        unfold figure_LevelOf_l2
        rw [w64 (x:=90 - (k : Int) - 1) (by omega),keeps_eq ha hb (by omega) (by omega)]
        simp only [Option.bind_some,decide_eq_true_eq]
        rw [if_pos (H3 k hk),show 90 - ((k + 1 : Nat) : Int) = 90 - (k : Int) - 1 by omega]) (by
        unfold figure_LevelOf_l2
        rw [w64 (x:=90 - (H : Int) - 1) (by omega)]
        rcases Nat.lt_or_ge H 180 with g|g
        · rw [keeps_eq ha hb (by omega) (by omega)]
          simp only [Option.bind_some,decide_eq_true_eq]
          rw [if_neg]
          rcases H2 with h|h
          · omega
          · exact h
        · have : H = 180:=by omega
          subst this
          have hk : figure_quotient_keepsTo a b (90 - ((180 : Nat) : Int) - 1) = some false:=keeps_below ha hb x1
          rw [hk]
          rfl)
      exact this
    have g1 : run (ref05_LevelOf_l1 a b) 90 = some (-90 + (M : Int)):=by
      have:=run_lin (step:=ref05_LevelOf_l1 a b) (fun j=>90 - (j : Int)) (k0:=180 - M) (e:=-90 + (M : Int)) (fun k hk=>by
        unfold ref05_LevelOf_l1
        obtain ⟨s,e1,e2,e3⟩:=against_eq (a:=a) (b:=b) (u:=1) (L:=90 - (k : Int)) ha hb (by omega) (by omega) (by omega)
        rw [e1]
        simp only [Option.bind_some,decide_eq_true_eq]
        rw [if_pos,w64 (x:=90 - (k : Int) - 1) (by omega),show 90 - ((k + 1 : Nat) : Int) = 90 - (k : Int) - 1 by omega]
        rw [e2]
        have:=mt (reach_down (a:=a) hb.1 (A:=-90 + (M : Int) + 1) (B:=90 - (k : Int)) (by omega) (by omega) (by omega)) M2
        unfold reach1 at this
        omega) (by
        unfold ref05_LevelOf_l1
        rw [show 90 - ((180 - M : Nat) : Int) = -90 + (M : Int) by omega]
        obtain ⟨s,e1,e2,e3⟩:=against_eq (a:=a) (b:=b) (u:=1) (L:=-90 + (M : Int)) ha hb (by omega) (by omega) (by omega)
        rw [e1]
        simp only [Option.bind_some,decide_eq_true_eq]
        rw [if_neg]
        rw [e2]
        unfold reach1 at rM
        omega)
      exact this
    have g2 : run (ref05_LevelOf_l2 a b) (-90) = some (90 - (H : Int)):=by
      have:=run_lin (step:=ref05_LevelOf_l2 a b) (fun j=>-90 + (j : Int)) (k0:=180 - H) (e:=90 - (H : Int)) (fun k hk=>by
        unfold ref05_LevelOf_l2
        obtain ⟨s,e1,e2,e3⟩:=against_eq (a:=a) (b:=b) (u:=0) (L:=-90 + (k : Int)) ha hb (by omega) (by omega) (by omega)
        rw [e1]
        simp only [Option.bind_some,decide_eq_true_eq]
        rw [if_pos,w64 (x:=-90 + (k : Int) + 1) (by omega),show -90 + ((k + 1 : Nat) : Int) = -90 + (k : Int) + 1 by omega]
        rw [e3]
        have hn : ¬ keep0 a b (90 - (H : Int) - 1):=by
          rcases H2 with h|h
          · omega
          · exact h
        have:=mt (keep_up (a:=a) hb.1 (A:=-90 + (k : Int)) (B:=90 - (H : Int) - 1) (by omega) (by omega) (by omega)) hn
        unfold keep0 at this
        omega) (by
        unfold ref05_LevelOf_l2
        rw [show -90 + ((180 - H : Nat) : Int) = 90 - (H : Int) by omega]
        obtain ⟨s,e1,e2,e3⟩:=against_eq (a:=a) (b:=b) (u:=0) (L:=90 - (H : Int)) ha hb (by omega) (by omega) (by omega)
        rw [e1]
        simp only [Option.bind_some,decide_eq_true_eq]
        rw [if_neg]
        rw [e3]
        unfold keep0 at kH
        omega)
      exact this
    refine ⟨-90 + (M : Int),90 - (H : Int),⟨by omega,by omega,rM,M2,kH,?_⟩,?_,?_⟩
    · rcases H2 with h|h
      · exact .inl (by omega)
      · exact .inr h
    · rw [p1,p2];rfl
    · rw [g1,g2];rfl
theorem levels_out {a b : Int} (h : ¬ ((1 ≤ a ∧ a ≤ 10000000000000) ∧ (1 ≤ b ∧ b ≤ 10000000000000))) : figure_LevelOf a b = some (0,0,2) ∧ ref05_LevelOf a b = some (0,0,2):=by
  unfold figure_LevelOf ref05_LevelOf
  rw [within_eq,within_eq,base_within,base_within]
  simp only [Option.bind_some]
  rw [firstError_eq (by simp)]
  simp only [Option.bind_some,fe2]
  by_cases ha : 1 ≤ a ∧ a ≤ 10000000000000
  · have hb : ¬ (1 ≤ b ∧ b ≤ 10000000000000):=fun hb=>h ⟨ha,hb⟩
    rw [if_pos ha,if_neg hb,decide_eq_true ha,decide_eq_false hb]
    exact ⟨rfl,rfl⟩
  · rw [if_neg ha,decide_eq_false ha]
    exact ⟨rfl,rfl⟩
/-- the level of 1 -/
theorem level_one {a m h : Int} (ha : 1 ≤ a) (H : LvlOf a a m h) : m = 0 ∧ h = 0:=by
  have w : WL 1 0 = 1000000000000000000 ∧ WL 0 0 = 1000000000000000000 ∧ WL 1 1 = 1258925412000000000 ∧ WL 0 (-1) = 794328234700000000:=by decide +kernel
  obtain ⟨w0,w1,w2,w3⟩:=w
  have bm:=H.bm
  have bh:=H.bh
  constructor
  · rcases Int.lt_trichotomy m 0 with g|g|g
    · have:=reach_down (a:=a) (b:=a) ha (A:=m + 1) (B:=0) (by omega) (by omega) (by omega) (by unfold reach1;rw [w0];omega)
      exact absurd this H.r2
    · exact g
    · have:=reach_down (a:=a) (b:=a) ha (A:=1) (B:=m) (by omega) (by omega) (by omega) H.r1
      unfold reach1 at this
      rw [w2] at this
      omega
  · rcases Int.lt_trichotomy h 0 with g|g|g
    · have:=keep_up (a:=a) (b:=a) ha (A:=h) (B:=-1) (by omega) (by omega) (by omega) H.k1
      unfold keep0 at this
      rw [w3] at this
      omega
    · exact g
    · have:=keep_up (a:=a) (b:=a) ha (A:=0) (B:=h - 1) (by omega) (by omega) (by omega) (by unfold keep0;rw [w1];omega)
      rcases H.k2 with k|k
      · omega
      · exact absurd this k
theorem level_ends {a b m h : Int} (ha : 1 ≤ a) (hb : 1 ≤ b) (H : LvlOf a b m h) : m ≤ h ∧ h ≤ m + 2:=by
  have bm:=H.bm
  have bh:=H.bh
  have r1:=H.r1
  have r2:=H.r2
  have k1:=H.k1
  have b0 : (0 : Int) ≤ b:=by omega
  unfold reach1 at r1 r2
  unfold keep0 at k1
  constructor
  · rcases Int.lt_or_le h m with g|g
    · have h1:=W_lt (L:=h) (by omega) (by omega)
      have h2:=mono1 (A:=h + 1) (B:=m) (by omega) (by omega) (by omega)
      have h3 : WL 0 h * b < WL 1 m * b:=Int.mul_lt_mul_of_pos_right (by omega) (by omega)
      omega
    · exact g
  · rcases Int.lt_or_le (m + 2) h with g|g
    · rcases H.k2 with k|k
      · omega
      · unfold keep0 at k
        have h1:=W_le (L:=m + 1) (by omega) (by omega)
        have h2:=mono0 (A:=m + 1 + 1) (B:=h - 1) (by omega) (by omega) (by omega)
        have h3:=Int.mul_le_mul_of_nonneg_right (show WL 1 (m + 1) ≤ WL 0 (h - 1) by omega) b0
        omega
    · exact g
theorem level_back {a b m h m' h' : Int} (ha : 1 ≤ a) (hb : 1 ≤ b) (H : LvlOf a b m h) (H' : LvlOf b a m' h') : -h - 1 ≤ m' ∧ m' ≤ -h + 1:=by
  have bh:=H.bh
  have bm':=H'.bm
  have k1:=H.k1
  have r1':=H'.r1
  have r2':=H'.r2
  have a0 : (0 : Int) ≤ a:=by omega
  unfold keep0 at k1
  unfold reach1 at r1' r2'
  have hab : (0 : Int) < a * b:=Int.mul_pos (by omega) (by omega)
  constructor
  · rcases Int.lt_or_le m' (-h - 1) with g|g
    · exfalso
      have w:=W_op1 (h:=h) (by omega) (by omega)
      have p:=W_pos (L:=m' + 1) (by omega) (by omega)
      have q:=W_pos (L:=h) (by omega) (by omega)
      have h2:=mono1 (A:=m' + 1) (B:=-h - 1) (by omega) (by omega) (by omega)
      -- b E < W1 (m' + 1) a, a E <= W0 h b
      have e1 : b * 1000000000000000000 * (a * 1000000000000000000) < WL 1 (m' + 1) * a * (a * 1000000000000000000):=Int.mul_lt_mul_of_pos_right (by omega) (by omega)
      have e2 : WL 1 (m' + 1) * a * (a * 1000000000000000000) ≤ WL 1 (m' + 1) * a * (WL 0 h * b):=Int.mul_le_mul_of_nonneg_left k1 (Int.mul_nonneg (by omega) a0)
      have e3 : WL 1 (m' + 1) * WL 0 h * (a * b) ≤ WL 1 (-h - 1) * WL 0 h * (a * b):=Int.mul_le_mul_of_nonneg_right (Int.mul_le_mul_of_nonneg_right h2 (by omega)) (by omega)
      have e4:=Int.mul_le_mul_of_nonneg_right w (show 0 ≤ a * b by omega)
      have e5 : WL 1 (m' + 1) * a * (WL 0 h * b) = WL 1 (m' + 1) * WL 0 h * (a * b):=by simp only [Int.mul_assoc,Int.mul_left_comm a]
      have e6 : b * 1000000000000000000 * (a * 1000000000000000000) = 1000000000000000000000000000000000000 * (a * b):=by grind
      omega
    · exact g
  · rcases Int.lt_or_le (-h + 1) m' with g|g
    · exfalso
      rcases H.k2 with k|k
      · omega
      · unfold keep0 at k
        have w:=W_op2 (h:=h) (by omega) (by omega)
        have p:=W_pos (L:=-h + 2) (by omega) (by omega)
        have q:=W_pos (L:=h - 1) (by omega) (by omega)
        have h2:=mono1 (A:=-h + 2) (B:=m') (by omega) (by omega) (by omega)
        -- W1 m' a <= b E, W0 (h - 1) b < a E
        have f0 : WL 1 (-h + 2) * a ≤ b * 1000000000000000000:=by
          have:=Int.mul_le_mul_of_nonneg_right h2 a0
          omega
        have f1 : WL 1 (-h + 2) * a * (WL 0 (h - 1) * b) ≤ b * 1000000000000000000 * (WL 0 (h - 1) * b):=Int.mul_le_mul_of_nonneg_right f0 (Int.mul_nonneg (by omega) (by omega))
        have f2 : b * 1000000000000000000 * (WL 0 (h - 1) * b) < b * 1000000000000000000 * (a * 1000000000000000000):=Int.mul_lt_mul_of_pos_left (by omega) (by omega)
        have f3:=Int.mul_le_mul_of_nonneg_right w (show 0 ≤ a * b by omega)
        have e5 : WL 1 (-h + 2) * a * (WL 0 (h - 1) * b) = WL 1 (-h + 2) * WL 0 (h - 1) * (a * b):=by simp only [Int.mul_assoc,Int.mul_left_comm a]
        have e6 : b * 1000000000000000000 * (a * 1000000000000000000) = 1000000000000000000000000000000000000 * (a * b):=by grind
        omega
    · exact g
theorem levels_true (a b : Int) : law05_FigureLevels a b = some true:=by
  unfold law05_FigureLevels
  by_cases h : (1 ≤ a ∧ a ≤ 10000000000000) ∧ (1 ≤ b ∧ b ≤ 10000000000000)
  · obtain ⟨h1,h2⟩:=levels_in h.1 h.2
    by_cases g : b ≤ a * 1000000000 ∧ a ≤ 1000000000 * b
    · obtain ⟨m,h',H,e1,e2⟩:=h2 g
      rw [e1,e2]
      simp only [Option.bind_some,ne_eq,not_true_eq_false,decide_false,Bool.false_eq_true,if_false]
      obtain ⟨m',h'',H',f1,-⟩:=(levels_in h.2 h.1).2 (by omega)
      obtain ⟨m0,h0,H0,f2,-⟩:=(levels_in h.1 h.1).2 (by omega)
      obtain ⟨rfl,rfl⟩:=level_one (by omega) H0
      have E:=level_ends (by omega) (by omega) H
      have B:=level_back (by omega) (by omega) H H'
      have bm:=H.bm
      have bh:=H.bh
      rw [f1,f2]
      simp only [Option.bind_some]
      rw [w64 (x:=m + 2) (by omega),w64 (x:=0 - h') (by omega),w64 (x:=0 - h' - 1) (by omega),w64 (x:=0 - h' + 1) (by omega),base_within]
      simp only [Option.bind_some]
      have d1 : decide (0 - h' - 1 ≤ m' ∧ m' ≤ 0 - h' + 1) = true:=by rw [decide_eq_true_eq];omega
      rw [d1]
      simp [E.1,E.2]
    · obtain ⟨e1,e2⟩:=h1 g
      rw [e1,e2]
      simp
  · obtain ⟨e1,e2⟩:=levels_out h
    rw [e1,e2]
    simp

end Go.Rex

namespace Go.Rex
open Go Go.ChangeShapes Go.WideShapes Go.ChangeAt Go.RowKit Go.Joins Go.Proofs
/-! ### arguments: what they are as trees,and the names of their blocks -/
structure Arg (W : World) (v' : Value) (p : TV) (bs : List Blk) (is : List Info) (av : Nat → Value) : Prop where
  vr : ∀ (D : Nat → Prop) (m : NMap) n,(∀ j,j < bs.length → D (n + j)) → (∀ (j : Nat) i,is[j]? = some i → m (n + j) = i) → VR D m (av n) v'
  vl : ∀ (Fz : Nat → Prop) (h : List Blk) n,(∀ j,j < bs.length → Fz (n + j)) → (∀ (j : Nat) b,bs[j]? = some b → h[n + j]? = some b) → VL Fz h noL p (av n)
  ok : ∀ (D : Nat → Prop) (m : NMap) n,(∀ j,j < bs.length → D (n + j)) → (∀ (j : Nat) i,is[j]? = some i → m (n + j) = i) → ∀ (j : Nat) b,bs[j]? = some b → BlkOk D m W (n + j) b
  lt : ∀ (j : Nat) b i,bs[j]? = some b → is[j]? = some i → b ≠ .dead → i.block < W.heap.size
  len : is.length = bs.length
structure Args (W : World) (vs' : List Value) (ps : List TV) (bs : List Blk) (is : List Info) (av : Nat → List Value) : Prop where
  vr : ∀ (D : Nat → Prop) (m : NMap) n,(∀ j,j < bs.length → D (n + j)) → (∀ (j : Nat) i,is[j]? = some i → m (n + j) = i) → VRs D m (av n) vs'
  vl : ∀ (Fz : Nat → Prop) (h : List Blk) n,(∀ j,j < bs.length → Fz (n + j)) → (∀ (j : Nat) b,bs[j]? = some b → h[n + j]? = some b) → VLs Fz h noL ps (av n)
  ok : ∀ (D : Nat → Prop) (m : NMap) n,(∀ j,j < bs.length → D (n + j)) → (∀ (j : Nat) i,is[j]? = some i → m (n + j) = i) → ∀ (j : Nat) b,bs[j]? = some b → BlkOk D m W (n + j) b
  lt : ∀ (j : Nat) b i,bs[j]? = some b → is[j]? = some i → b ≠ .dead → i.block < W.heap.size
  len : is.length = bs.length
/-- the names of the arguments -/
def nm (is : List Info) : NMap:=fun n=>is.getD n ⟨0,0,0,0⟩
section
variable {W : World} {vs' : List Value} {ps : List TV} {bs : List Blk} {is : List Info} {av : Nat → List Value}
end
/-! ### arguments without names -/
def AtomV (c : Value) : Prop:=isAtom c = true ∧ ∀ D m,VR D m c c
theorem atomV_int (k : IntKind) (n : Int) : AtomV (.int k n):=⟨rfl,fun _ _=>.int _ _⟩
theorem Arg.atom {W : World} {v : Value} (h : AtomV v) : Arg W v (.v v) [] [] (fun _=>v) :=
  ⟨fun _ _ _ _ _=>h.2 _ _,fun _ _ _ _ _=>.v _ _ h.1,fun _ _ _ _ _ j b h=>by simp at h,fun j b i h=>by simp at h,rfl⟩
/-! ### a slice of rows -/
section
variable {H : Type} {enc : TypeId × Value → H} {W : World} {base : Nat} {spare : Nat → Bool} {held : Bool}
/-! ### aggregates of ints -/
variable {P : Program}
theorem okW_int {t : TypeId} (ht : P.underlying t = some (.int .i64)) {r : Reach} {b : Nat} {v : Value} (w : Cell.okWide P W r b t v) : ∃ n : Int,v = .int .i64 n:=by
  unfold Cell.okWide at w
  simp only [ht] at w
  unfold Cell.ok at w
  simp only [ht] at w
  cases v<;>first|exact ⟨_,by rw [w.1]⟩|exact absurd w (by simp)
theorem open_int {t : TypeId} (ht : P.underlying t = some (.int .i64)) {r : Reach} {b : Nat} {v : Value} (w : Value.okWide P W r b t v) : ∃ n : Int,v = .int .i64 n:=by
  unfold Value.okWide at w
  simp only [ht] at w
  exact okW_int ht w
end
end Go.Rex

namespace Go.Rex
open Go Go.ChangeShapes Go.WideShapes Go.ChangeAt Go.RowKit Go.Joins Go.Proofs
/-! ### arguments whose blocks name one another: lists of lists -/
structure NArg (W : World) (v' : Value) (p : TV) (bs : Nat → List Blk) (is : List Info) (av : Nat → Value) : Prop where
  vr : ∀ (D : Nat → Prop) (m : NMap) n,(∀ j,j < is.length → D (n + j)) → (∀ (j : Nat) i,is[j]? = some i → m (n + j) = i) → VR D m (av n) v'
  vl : ∀ (Fz : Nat → Prop) (h : List Blk) n,(∀ j,j < is.length → Fz (n + j)) → (∀ (j : Nat) b,(bs n)[j]? = some b → h[n + j]? = some b) → VL Fz h noL p (av n)
  ok : ∀ (D : Nat → Prop) (m : NMap) n,(∀ j,j < is.length → D (n + j)) → (∀ (j : Nat) i,is[j]? = some i → m (n + j) = i) → ∀ (j : Nat) b,(bs n)[j]? = some b → BlkOk D m W (n + j) b
  lt : ∀ n (j : Nat) b i,(bs n)[j]? = some b → is[j]? = some i → b ≠ .dead → i.block < W.heap.size
  len : ∀ n,(bs n).length = is.length
structure NArgs (W : World) (vs' : List Value) (ps : List TV) (bs : Nat → List Blk) (is : List Info) (av : Nat → List Value) : Prop where
  vr : ∀ (D : Nat → Prop) (m : NMap) n,(∀ j,j < is.length → D (n + j)) → (∀ (j : Nat) i,is[j]? = some i → m (n + j) = i) → VRs D m (av n) vs'
  vl : ∀ (Fz : Nat → Prop) (h : List Blk) n,(∀ j,j < is.length → Fz (n + j)) → (∀ (j : Nat) b,(bs n)[j]? = some b → h[n + j]? = some b) → VLs Fz h noL ps (av n)
  ok : ∀ (D : Nat → Prop) (m : NMap) n,(∀ j,j < is.length → D (n + j)) → (∀ (j : Nat) i,is[j]? = some i → m (n + j) = i) → ∀ (j : Nat) b,(bs n)[j]? = some b → BlkOk D m W (n + j) b
  lt : ∀ n (j : Nat) b i,(bs n)[j]? = some b → is[j]? = some i → b ≠ .dead → i.block < W.heap.size
  len : ∀ n,(bs n).length = is.length
theorem Arg.n {W : World} {v' : Value} {p : TV} {bs : List Blk} {is : List Info} {av : Nat → Value} (a : Arg W v' p bs is av) : NArg W v' p (fun _=>bs) is av :=
  ⟨fun D m n hD hm=>a.vr D m n (by rw [← a.len];exact hD) hm,fun Fz h n hF hh=>a.vl Fz h n (by rw [← a.len];exact hF) hh,fun D m n hD hm=>a.ok D m n (by rw [← a.len];exact hD) hm,fun _=>a.lt,fun _=>a.len.symm⟩
theorem NArgs.nil (W : World) : NArgs W [] [] (fun _=>[]) [] (fun _=>[]) :=
  ⟨fun _ _ _ _ _=>⟨rfl,fun i a a' h=>by simp at h⟩,fun _ _ _ _ _=>.nil,fun _ _ _ _ _ j b h=>by simp at h,fun _ j b i h=>by simp at h,fun _=>rfl⟩
theorem NArgs.cons {W : World} {v' : Value} {p : TV} {bs bs2 : Nat → List Blk} {is is2 : List Info} {av : Nat → Value} {vs' : List Value} {ps : List TV} {avs : Nat → List Value}
    (a : NArg W v' p bs is av) (az : NArgs W vs' ps bs2 is2 avs) : NArgs W (v' :: vs') (p :: ps) (fun n=>bs n ++ bs2 (n + is.length)) (is ++ is2) (fun n=>av n :: avs (n + is.length)):=by
  have cD : ∀ (D : Nat → Prop) n,(∀ j,j < (is ++ is2).length → D (n + j)) → (∀ j,j < is.length → D (n + j)) ∧ (∀ j,j < is2.length → D (n + is.length + j)):=by
    intro D n h
    refine ⟨fun j hj=>h j (by simp;omega),fun j hj=>?_⟩
    have:=h (is.length + j) (by simp;omega)
    rwa [← Nat.add_assoc] at this
  have cI : ∀ (m : NMap) n,(∀ (j : Nat) i,(is ++ is2)[j]? = some i → m (n + j) = i) → (∀ (j : Nat) i,is[j]? = some i → m (n + j) = i) ∧ (∀ (j : Nat) i,is2[j]? = some i → m (n + is.length + j) = i):=by
    intro m n h
    refine ⟨fun j i hj=>h j i (by rw [List.getElem?_append_left (List.getElem?_eq_some_iff.1 hj).1];exact hj),fun j i hj=>?_⟩
    have:=h (is.length + j) i (by rw [List.getElem?_append_right (by omega),Nat.add_sub_cancel_left];exact hj)
    rwa [← Nat.add_assoc] at this
  refine ⟨fun D m n hD hm=>?_,fun Fz h n hF hh=>?_,fun D m n hD hm j b hb=>?_,fun n j b i hb hi hd=>?_,fun n=>by simp [a.len,az.len]⟩
  · have h1:=a.vr D m n (cD D n hD).1 (cI m n hm).1
    have h2:=az.vr D m (n + is.length) (cD D n hD).2 (cI m n hm).2
    refine ⟨by simp [h2.len],fun i x x' hx hx'=>?_⟩
    cases i with
    | zero=>simp at hx hx';subst hx hx';exact h1
    | succ i=>simp at hx hx';exact h2.at' i x x' hx hx'
  · refine .cons (a.vl Fz h n (cD Fz n hF).1 fun j b hb=>hh j b (by rw [List.getElem?_append_left (List.getElem?_eq_some_iff.1 hb).1];exact hb)) (az.vl Fz h (n + is.length) (cD Fz n hF).2 fun j b hb=>?_)
    have:=hh (is.length + j) b (by rw [List.getElem?_append_right (by rw [a.len];omega),a.len,Nat.add_sub_cancel_left];exact hb)
    rwa [← Nat.add_assoc] at this
  · rcases Nat.lt_or_ge j is.length with hj|hj
    · rw [List.getElem?_append_left (by rw [a.len];exact hj)] at hb
      exact a.ok D m n (cD D n hD).1 (cI m n hm).1 j b hb
    · rw [List.getElem?_append_right (by rw [a.len];exact hj),a.len] at hb
      have:=az.ok D m (n + is.length) (cD D n hD).2 (cI m n hm).2 _ b hb
      rwa [show n + is.length + (j - is.length) = n + j by omega] at this
  · rcases Nat.lt_or_ge j is.length with hj|hj
    · rw [List.getElem?_append_left (by rw [a.len];exact hj)] at hb
      rw [List.getElem?_append_left hj] at hi
      exact a.lt n j b i hb hi hd
    · rw [List.getElem?_append_right (by rw [a.len];exact hj),a.len] at hb
      rw [List.getElem?_append_right hj] at hi
      exact az.lt _ _ b i hb hi hd
section
variable {W : World} {vs' : List Value} {ps : List TV} {bs : Nat → List Blk} {is : List Info} {av : Nat → List Value}
/-- the names of the variables of packages come first -/
def gnm (is : List Info) : NMap:=fun k=>if k < NG then gm k else is.getD (k - NG) ⟨0,0,0,0⟩
theorem gnm_at {is : List Info} {j : Nat} {i : Info} (h : is[j]? = some i) : gnm is (NG + j) = i:=by
  unfold gnm
  rw [if_neg (by omega),Nat.add_sub_cancel_left,List.getD_eq_getElem?_getD,h]
  rfl
theorem gh_len : GH.length = NG:=rfl
theorem NArgs.rel (a : NArgs W vs' ps bs is av) (hw : GW W) (hs : NG ≤ W.heap.size) : Rel W.heap.size (GH ++ bs NG).length (fun k=>k < (GH ++ bs NG).length) (gnm is) (GH ++ bs NG) W:=by
  have hl:=a.len NG
  have hn : (GH ++ bs NG).length = NG + is.length:=by rw [List.length_append,gh_len,hl]
  have old : ∀ k,k < NG → gnm is k = gm k:=fun k hk=>if_pos hk
  have parts : ∀ n b,n < (GH ++ bs NG).length → (GH ++ bs NG)[n]? = some b → (n < NG ∧ GH[n]? = some b) ∨ ∃ j,n = NG + j ∧ (bs NG)[j]? = some b:=by
    intro n b hn' hb
    rcases Nat.lt_or_ge n NG with h|h
    · rw [List.getElem?_append_left h] at hb;exact .inl ⟨h,hb⟩
    · rw [List.getElem?_append_right h,gh_len] at hb;exact .inr ⟨n - NG,by omega,hb⟩
  have st:=Rel.start W hw hs
  have lt : ∀ n b,n < (GH ++ bs NG).length → (GH ++ bs NG)[n]? = some b → b ≠ .dead → (gnm is n).block < W.heap.size:=by
    intro n b hn' hb hd
    rcases parts n b hn' hb with ⟨h1,h2⟩|⟨j,rfl,h2⟩
    · rw [old n h1];exact st.lt n b h1 h2 hd
    · have hj : j < is.length:=by omega
      rw [gnm_at (List.getElem?_eq_getElem hj)]
      exact a.lt NG j b _ h2 (List.getElem?_eq_getElem hj) hd
  refine ⟨Nat.le_refl _,fun _ h=>h,fun n b hn' hb=>?_,lt,fun n b hD hl=>absurd hD (by omega),fun n b hn' _ hb hd=>lt n b hn' hb hd,fun n b hD hl=>absurd hD (by omega),fun n n' b b' hD _ hl=>absurd hD (by omega),⟨fun g hg=>⟨?_,?_⟩,hs,hw⟩⟩
  · rcases parts n b hn' hb with ⟨h1,h2⟩|⟨j,rfl,h2⟩
    · exact (st.ok n b h1 h2).mono (fun k hk=>by have hk' : k < NG:=hk;show k < (GH ++ bs NG).length;omega) (fun k hk=>old k hk) (old n h1)
    · exact a.ok (fun k=>k < (GH ++ bs NG).length) (gnm is) NG (fun j hj=>by omega) (fun j i hi=>gnm_at hi) j b h2
  · show g < (GH ++ bs NG).length;omega
  · rw [old g hg];exact gm_at g
theorem NArgs.vls (a : NArgs W vs' ps bs is av) : VLs (fun k=>k < (GH ++ bs NG).length) (GH ++ bs NG) noL ps (av NG):=by
  have hn : (GH ++ bs NG).length = NG + is.length:=by rw [List.length_append,gh_len,a.len NG]
  exact a.vl _ _ NG (fun j hj=>by omega) (fun j b hb=>by rw [List.getElem?_append_right (by rw [gh_len];omega),gh_len,Nat.add_sub_cancel_left];exact hb)
theorem NArgs.fz (_a : NArgs W vs' ps bs is av) : FZ (fun k=>k < (GH ++ bs NG).length) (GH ++ bs NG) :=
  ⟨fun _ h=>h,fun g hg=>by
    have h1 : g < GH.length:=hg
    exact ⟨by rw [List.length_append];omega,List.getElem?_append_left h1⟩⟩
theorem NArgs.vrs (a : NArgs W vs' ps bs is av) : VRs (fun k=>k < (GH ++ bs NG).length) (gnm is) (av NG) vs':=by
  have hn : (GH ++ bs NG).length = NG + is.length:=by rw [List.length_append,gh_len,a.len NG]
  exact a.vr _ _ NG (fun j hj=>by omega) (fun j i hi=>gnm_at hi)
end
section
variable {H : Type} {enc : TypeId × Value → H} {W : World} {base : Nat} {spare : Nat → Bool} {held : Bool}
end

section
variable {H : Type} {enc : TypeId × Value → H} {W : World} {base : Nat} {spare : Nat → Bool} {held : Bool}
end
end Go.Rex

open Go Go.Rex Go.Proofs
namespace Go.Rex
/-! ### what a row's listed variables hold,cell by cell -/
section
variable {P : Program} {w : World}
theorem listed_at : ∀ {l : List (String × DataW Unit)} {ps : List MemPlace}, DataW.LaidVars P w l ps → ∀ {n : String} {d : DataW Unit}, (n, d) ∈ l →
    ∃ g t cs fuel p,P.globalNamed n = some g ∧ (P.globals[g]?).map (·.type) = some t ∧ w.var? P n = some cs ∧ DataW.trod (fun _=>()) P w 0 (fun _=>true) false fuel t cs.toList = some (d,p)
  | [],_,_,_,_,hm=>by cases hm
  | (a,b) :: r,_,h,n,d,hm=>by
    obtain ⟨g,t,cs,fuel,p,q,h1,h2,h3,h4,h5,_⟩:=h
    rcases List.mem_cons.1 hm with e|e
    · cases e;exact ⟨g,t,cs,fuel,p,h1,h2,h3,h4⟩
    · exact listed_at h5 e
/-- the cells of data that hold no names, part after part -/
def catC (P : Program) (f : TypeId → DataW Unit → Option (List Value)) : List (TypeId × DataW Unit) → Option (List Value)
  | []=>some []
  | (t,d) :: r=>match f t d,catC P f r with
    | some a,some b=>some (a ++ b)
    | _,_=>none
def offsC (P : Program) : Nat → List Field → Option Nat
  | o,[]=>some o
  | o,f :: r=>if f.offset = o then offsC P (o + P.cellsOf f.type) r else none
def flatC (P : Program) : Nat → TypeId → DataW Unit → Option (List Value)
  | 0,_,_=>none
  | n + 1,t,d=>match P.underlying t,d with
    | some (.int k),.lit (.int _ z)=>some [.int k z]
    | some .string,.lit (.string l)=>some [.string ⟨l.toArray⟩]
    | some .bool,.lit (.bool b)=>some [.bool b]
    | some (.array m e),.agg ds=>if ds.length = m ∧ P.cellsOf t = m * P.cellsOf e then catC P (flatC P n) (ds.map fun d=>(e,d)) else none
    | some (.struct fs),.agg ds=>if ds.length = fs.size ∧ offsC P 0 fs.toList = some (P.cellsOf t) then catC P (flatC P n) ((fs.toList.map (·.type)).zip ds) else none
    | _,_=>none
abbrev RdC (P : Program) (w : World) (t : TypeId) (d : DataW Unit) (r : List Value) : Prop:=∃ fuel p,DataW.trod (fun _=>()) P w 0 (fun _=>true) false fuel t r = some (d,p)
theorem cat_eq {f : TypeId → DataW Unit → Option (List Value)} (hf : ∀ t d cs, f t d = some cs → ∀ r, RdC P w t d r → r = cs) : ∀ (l : List (TypeId × DataW Unit)) (cs r : List Value) (pos : Nat → Nat), catC P f l = some cs →
    (∀ i t d,l[i]? = some (t,d) → RdC P w t d ((r.drop (pos i)).take (P.cellsOf t)) ∧ pos (i + 1) = pos i + P.cellsOf t) → r.length = pos l.length → r.drop (pos 0) = cs
  | [],cs,r,pos,h,_,hl=>by
    cases h
    exact List.drop_eq_nil_of_le (by rw [hl];exact Nat.le_refl _)
  | (t,d) :: l,cs,r,pos,h,ha,hl=>by
    unfold catC at h
    split at h
    · rename_i a b e1 e2
      cases h
      obtain ⟨h1,h2⟩:=ha 0 t d rfl
      have k1:=hf t d a e1 _ h1
      have k2:=cat_eq hf l b r (fun i=>pos (i + 1)) e2 (fun i t d hi=>ha (i + 1) t d (by simpa using hi)) (by simpa using hl)
      rw [h2,← List.drop_drop] at k2
      rw [← List.take_append_drop (P.cellsOf t) (r.drop (pos 0)),k1,k2]
    · cases h
theorem offs_pos : ∀ (fs : List Field) (o e : Nat),offsC P o fs = some e → ∃ pos : Nat → Nat,pos 0 = o ∧ pos fs.length = e ∧ ∀ i f,fs[i]? = some f → f.offset = pos i ∧ pos (i + 1) = pos i + P.cellsOf f.type
  | [],o,e,h=>by cases h;exact ⟨fun _=>o,rfl,rfl,fun i f hf=>by simp at hf⟩
  | f :: r,o,e,h=>by
    unfold offsC at h
    split at h
    · rename_i ho
      obtain ⟨pos,h1,h2,h3⟩:=offs_pos r _ _ h
      refine ⟨fun|0=>o|i + 1=>pos i,rfl,h2,fun i g hg=>?_⟩
      cases i with
      | zero=>cases hg;exact ⟨ho,h1⟩
      | succ i=>exact h3 i g (by simpa using hg)
    · cases h
theorem flat_eq : ∀ (n : Nat) (t : TypeId) (d : DataW Unit) (cs : List Value),flatC P n t d = some cs → ∀ r,RdC P w t d r → r = cs:=by
  intro n
  induction n with
  | zero=>intro t d cs h;cases h
  | succ n ih =>
    intro t d cs h r ⟨fuel,p,hr⟩
    unfold flatC at h
    split at h
    · rename_i k k' z hu
      cases h
      obtain ⟨z',e1,e2,_⟩:=DataW.trod_int hu hr
      simp only [Prod.mk.injEq,DataW.lit.injEq,Lit.int.injEq] at e2
      rw [e1,e2.1.2]
    · rename_i l hu
      cases h
      obtain ⟨b,e1,e2,_⟩:=DataW.trod_string hu hr
      simp only [Prod.mk.injEq,DataW.lit.injEq,Lit.string.injEq] at e2
      rw [e1,e2.1]
    · rename_i b hu
      cases h
      obtain ⟨b',e1,e2⟩:=DataW.trod_bool hu hr
      simp only [Prod.mk.injEq,DataW.lit.injEq,Lit.bool.injEq] at e2
      rw [e1,e2.1]
    · rename_i m e ds hu
      split at h
      · rename_i hc
        obtain ⟨xs,m',_,e2,e3,e4,e5⟩:=DataW.trod_array hu hr
        simp only [Prod.mk.injEq,DataW.agg.injEq] at e2
        have:=cat_eq (w:=w) ih (ds.map fun d=>(e,d)) cs r (fun i=>i * P.cellsOf e) h (fun i t' d' hi=>by
          rw [List.getElem?_map,Option.map_eq_some_iff] at hi
          obtain ⟨x,hx,hh⟩:=hi
          simp only [Prod.mk.injEq] at hh
          obtain ⟨rfl,rfl⟩:=hh
          have hlt:=(List.getElem?_eq_some_iff.1 hx).1
          have hi5:=e5 i (by omega)
          rw [e2.1,List.getElem?_map,Option.map_eq_some_iff] at hx
          obtain ⟨y,hy,rfl⟩:=hx
          rw [hy] at hi5
          exact ⟨⟨_,_,hi5⟩,by rw [Nat.add_mul,Nat.one_mul]⟩) (by rw [List.length_map,hc.1,← hc.2];exact e3)
        simpa using this
      · cases h
    · rename_i fs ds hu
      split at h
      · rename_i hc
        obtain ⟨xs,m',_,e2,e3,e4,e5⟩:=DataW.trod_struct hu hr
        simp only [Prod.mk.injEq,DataW.agg.injEq] at e2
        obtain ⟨pos,p0,p1,p2⟩:=offs_pos _ _ _ hc.2
        have:=cat_eq (w:=w) ih ((fs.toList.map (·.type)).zip ds) cs r pos h (fun i t' d' hi=>by
          rw [List.getElem?_zip_eq_some,List.getElem?_map,Option.map_eq_some_iff] at hi
          obtain ⟨⟨f,hf,rfl⟩,hx⟩:=hi
          have hfs : fs[i]? = some f:=by simpa using hf
          have hi5:=e5 i f hfs
          obtain ⟨q1,q2⟩:=p2 i f hf
          rw [e2.1,List.getElem?_map,Option.map_eq_some_iff] at hx
          obtain ⟨y,hy,rfl⟩:=hx
          rw [hy,q1] at hi5
          exact ⟨⟨_,_,hi5⟩,q2⟩) (by
          have : ((fs.toList.map (·.type)).zip ds).length = fs.toList.length:=by simp [hc.1]
          rw [this,p1];exact e3)
        rw [p0] at this
        simpa using this
      · cases h
    · cases h
theorem listed_cells {l : List (String × DataW Unit)} (h : laidMet P l w) {n : String} {d : DataW Unit} (hm : (n, d) ∈ l) {g : Nat} {t : TypeId} {cs : List Value} (hg : P.globalNamed n = some g) (hty : (P.globals[g]?).map (·.type) = some t) (hf : flatC P 10 t d = some cs) :
    ∀ (i : Nat) v,cs[i]? = some v → w.cell? ⟨g,i,none⟩ = some v:=by
  obtain ⟨ps,hv,_⟩:=h
  obtain ⟨g',t',cs',fuel,p,h1,h2,h3,h4⟩:=listed_at hv hm
  obtain rfl:=Option.some.inj (hg.symm.trans h1)
  obtain rfl:=Option.some.inj (hty.symm.trans h2)
  have e:=flat_eq (w:=w) 10 _ _ _ hf _ ⟨_,_,h4⟩
  intro i v hi
  rw [World.var?_cell h1 h3]
  rw [← e] at hi
  simpa using hi
end
/-- what is known of the variables, one after the other -/
def AllC (w : World) : Nat → List (Nat × List Value) → Prop
  | _,[]=>True
  | g,p :: r=>(∀ (i : Nat) v,p.2[i]? = some v → w.cell? ⟨g,i,none⟩ = some v) ∧ AllC w (g + 1) r
theorem allC_at {w : World} : ∀ (l : List (Nat × List Value)) (g k : Nat) (p : Nat × List Value),AllC w g l → l[k]? = some p → ∀ (i : Nat) v,p.2[i]? = some v → w.cell? ⟨g + k,i,none⟩ = some v
  | [],_,_,_,_,h=>by simp at h
  | q :: r,g,0,p,h,hk=>by cases hk;exact h.1
  | q :: r,g,k + 1,p,h,hk=>by
    have:=allC_at r (g + 1) k p h.2 (by simpa using hk)
    rw [show g + (k + 1) = g + 1 + k by omega]
    exact this
theorem noCells {w : World} {g : Nat} : ∀ (i : Nat) v,([] : List Value)[i]? = some v → w.cell? ⟨g,i,none⟩ = some v:=fun i v h=>by simp at h
theorem gh_size {w : World} {g : Nat} {v : Value} (h : w.cell? ⟨g,0,none⟩ = some v) : g < w.heap.size:=by
  unfold World.cell? at h
  rcases Nat.lt_or_ge g w.heap.size with q|q
  · exact q
  · rw [Array.getElem?_eq_none q] at h
    simp at h
theorem gw_all {w : World} (h : AllC w 0 ghCells) : GW w:=fun g es c hg i v hv=>by
  unfold GH at hg
  rw [List.getElem?_map,Option.map_eq_some_iff] at hg
  obtain ⟨p,hp,e⟩:=hg
  cases e
  have:=allC_at ghCells 0 g p h hp i v hv
  rwa [Nat.zero_add] at this
end Go.Rex
