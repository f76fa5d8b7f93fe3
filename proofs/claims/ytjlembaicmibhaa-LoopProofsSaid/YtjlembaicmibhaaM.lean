/- What these functions return: facts on lists and numbers. -/
import Derived.Test.YtjlembaicmibhaaRexG7
import Derived.Test.YtjlembaicmibhaaS
import Derived.Test.YtjlembaicmibhaaRexG6
import Derived.ProofKit
import Derived.OpenShut
import Derived.ShutString
import Derived.ChangeOld
import Derived.Below
import Derived.Lib.SmallJoins
import Derived.ChangeShapes
import Derived.ChangeArms
import Derived.WideShapes
set_option linter.unusedSimpArgs false
set_option linter.unusedVariables false
set_option linter.defProp false
namespace Go.Rex
/-! ### loops that are run,by fuel -/
def runF {σ ε : Type} (step : σ → Option (σ ⊕ ε)) : Nat → σ → Option ε
  | 0,_=>none
  | k + 1,s=>match step s with
    | some (.inl s')=>runF step k s'
    | some (.inr e)=>some e
    | none=>none
/-- what the first one yields the second one yields -/
def Le {α : Type} (a b : Option α) : Prop:=∀ r,a = some r → b = some r
theorem Le.refl {α : Type} (a : Option α) : Le a a:=fun _ h=>h
theorem Le.bind {α β : Type} {a a' : Option α} {f f' : α → Option β} (h : Le a a') (hf : ∀ x,Le (f x) (f' x)) : Le (a.bind f) (a'.bind f'):=by
  intro r hr
  obtain ⟨x,h1,h2⟩:=Option.bind_eq_some_iff.1 hr
  exact Option.bind_eq_some_iff.2 ⟨x,h x h1,hf x r h2⟩
theorem Le.ite {α : Type} {c : Prop} [Decidable c] {a a' b b' : Option α} (h1 : Le a a') (h2 : Le b b') : Le (if c then a else b) (if c then a' else b'):=by
  split
  · exact h1
  · exact h2
theorem Le.run {σ ε : Type} {stepF step : σ → Option (σ ⊕ ε)} {k : Nat} {s : σ} (h : ∀ s,Le (stepF s) (step s)) : Le (runF stepF k s) (run step s):=by
  intro r hr
  induction k generalizing s with
  | zero=>cases hr
  | succ k ih =>
    unfold runF at hr
    cases hs : stepF s with
    | none=>rw [hs] at hr;cases hr
    | some x =>
      rw [hs] at hr
      cases x with
      | inl s'=>rw [run_iff];exact .next (h s _ hs) (run_iff.1 (ih hr))
      | inr e=>obtain rfl:=Option.some.inj hr;rw [run_iff];exact .stop (h s _ hs)
end Go.Rex

open Go Go.Rex
namespace Go.Rex
set_option maxRecDepth 100000
def math_bits_Len64F (v1 : Int) : Option (Int) :=
  if (decide (v1 ≥ 4294967296)) = true then
    ((shI .shr .u64 v1 32).bind fun v3 =>
    if (decide (v3 ≥ 65536)) = true then
      ((shI .shr .u64 v3 16).bind fun v4 =>
      if (decide (v4 ≥ 256)) = true then
        ((shI .shr .u64 v4 8).bind fun v5 =>
        (strI txt_c95356 (IntKind.u8.wrap v5)).bind fun v6 =>
        some ((IntKind.i64.wrap (56 + (IntKind.i64.wrap v6)))))
      else
        ((strI txt_c95356 (IntKind.u8.wrap v4)).bind fun v7 =>
        some ((IntKind.i64.wrap (48 + (IntKind.i64.wrap v7))))))
    else
      (if (decide (v3 ≥ 256)) = true then
        ((shI .shr .u64 v3 8).bind fun v8 =>
        (strI txt_c95356 (IntKind.u8.wrap v8)).bind fun v9 =>
        some ((IntKind.i64.wrap (40 + (IntKind.i64.wrap v9)))))
      else
        ((strI txt_c95356 (IntKind.u8.wrap v3)).bind fun v10 =>
        some ((IntKind.i64.wrap (32 + (IntKind.i64.wrap v10)))))))
  else
    (if (decide (v1 ≥ 65536)) = true then
      ((shI .shr .u64 v1 16).bind fun v11 =>
      if (decide (v11 ≥ 256)) = true then
        ((shI .shr .u64 v11 8).bind fun v12 =>
        (strI txt_c95356 (IntKind.u8.wrap v12)).bind fun v13 =>
        some ((IntKind.i64.wrap (24 + (IntKind.i64.wrap v13)))))
      else
        ((strI txt_c95356 (IntKind.u8.wrap v11)).bind fun v14 =>
        some ((IntKind.i64.wrap (16 + (IntKind.i64.wrap v14))))))
    else
      (if (decide (v1 ≥ 256)) = true then
        ((shI .shr .u64 v1 8).bind fun v15 =>
        (strI txt_c95356 (IntKind.u8.wrap v15)).bind fun v16 =>
        some ((IntKind.i64.wrap (8 + (IntKind.i64.wrap v16)))))
      else
        ((strI txt_c95356 (IntKind.u8.wrap v1)).bind fun v17 =>
        some ((IntKind.i64.wrap (0 + (IntKind.i64.wrap v17)))))))
theorem math_bits_Len64_le (v1 : Int) : Le (math_bits_Len64F v1) (math_bits_Len64 v1):=by
  unfold math_bits_Len64F math_bits_Len64
  refine Le.ite ?_ ?_
  refine Le.bind ?_ ?_
  exact Le.refl _
  intro v3
  try dsimp only
  refine Le.ite ?_ ?_
  refine Le.bind ?_ ?_
  exact Le.refl _
  intro v4
  try dsimp only
  refine Le.ite ?_ ?_
  refine Le.bind ?_ ?_
  exact Le.refl _
  intro v5
  try dsimp only
  refine Le.bind ?_ ?_
  exact Le.refl _
  intro v6
  try dsimp only
  exact Le.refl _
  refine Le.bind ?_ ?_
  exact Le.refl _
  intro v7
  try dsimp only
  exact Le.refl _
  refine Le.ite ?_ ?_
  refine Le.bind ?_ ?_
  exact Le.refl _
  intro v8
  try dsimp only
  refine Le.bind ?_ ?_
  exact Le.refl _
  intro v9
  try dsimp only
  exact Le.refl _
  refine Le.bind ?_ ?_
  exact Le.refl _
  intro v10
  try dsimp only
  exact Le.refl _
  refine Le.ite ?_ ?_
  refine Le.bind ?_ ?_
  exact Le.refl _
  intro v11
  try dsimp only
  refine Le.ite ?_ ?_
  refine Le.bind ?_ ?_
  exact Le.refl _
  intro v12
  try dsimp only
  refine Le.bind ?_ ?_
  exact Le.refl _
  intro v13
  try dsimp only
  exact Le.refl _
  refine Le.bind ?_ ?_
  exact Le.refl _
  intro v14
  try dsimp only
  exact Le.refl _
  refine Le.ite ?_ ?_
  refine Le.bind ?_ ?_
  exact Le.refl _
  intro v15
  try dsimp only
  refine Le.bind ?_ ?_
  exact Le.refl _
  intro v16
  try dsimp only
  exact Le.refl _
  refine Le.bind ?_ ?_
  exact Le.refl _
  intro v17
  try dsimp only
  exact Le.refl _
def math_bits_LenF (v1 : Int) : Option (Int) :=
  (math_bits_Len64F v1).bind fun v3 =>
  some (v3)
theorem math_bits_Len_le (v1 : Int) : Le (math_bits_LenF v1) (math_bits_Len v1):=by
  unfold math_bits_LenF math_bits_Len
  refine Le.bind ?_ ?_
  (first|(apply math_bits_Len64_le)|exact Le.refl _)
  intro v3
  try dsimp only
  exact Le.refl _
def loop_root_l1F (v1 : Int) : (Int) → Option ((Int) ⊕ ((Int))):=fun v5 =>
  if v5 = 0 then none else
  (if (decide ((IntKind.i64.wrap ((IntKind.i64.wrap (v5 + (IntKind.i64.wrap (v1.tdiv v5)))).tdiv 2)) ≥ v5)) = true then
    (some (.inr v5))
  else
    (some (.inl (IntKind.i64.wrap ((IntKind.i64.wrap (v5 + (IntKind.i64.wrap (v1.tdiv v5)))).tdiv 2)))))
theorem loop_root_l1_le (v1 : Int) : ∀ s,Le (loop_root_l1F v1 s) (loop_root_l1 v1 s):=by
  intro s
  revert s;intro v5
  unfold loop_root_l1F loop_root_l1
  try dsimp only
  refine Le.ite (Le.refl _) ?_
  refine Le.ite ?_ ?_
  exact Le.refl _
  exact Le.refl _
def loop_rootF (v1 : Int) : Option (Int) :=
  (math_bits_LenF (IntKind.u64.wrap v1)).bind fun v3 =>
  (shI .shl .i64 1 (IntKind.i64.wrap ((IntKind.i64.wrap (v3 + 1)).tdiv 2))).bind fun v4 =>
  (runF (loop_root_l1F v1) 30 v4).bind fun v7 =>
  some (v7)
theorem loop_root_le (v1 : Int) : Le (loop_rootF v1) (loop_root v1):=by
  unfold loop_rootF loop_root
  refine Le.bind ?_ ?_
  (first|(apply math_bits_Len_le)|exact Le.refl _)
  intro v3
  try dsimp only
  refine Le.bind ?_ ?_
  exact Le.refl _
  intro v4
  try dsimp only
  refine Le.bind ?_ ?_
  (first|(refine Le.run ?_;intro s;apply loop_root_l1_le)|exact Le.refl _)
  intro v7
  try dsimp only
  exact Le.refl _
def loop_moduloF (v1 : Int) (v2 : Int) : Option (Int) :=
  if v2 = 0 then none else
  (some (((IntKind.i64.wrap ((v1.tmod v2) + v2)).tmod v2)))
theorem loop_modulo_le (v1 : Int) (v2 : Int) : Le (loop_moduloF v1 v2) (loop_modulo v1 v2):=by
  unfold loop_moduloF loop_modulo
  refine Le.ite (Le.refl _) ?_
  exact Le.refl _
def loop_floorF (v1 : Int) (v2 : Int) : Option (Int) :=
  (loop_moduloF v1 v2).bind fun v4 =>
  if v2 = 0 then none else
  (some ((IntKind.i64.wrap ((IntKind.i64.wrap (v1 - v4)).tdiv v2))))
theorem loop_floor_le (v1 : Int) (v2 : Int) : Le (loop_floorF v1 v2) (loop_floor v1 v2):=by
  unfold loop_floorF loop_floor
  refine Le.bind ?_ ?_
  (first|(apply loop_modulo_le)|exact Le.refl _)
  intro v4
  try dsimp only
  refine Le.ite (Le.refl _) ?_
  exact Le.refl _
def loop_nearestF (v1 : Int) (v2 : Int) : Option (Int) :=
  (loop_floorF (IntKind.i64.wrap (v1 + (IntKind.i64.wrap (v2.tdiv 2)))) v2).bind fun v4 =>
  some (v4)
theorem loop_nearest_le (v1 : Int) (v2 : Int) : Le (loop_nearestF v1 v2) (loop_nearest v1 v2):=by
  unfold loop_nearestF loop_nearest
  refine Le.bind ?_ ?_
  (first|(apply loop_floor_le)|exact Le.refl _)
  intro v4
  try dsimp only
  exact Le.refl _
def loop_middleF (v1 : Int) (v2 : Int) (v3 : Int) (v4 : Int) : Option (Int × Int) :=
  (loop_rootF (IntKind.i64.wrap ((IntKind.i64.wrap ((IntKind.i64.wrap (v1 + v3)) * (IntKind.i64.wrap (v1 + v3)))) + (IntKind.i64.wrap ((IntKind.i64.wrap (v2 + v4)) * (IntKind.i64.wrap (v2 + v4))))))).bind fun v7 =>
  (loop_nearestF (IntKind.i64.wrap ((IntKind.i64.wrap (v1 + v3)) * 67108864)) v7).bind fun v8 =>
  (loop_nearestF (IntKind.i64.wrap ((IntKind.i64.wrap (v2 + v4)) * 67108864)) v7).bind fun v9 =>
  some (v8,v9)
theorem loop_middle_le (v1 : Int) (v2 : Int) (v3 : Int) (v4 : Int) : Le (loop_middleF v1 v2 v3 v4) (loop_middle v1 v2 v3 v4):=by
  unfold loop_middleF loop_middle
  refine Le.bind ?_ ?_
  (first|(apply loop_root_le)|exact Le.refl _)
  intro v7
  try dsimp only
  refine Le.bind ?_ ?_
  (first|(apply loop_nearest_le)|exact Le.refl _)
  intro v8
  try dsimp only
  refine Le.bind ?_ ?_
  (first|(apply loop_nearest_le)|exact Le.refl _)
  intro v9
  try dsimp only
  exact Le.refl _
end Go.Rex

namespace Go.Rex
/-! ### plain facts for shallow functions -/
theorem w64 {x : Int} (h : -9223372036854775808 ≤ x ∧ x ≤ 9223372036854775807) : IntKind.i64.wrap x = x:=IntWalk.i64_in x (by omega)
end Go.Rex

open Go Go.Rex
namespace Go.Rex
/-! ### a table that is filled from far to near -/
abbrev Pt:=Int × Int
noncomputable def stepG (mid : Pt → Pt → Option Pt) (a : Int) : (List Pt × Int) → Option ((List Pt × Int) ⊕ List Pt):=fun (v,m) =>
  if decide (m < 1024) = true then
    (getI v (IntKind.i64.wrap (m - a))).bind fun p=>(getI v (IntKind.i64.wrap (m + a))).bind fun q=>(mid p q).bind fun r=>(getI v m).bind fun _=>some (.inl (v.set m.toNat r,IntKind.i64.wrap (m + IntKind.i64.wrap (2 * a))))
  else some (.inr v)
theorem getI_cast {α : Type} {xs : List α} {i : Nat} {e : Int} (h : e = (i : Int)) : getI xs e = xs[i]?:=by
  subst h;unfold getI;rw [if_pos (by omega)];rfl
theorem level {mid : Pt → Pt → Option Pt} {a n : Nat} (ha : 0 < a) (hn : 2 * a * n = 1024) {L M : List Pt} (hM : ∀ i, i < n → ∃ p q r, L[i]? = some p ∧ L[i + 1]? = some q ∧ mid p q = some r ∧ M[i]? = some r) :
    ∀ (k j : Nat) (v : List Pt),n - j = k → j ≤ n → v.length = 1025 → (∀ i,i ≤ n → v[i * (2 * a)]? = L[i]?) → (∀ i,i < j → v[(2 * i + 1) * a]? = M[i]?) →
      ∃ v',run (stepG mid a) (v,(((2 * j + 1) * a : Nat) : Int)) = some v' ∧ v'.length = 1025 ∧ (∀ i,i ≤ n → v'[i * (2 * a)]? = L[i]?) ∧ (∀ i,i < n → v'[(2 * i + 1) * a]? = M[i]?):=by
  intro k
  induction k with
  | zero =>
    intro j v hk hj hv hL hM'
    obtain rfl : j = n:=by omega
    refine ⟨v,run_stop ?_,hv,hL,hM'⟩
    have h1 : (2 * j + 1) * a = 1024 + a:=by rw [Nat.add_mul,Nat.one_mul,← hn,Nat.mul_right_comm]
    simp only [stepG]
    rw [if_neg]
    simp only [decide_eq_true_eq]
    omega
  | succ k ih =>
    intro j v hk hj hv hL hM'
    obtain ⟨p,q,r,hp,hq,hr,hMr⟩:=hM j (by omega)
    have hmul : 2 * a * (j + 1) ≤ 1024:=by rw [← hn];exact Nat.mul_le_mul_left _ (by omega)
    have e1 : (2 * j + 1) * a = 2 * a * j + a:=by rw [Nat.add_mul,Nat.one_mul,Nat.mul_right_comm]
    have e2 : 2 * a * (j + 1) = 2 * a * j + 2 * a:=by rw [Nat.mul_add,Nat.mul_one]
    have hlt : (2 * j + 1) * a < 1024:=by omega
    have w1 : IntKind.i64.wrap ((((2 * j + 1) * a : Nat) : Int) - (a : Int)) = ((j * (2 * a) : Nat) : Int):=by
      rw [w64 (by omega),show j * (2 * a) = 2 * a * j from Nat.mul_comm _ _];omega
    have w2 : IntKind.i64.wrap ((((2 * j + 1) * a : Nat) : Int) + (a : Int)) = (((j + 1) * (2 * a) : Nat) : Int):=by
      rw [w64 (by omega),show (j + 1) * (2 * a) = 2 * a * (j + 1) from Nat.mul_comm _ _];omega
    have w3 : IntKind.i64.wrap ((((2 * j + 1) * a : Nat) : Int) + IntKind.i64.wrap (2 * (a : Int))) = (((2 * (j + 1) + 1) * a : Nat) : Int):=by
      have e3 : (2 * (j + 1) + 1) * a = (2 * j + 1) * a + 2 * a:=by rw [← Nat.add_mul];congr 1
      rw [w64 (x:=2 * (a : Int)) (by omega),w64 (by omega),e3];omega
    obtain ⟨x,hx⟩ : ∃ x,v[(2 * j + 1) * a]? = some x:=⟨_,List.getElem?_eq_getElem (by omega)⟩
    have hstep : stepG mid a (v,(((2 * j + 1) * a : Nat) : Int)) = some (.inl (v.set ((2 * j + 1) * a) r,(((2 * (j + 1) + 1) * a : Nat) : Int))):=by
      simp only [stepG]
      rw [if_pos (by simp only [decide_eq_true_eq];omega),getI_cast w1,hL j (by omega),hp,Option.bind_some,getI_cast w2,hL (j + 1) (by omega),hq,Option.bind_some,hr,Option.bind_some,getI_cast rfl,hx,Option.bind_some,w3]
      rfl
    rw [run_next hstep]
    refine ih (j + 1) _ (by omega) (by omega) (by simpa using hv) (fun i hi=>?_) (fun i hi=>?_)
    · rw [List.getElem?_set_ne,hL i hi]
      intro he
      have : (2 * j + 1) * a = (2 * i) * a:=by rw [he,← Nat.mul_assoc,Nat.mul_comm i 2]
      have:=Nat.eq_of_mul_eq_mul_right ha this
      omega
    · by_cases e : i = j
      · subst e
        rw [List.getElem?_set_self (by omega),hMr]
      · rw [List.getElem?_set_ne,hM' i (by omega)]
        intro he
        have:=Nat.eq_of_mul_eq_mul_right ha he
        omega
def mids (mid : Pt → Pt → Option Pt) : List Pt → Option (List Pt)
  | []=>some []
  | p :: t=>match t with
    | []=>some []
    | q :: t'=>(mid p q).bind fun r=>(mids mid (q :: t')).bind fun s=>some (r :: s)
def weave : List Pt → List Pt → List Pt
  | [],_=>[]
  | p :: t,s=>match s with
    | []=>[p]
    | r :: s'=>p :: r :: weave t s'
theorem mids_at {mid : Pt → Pt → Option Pt} : ∀ {L M : List Pt},mids mid L = some M → M.length + 1 = max L.length 1 ∧ ∀ i,i + 1 < L.length → ∃ p q r,L[i]? = some p ∧ L[i + 1]? = some q ∧ mid p q = some r ∧ M[i]? = some r
  | [],M,h=>by simp [mids] at h;subst h;exact ⟨rfl,fun i hi=>by simp at hi⟩
  | [p],M,h=>by simp [mids] at h;subst h;exact ⟨rfl,fun i hi=>by simp at hi⟩
  | p :: q :: t,M,h=>by
    simp only [mids] at h
    obtain ⟨r,hr,h⟩:=Option.bind_eq_some_iff.1 h
    obtain ⟨s,hs,h⟩:=Option.bind_eq_some_iff.1 h
    obtain rfl:=Option.some.inj h
    obtain ⟨h1,h2⟩:=mids_at hs
    refine ⟨by simp at h1 ⊢;omega,fun i hi=>?_⟩
    cases i with
    | zero=>exact ⟨p,q,r,rfl,rfl,hr,rfl⟩
    | succ i=>simpa using h2 i (by simpa using hi)
theorem weave_at : ∀ {L M : List Pt},M.length + 1 = L.length → (weave L M).length = L.length + M.length ∧ (∀ i,i < L.length → (weave L M)[2 * i]? = L[i]?) ∧ (∀ i,i < M.length → (weave L M)[2 * i + 1]? = M[i]?)
  | [],M,h=>by simp at h
  | [p],[],h=>by simp [weave]
  | [p],_ :: _,h=>by simp at h
  | p :: q :: t,[],h=>by simp at h
  | p :: q :: t,r :: s,h=>by
    obtain ⟨h1,h2,h3⟩:=weave_at (L:=q :: t) (M:=s) (by simpa using h)
    refine ⟨by simp [weave] at h1 ⊢;omega,fun i hi=>?_,fun i hi=>?_⟩
    · cases i with
      | zero=>rfl
      | succ i =>
        have:=h2 i (by simpa using hi)
        show (p :: r :: weave (q :: t) s)[2 * i + 2]? = _
        simpa using this
    · cases i with
      | zero=>rfl
      | succ i =>
        have:=h3 i (by simpa using hi)
        show (p :: r :: weave (q :: t) s)[2 * i + 3]? = _
        simpa using this
/-- so many times twice as near -/
def upN (mid : Pt → Pt → Option Pt) : Nat → List Pt → Option (List Pt)
  | 0,L=>some L
  | k + 1,L=>(mids mid L).bind fun M=>upN mid k (weave L M)
theorem mids_le {mid mid' : Pt → Pt → Option Pt} (h : ∀ p q,Le (mid p q) (mid' p q)) : ∀ L,Le (mids mid L) (mids mid' L)
  | []=>Le.refl _
  | [p]=>Le.refl _
  | p :: q :: t=>by
    simp only [mids]
    exact Le.bind (h p q) fun r=>Le.bind (mids_le h (q :: t)) fun s=>Le.refl _
theorem upN_le {mid mid' : Pt → Pt → Option Pt} (h : ∀ p q,Le (mid p q) (mid' p q)) : ∀ k L,Le (upN mid k L) (upN mid' k L)
  | 0,L=>Le.refl _
  | k + 1,L=>Le.bind (mids_le h L) fun M=>upN_le h k _
noncomputable def step1 (mid : Pt → Pt → Option Pt) : (List Pt × Int) → Option ((List Pt × Int) ⊕ List Pt):=fun (v,a) =>
  if decide (a > 0) = true then (run (stepG mid a) (v,a)).bind fun v'=>some (.inl (v',IntKind.i64.wrap (a.tdiv 2)))
  else some (.inr v)
theorem levels {mid : Pt → Pt → Option Pt} {T : List Pt} : ∀ (k n : Nat) (v L : List Pt),k ≤ 9 → 2 * 2 ^ k * n = 1024 → v.length = 1025 → L.length = n + 1 → (∀ i,i ≤ n → v[i * (2 * 2 ^ k)]? = L[i]?) → upN mid (k + 1) L = some T → run (step1 mid) (v,((2 ^ k : Nat) : Int)) = some T:=by
  intro k
  induction k with
  | zero =>
    intro n v L hk hn hv hLl hL hT
    simp only [upN] at hT
    obtain ⟨M,hM,hT⟩:=Option.bind_eq_some_iff.1 hT
    obtain rfl:=Option.some.inj hT
    obtain ⟨m1,m2⟩:=mids_at hM
    obtain ⟨v',r1,r2,r3,r4⟩:=level (a:=2 ^ 0) (mid:=mid) (n:=n) (by omega) hn (fun i hi=>m2 i (by omega)) n 0 v (by omega) (by omega) hv hL (fun i hi=>by omega)
    have hs : step1 mid (v,((2 ^ 0 : Nat) : Int)) = some (.inl (v',0)):=by
      simp only [step1]
      rw [if_pos (by simp)]
      rw [show (((2 ^ 0 : Nat) : Int)) = (((2 * 0 + 1) * 2 ^ 0 : Nat) : Int) from rfl]
      rw [show stepG mid (((2 * 0 + 1) * 2 ^ 0 : Nat) : Int) = stepG mid ((2 ^ 0 : Nat) : Int) from rfl,r1]
      rfl
    have he : v' = weave L M:=by
      obtain ⟨w1,w2,w3⟩:=weave_at (L:=L) (M:=M) (by omega)
      apply List.ext_getElem?
      intro i
      by_cases hi : i < 1025
      · rcases Nat.mod_two_eq_zero_or_one i with h|h
        · have e : i = 2 * (i / 2):=by omega
          have h1:=w2 (i / 2) (by omega)
          have h2:=r3 (i / 2) (by omega)
          rw [← e] at h1
          rw [h1,← h2]
          congr 1
          omega
        · have e : i = 2 * (i / 2) + 1:=by omega
          have h1:=w3 (i / 2) (by omega)
          have h2:=r4 (i / 2) (by omega)
          rw [← e] at h1
          rw [h1,← h2]
          congr 1
          omega
      · rw [List.getElem?_eq_none (by omega),List.getElem?_eq_none (by omega)]
    rw [run_next hs]
    refine run_stop ?_
    simp only [step1]
    rw [if_neg (by simp),he]
  | succ k ih =>
    intro n v L hk hn hv hLl hL hT
    unfold upN at hT
    obtain ⟨M,hM,hT⟩:=Option.bind_eq_some_iff.1 hT
    obtain ⟨m1,m2⟩:=mids_at hM
    have hpos : 0 < 2 ^ (k + 1):=Nat.two_pow_pos _
    have hp : 2 ^ (k + 1) = 2 * 2 ^ k:=by rw [Nat.pow_succ,Nat.mul_comm]
    have hbig : 2 ^ (k + 1) ≤ 2 ^ 9:=Nat.pow_le_pow_right (by omega) hk
    obtain ⟨v',r1,r2,r3,r4⟩:=level (a:=2 ^ (k + 1)) (mid:=mid) (n:=n) hpos hn (fun i hi=>m2 i (by omega)) n 0 v (by omega) (by omega) hv hL (fun i hi=>by omega)
    have hs : step1 mid (v,((2 ^ (k + 1) : Nat) : Int)) = some (.inl (v',((2 ^ k : Nat) : Int))):=by
      simp only [step1]
      rw [if_pos (by simp only [decide_eq_true_eq];omega)]
      rw [show (2 * 0 + 1) * 2 ^ (k + 1) = 2 ^ (k + 1) by omega] at r1
      rw [r1,Option.bind_some]
      have : (((2 ^ (k + 1) : Nat) : Int)).tdiv 2 = ((2 ^ k : Nat) : Int):=by
        rw [hp,Int.natCast_mul]
        exact Int.mul_tdiv_cancel_left _ (by decide)
      rw [this,w64 (by omega)]
    rw [run_next hs]
    obtain ⟨w1,w2,w3⟩:=weave_at (L:=L) (M:=M) (by omega)
    have hML : M.length = n:=by omega
    refine ih (2 * n) v' (weave L M) (by omega) (by rw [hp] at hn;rw [← hn,Nat.mul_left_comm,← Nat.mul_assoc]) r2 (by omega) (fun i hi=>?_) hT
    rw [← hp]
    rcases Nat.mod_two_eq_zero_or_one i with h|h
    · have e : i = 2 * (i / 2):=by omega
      have h1:=w2 (i / 2) (by omega)
      have h2:=r3 (i / 2) (by omega)
      rw [← e] at h1
      rw [h1,← h2]
      congr 1
      rw [← Nat.mul_assoc,Nat.mul_comm (i / 2) 2,← e]
    · have e : i = 2 * (i / 2) + 1:=by omega
      have h1:=w3 (i / 2) (by omega)
      have h2:=r4 (i / 2) (by omega)
      rw [← e] at h1 h2
      rw [h1,← h2]
def circ0 : List Pt:=[(67108864,0),(47453132,47453132),(0,67108864)]
theorem circ_start {mid : Pt → Pt → Option Pt} {T Z : List Pt} (hZ : Z.length = 1025) (h : upN mid 9 circ0 = some T) : run (step1 mid) ((((Z.set 0 (67108864,0)).set 512 (47453132,47453132)).set 1024 (0,67108864)),256) = some T:=by
  refine levels 8 2 _ circ0 (by omega) (by rfl) (by simp only [List.length_set];exact hZ) rfl (fun i hi=>?_) h
  have : i = 0 ∨ i = 1 ∨ i = 2:=by omega
  rcases this with rfl|rfl|rfl
  · rw [List.getElem?_set_ne (by decide),List.getElem?_set_ne (by decide),show 0 * (2 * 2 ^ 8) = 0 from rfl,List.getElem?_set_self (by omega)];rfl
  · rw [List.getElem?_set_ne (by decide),show 1 * (2 * 2 ^ 8) = 512 from rfl,List.getElem?_set_self (by rw [List.length_set];omega)];rfl
  · rw [show 2 * (2 * 2 ^ 8) = 1024 from rfl,List.getElem?_set_self (by rw [List.length_set,List.length_set];omega)];rfl
theorem zeros : ∃ Z : List Pt,mkI 16 1025 ((0,0) : Pt) = some Z ∧ Z.length = 1025:=by
  refine ⟨List.replicate (1025 : Int).toNat (0,0),?_,by rw [List.length_replicate];rfl⟩
  unfold mkI;rw [if_pos (by decide)]
theorem some_at {Z : List Pt} {i : Nat} (h : i < Z.length) : ∃ p q,Z[i]? = some (p,q):=⟨Z[i].1,Z[i].2,List.getElem?_eq_getElem h⟩
noncomputable def midL (p q : Pt) : Option Pt:=loop_middle p.1 p.2 q.1 q.2
theorem newCircle_l1 : loop_newCircle_l1 = step1 midL:=rfl
theorem newCircle_eq {T : List Pt} (h : upN midL 9 circ0 = some T) : loop_newCircle = some T:=by
  unfold loop_newCircle
  obtain ⟨Z,h0,hZ⟩:=zeros
  rw [h0,Option.bind_some]
  obtain ⟨p1,q1,e1⟩:=some_at (Z:=Z) (i:=0) (by omega)
  have g1 : getI Z 0 = some (p1,q1):=(getI_cast (i:=0) rfl).trans e1
  obtain ⟨p2,q2,e2⟩:=some_at (Z:=Z.set 0 (67108864,0)) (i:=512) (by rw [List.length_set];omega)
  have g2 : getI (Z.set (0 : Int).toNat (67108864,0)) 512 = some (p2,q2):=(getI_cast (i:=512) rfl).trans e2
  have g3 : getI ((Z.set (0 : Int).toNat (67108864,0)).set (512 : Int).toNat (47453132,47453132)) 0 = some (67108864,0):=by
    refine (getI_cast (i:=0) rfl).trans ?_
    show ((Z.set 0 (67108864,0)).set 512 (47453132,47453132))[0]? = _
    rw [List.getElem?_set_ne (by decide),List.getElem?_set_self (by omega)]
  obtain ⟨p4,q4,e4⟩:=some_at (Z:=(Z.set 0 (67108864,0)).set 512 (47453132,47453132)) (i:=1024) (by rw [List.length_set,List.length_set];omega)
  have g4 : getI ((Z.set (0 : Int).toNat (67108864,0)).set (512 : Int).toNat (47453132,47453132)) 1024 = some (p4,q4):=(getI_cast (i:=1024) rfl).trans e4
  have g5 : loop_direction_turned 67108864 0 = some (0,67108864):=by
    unfold loop_direction_turned
    rw [w64 (by omega)]
    rfl
  have:=circ_start hZ h
  simp only [g1,g2,g3,g5,Option.bind_some,g4,newCircle_l1]
  show (run (step1 midL) ((((Z.set 0 (67108864,0)).set 512 (47453132,47453132)).set 1024 (0,67108864)),256)).bind _ = _
  rw [this]
  rfl
end Go.Rex

open Go Go.Rex
namespace Go.Rex
set_option maxRecDepth 100000
def midF (p q : Pt) : Option Pt:=loop_middleF p.1 p.2 q.1 q.2
theorem midF_le (p q : Pt) : Le (midF p q) (midL p q):=loop_middle_le _ _ _ _
def circT : List Pt:=(upN midF 9 circ0).getD []
theorem circ_isSome : (upN midF 9 circ0).isSome = true:=by decide +kernel
theorem circ_some : upN midF 9 circ0 = some circT:=by
  obtain ⟨T,hT⟩:=Option.isSome_iff_exists.1 circ_isSome
  unfold circT
  rw [hT]
  rfl
theorem circ_len : circT.length = 1025:=by decide +kernel
theorem newCircle_T : loop_newCircle = some circT:=newCircle_eq (upN_le midF_le 9 circ0 _ circ_some)
end Go.Rex
namespace Go.Rex
end Go.Rex

namespace Go.Rex
/-! ### loops that look for the first one of a list -/
def firstOr {α ε : Type} (P : α → Bool) (ex : Nat → α → ε) (en : ε) : Nat → List α → ε
  | _,[]=>en
  | k,x :: t=>if P x = true then ex k x else firstOr P ex en (k + 1) t
theorem run_first_from {α σ ε : Type} {step : σ → Option (σ ⊕ ε)} (st : Nat → σ) (P : α → Bool) (ex : Nat → α → ε) (en : ε) :
    ∀ (xs ys : List α),(∀ (k : Nat) x,(ys ++ xs)[k]? = some x → step (st k) = some (if P x = true then .inr (ex k x) else .inl (st (k + 1)))) → step (st (ys ++ xs).length) = some (.inr en) → run step (st ys.length) = some (firstOr P ex en ys.length xs)
  | [],ys,_,he=>by rw [List.append_nil] at he;exact run_stop he
  | x :: t,ys,hs,he=>by
    have h1:=hs ys.length x (by simp)
    by_cases hp : P x = true
    · rw [if_pos hp] at h1
      rw [run_stop h1,firstOr,if_pos hp]
    · rw [if_neg hp] at h1
      rw [run_next h1,firstOr,if_neg hp]
      have:=run_first_from st P ex en t (ys ++ [x]) (fun k y hk=>hs k y (by simpa using hk)) (by simpa using he)
      simpa using this
theorem run_first {α σ ε : Type} {step : σ → Option (σ ⊕ ε)} (st : Nat → σ) (P : α → Bool) (ex : Nat → α → ε) (en : ε) (xs : List α) (hs : ∀ (k : Nat) x,xs[k]? = some x → step (st k) = some (if P x = true then .inr (ex k x) else .inl (st (k + 1)))) (he : step (st xs.length) = some (.inr en)) {s : σ} (h0 : s = st 0) : run step s = some (firstOr P ex en 0 xs):=by
  subst h0
  exact run_first_from st P ex en xs [] hs he
theorem firstOr_map {α β γ : Type} (f : β → γ) (P : α → Bool) (ex : Nat → α → β) (en : β) : ∀ (xs : List α) k,f (firstOr P ex en k xs) = firstOr P (fun k x=>f (ex k x)) (f en) k xs
  | [],_=>rfl
  | x :: t,k=>by
    unfold firstOr
    split
    · rfl
    · exact firstOr_map f P ex en t (k + 1)
theorem firstOr_all {α β : Type} (P : α → Bool) (c en : β) : ∀ (xs : List α) k,firstOr P (fun _ _=>c) en k xs = if (xs.all fun x=>!P x) = true then en else c
  | [],_=>rfl
  | x :: t,k=>by
    unfold firstOr
    rw [firstOr_all P c en t (k + 1)]
    cases h : P x<;>simp [h]
theorem bind_first {α σ ε β : Type} {step : σ → Option (σ ⊕ ε)} {s : σ} {F : ε → Option β} (st : Nat → σ) (P : α → Bool) (ex : Nat → α → ε) (en : ε) (xs : List α) (K : ε → β) (h0 : s = st 0) (hF : ∀ e, F e = some (K e)) (hs : ∀ (k : Nat) x, xs[k]? = some x → step (st k) = some (if P x = true then .inr (ex k x) else .inl (st (k + 1)))) (he : step (st xs.length) = some (.inr en)) :
    (run step s).bind F = some (firstOr P (fun k x=>K (ex k x)) (K en) 0 xs):=by
  rw [run_first st P ex en xs hs he h0,Option.bind_some,hF,firstOr_map K]
/-! ### numbers -/
theorem wsucc {k : Nat} {n : Nat} (h : k ≤ n) (hn : n ≤ 2 ^ 62) : IntKind.i64.wrap ((k : Int) + 1) = ((k + 1 : Nat) : Int):=by rw [w64 (by omega)];omega
theorem tmod_emod {x y : Int} (hy : 0 < y) : x.tmod y = if x.tmod y < 0 then x % y - y else x % y:=by
  have h1:=Int.tmod_lt_of_pos x hy
  have h2 : -y < x.tmod y:=by
    have h3:=Int.natAbs_tmod x y
    have h4 : (x.tmod y).natAbs < y.natAbs:=by rw [h3];exact Nat.mod_lt _ (by omega)
    omega
  have hdm:=Int.tmod_add_mul_tdiv x y
  split
  · have : x % y = x.tmod y + y := by
      have e : x = (x.tmod y + y) + y * (x.tdiv y - 1):=by rw [Int.mul_sub,Int.mul_one];omega
      rw [e,Int.add_mul_emod_self_left,Int.emod_eq_of_lt (by omega) (by omega)]
      rw [← e]
    omega
  · have : x % y = x.tmod y := by
      conv=>lhs;rw [← hdm]
      rw [Int.add_mul_emod_self_left,Int.emod_eq_of_lt (by omega) (by omega)]
    omega
theorem ediv_le {x y b : Int} (hy : 0 < y) (hb : 0 ≤ b) (h : -b ≤ x ∧ x ≤ b) : -b ≤ x / y ∧ x / y ≤ b:=by
  have h1:=Int.emod_add_mul_ediv x y
  have h2:=Int.emod_nonneg x (show y ≠ 0 by omega)
  have h3:=Int.emod_lt_of_pos x hy
  constructor
  · refine Int.le_ediv_of_mul_le hy ?_
    have : -b * y ≤ -b * 1:=Int.mul_le_mul_of_nonpos_left (by omega) (by omega)
    omega
  · refine Int.ediv_le_of_le_mul hy ?_
    have : b * 1 ≤ b * y:=Int.mul_le_mul_of_nonneg_left (by omega) hb
    omega
theorem tdiv_ediv {x y : Int} (hy : 0 < y) : x.tdiv y = if x.tmod y < 0 then x / y + 1 else x / y:=by
  have hdm:=Int.tmod_add_mul_tdiv x y
  have h1:=Int.emod_add_mul_ediv x y
  have h2:=tmod_emod (x:=x) hy
  refine Int.eq_of_mul_eq_mul_left (show y ≠ 0 by omega) ?_
  split
  · rename_i h
    rw [if_pos h] at h2
    rw [Int.mul_add,Int.mul_one]
    omega
  · rename_i h
    rw [if_neg h] at h2
    omega
end Go.Rex

open Go Go.Rex
namespace Go.Rex
/-! ### numbers -/
theorem lmod_eq {x y : Int} (hy : 0 < y) (hy2 : y ≤ 4611686018427387904) : loop_modulo x y = some (x % y):=by
  unfold loop_modulo
  rw [if_neg (by omega)]
  have hm:=tmod_emod (x:=x) hy
  have h2:=Int.emod_nonneg x (show y ≠ 0 by omega)
  have h3:=Int.emod_lt_of_pos x hy
  have e : (IntKind.i64.wrap (x.tmod y + y)).tmod y = x % y:=by
    rw [w64 (by split at hm<;>omega)]
    rw [Int.tmod_eq_emod_of_nonneg (by split at hm<;>omega)]
    split at hm
    · rw [hm,Int.sub_add_cancel,Int.emod_emod_of_dvd _ (Int.dvd_refl y)]
    · rw [hm,Int.add_emod_right,Int.emod_emod_of_dvd _ (Int.dvd_refl y)]
  rw [e]
theorem lfloor_eq {x y : Int} (hy : 0 < y) (hy2 : y ≤ 4611686018427387904) (hx : -4611686018427387904 ≤ x ∧ x ≤ 9223372036854775807) : loop_floor x y = some (x / y):=by
  unfold loop_floor
  rw [lmod_eq hy hy2,Option.bind_some,if_neg (by omega)]
  have h2:=Int.emod_nonneg x (show y ≠ 0 by omega)
  have h3:=Int.emod_lt_of_pos x hy
  have h4:=Int.emod_add_mul_ediv x y
  rw [w64 (x:=x - x % y) (by omega),show x - x % y = y * (x / y) by omega,Int.mul_tdiv_cancel_left _ (by omega)]
  have:=ediv_le (x:=x) (b:=9223372036854775807) hy (by omega) (by omega)
  rw [w64 (by omega)]
theorem bfloor_eq {x y : Int} (hy : 0 < y) (hx : -9223372036854775807 ≤ x ∧ x ≤ 9223372036854775807) : base_Floor x y = some (x / y):=by
  unfold base_Floor
  rw [if_neg (by omega)]
  have hb:=ediv_le (x:=x) (b:=9223372036854775807) hy (by omega) (by omega)
  have ht:=tdiv_ediv (x:=x) hy
  by_cases h : x.tmod y < 0
  · rw [if_pos h] at ht
    have hb2 : x < 0:=by
      rcases Int.lt_or_le x 0 with hx|hx
      · exact hx
      · have:=Int.tmod_nonneg y hx;omega
    have hb3 : x / y < 0:=Int.ediv_neg_of_neg_of_pos hb2 hy
    rw [if_pos (by simpa using h),ht,w64 (x:=x / y + 1) (by omega),w64 (by omega)]
    congr 1
    omega
  · rw [if_neg h] at ht
    rw [if_neg (by simpa using h),ht,w64 (by omega)]
theorem bmod_eq {x y : Int} (hy : 0 < y) (hy2 : y ≤ 4611686018427387904) : base_Mod x y = some (x % y):=by
  unfold base_Mod
  rw [if_neg (by omega)]
  have hm:=tmod_emod (x:=x) hy
  have h2:=Int.emod_nonneg x (show y ≠ 0 by omega)
  have h3:=Int.emod_lt_of_pos x hy
  by_cases h : x.tmod y < 0
  · rw [if_pos h] at hm
    rw [if_pos (by simpa using h),w64 (by omega)]
    congr 1
    omega
  · rw [if_neg h] at hm
    rw [if_neg (by simpa using h),hm]
theorem half_eq {y : Int} (hy : 0 < y) (hy2 : y ≤ 4611686018427387904) : IntKind.i64.wrap (y.tdiv 2) = y / 2:=by
  have : y.tdiv 2 = y / 2:=Int.tdiv_eq_ediv_of_nonneg (by omega)
  rw [this,w64 (by omega)]
theorem lnear_eq {x y : Int} (hy : 0 < y) (hy2 : y ≤ 1152921504606846976) (hx : -2305843009213693952 ≤ x ∧ x ≤ 2305843009213693952) : loop_nearest x y = some ((x + y / 2) / y):=by
  unfold loop_nearest
  rw [half_eq hy (by omega),w64 (by omega),lfloor_eq hy (by omega) (by omega)]
  rfl
theorem bround_eq {x y : Int} (hy : 0 < y) (hy2 : y ≤ 1152921504606846976) (hx : -2305843009213693952 ≤ x ∧ x ≤ 2305843009213693952) : ref08_round x y = some ((x + y / 2) / y):=by
  unfold ref08_round
  rw [half_eq hy (by omega),w64 (by omega),bfloor_eq hy (by omega)]
  rfl
theorem lceil_eq {x y : Int} (hy : 0 < y) (hy2 : y ≤ 1152921504606846976) (hx : -2305843009213693952 ≤ x ∧ x ≤ 2305843009213693952) : loop_ceiling x y = some (-((-x) / y)):=by
  unfold loop_ceiling
  have:=ediv_le (x:=-x) (b:=2305843009213693952) hy (by omega) (by omega)
  rw [w64 (x:=0 - x) (by omega),Int.zero_sub,lfloor_eq hy (by omega) (by omega),Option.bind_some,w64 (by omega),Int.zero_sub]
theorem bceil_eq {x y : Int} (hy : 0 < y) (hy2 : y ≤ 1152921504606846976) (hx : -2305843009213693952 ≤ x ∧ x ≤ 2305843009213693952) : base_Ceil x y = some (-((-x) / y)):=by
  unfold base_Ceil
  have:=ediv_le (x:=-x) (b:=2305843009213693952) hy (by omega) (by omega)
  rw [w64 (x:=0 - x) (by omega),Int.zero_sub,bfloor_eq hy (by omega),Option.bind_some,w64 (by omega),Int.zero_sub]
def absI (x : Int) : Int:=if -x > x then -x else x
theorem lsize_eq {x : Int} (hx : -9223372036854775807 ≤ x ∧ x ≤ 9223372036854775807) : loop_size x = some (absI x):=by
  unfold loop_size absI
  rw [w64 (x:=0 - x) (by omega),Int.zero_sub]
theorem bsize_eq {x : Int} (hx : -9223372036854775807 ≤ x ∧ x ≤ 9223372036854775807) : base_Size x = some (absI x):=by
  unfold base_Size absI
  rw [w64 (x:=0 - x) (by omega),Int.zero_sub]
theorem within_eq (a b c : Int) : base_Within a b c = some (decide (b ≤ a ∧ a ≤ c)):=by
  unfold base_Within
  by_cases h1 : b ≤ a<;>by_cases h2 : a ≤ c<;>simp [h1,h2]
end Go.Rex

open Go Go.Rex
namespace Go.Rex
set_option maxRecDepth 100000
theorem copyI {l : List Int} (h : l.length ≤ 1048576) : base_CopyInts l = some l := by
  unfold base_CopyInts appI
  rw [if_pos (by simp; omega)]
  simp
theorem copyL {l : List Int} (g : Int) (h : l.length ≤ 1048576) : ref08_Copy l g = some (l, g) := by
  unfold ref08_Copy; rw [copyI h]; rfl
theorem refuseR (b : Bool) (e : Int) : loop_refuse_c1_11f9 b e = some (if b = true then e else 0) := by
  unfold loop_refuse_c1_11f9; cases b <;> rfl
theorem withinR (n a b : Int) : loop_within n a b = some (decide (n < a ∨ n > b), 2) := by
  unfold loop_within loop_refuse
  by_cases h : n < a
  · simp [h]
  · simp [h]
theorem countedR (n m : Int) : loop_counted_c1_b585 n m = some (if n = 0 then 10 else if n > m then 8 else 0) := by
  unfold loop_counted_c1_b585 loop_refuse loop_firstError_60c4
  simp only [Option.bind_some, refuseR]
  by_cases h1 : n = 0
  · simp [h1]
  · by_cases h2 : n > m <;> simp [h1, h2]
def badTap (a b : Int) (x : Int) : Bool := decide (x < a ∨ x > b)
theorem eachR {l : List Int} (a b : Int) (h : l.length ≤ 1048576) : loop_each_c1_2344 (l.length : Int) l a b = some (if (l.all fun x => !badTap a b x) = true then 0 else 2) := by
  unfold loop_each_c1_2344
  have hb : ∀ (k : Nat) x, l[k]? = some x → loop_each_c1_2344_l1 (l.length : Int) l a b (k : Int) = some (if badTap a b x = true then .inr (.inl 2) else .inl ((k + 1 : Nat) : Int)) := by
    intro k x hx
    have hk := (List.getElem?_eq_some_iff.1 hx).1
    unfold loop_each_c1_2344_l1 loop_allWithin_c1_ea58
    have hg : getI l (k : Int) = some x := by unfold getI; rw [if_pos (by omega)]; exact hx
    rw [if_pos (by simp only [decide_eq_true_eq]; omega)]
    simp only [hg, withinR, refuseR, Option.bind_some]
    by_cases hbad : x < a ∨ x > b
    · simp [hbad, badTap]
    · simp [hbad, badTap]
      exact wsucc (n := l.length) (by omega) (by omega)
  refine (bind_first (s := (0 : Int)) (fun k => (k : Int)) (badTap a b) (fun _ _ => .inl 2) (.inr ()) l (fun e => match e with | .inl v => v | .inr _ => 0) rfl (fun e => by cases e <;> rfl) hb (by
    unfold loop_each_c1_2344_l1
    rw [if_neg (by simp)])).trans ?_
  exact congrArg some (firstOr_all (badTap a b) (2 : Int) 0 l 0)
def chkL (l : List Int) (g : Int) : Int :=
  if l.length = 0 then 10 else if l.length > 32 then 8 else if l.head? ≠ some 0 then 11 else if (l.all fun x => !badTap (-16384) 16384 x) = true then (if 0 ≤ g ∧ g ≤ 10000 then 0 else 2) else 2
theorem checkR {l : List Int} (g : Int) (h : l.length ≤ 1048576) : loop_feedback_check l g = some (chkL l g) := by
  unfold loop_feedback_check loop_counted loop_allWithin loop_each_2037 loop_firstError_2d9c
  simp only [Option.bind_some, withinR, countedR, refuseR, eachR _ _ h]
  unfold chkL
  cases l with
  | nil => rfl
  | cons x t =>
    have e0 : ¬ (x :: t).length = 0 := by simp
    have hc : loop_feedback_check_c1_431b (x :: t) g = some (if x ≠ 0 then 11 else 0) := by
      unfold loop_feedback_check_c1_431b loop_refuse
      have : getI (x :: t) 0 = some x := rfl
      simp only [this, Option.bind_some, refuseR]
      by_cases hx : x = 0 <;> simp [hx]
    generalize hn : (x :: t).length = n at *
    rw [if_neg e0]
    have e1 : ¬ ((n : Nat) : Int) = 0 := by omega
    by_cases h2 : n > 32
    · have e2 : ((n : Nat) : Int) > 32 := by omega
      simp only [e1, e2, h2, if_true, if_false]
      rfl
    · have e2 : ¬ ((n : Nat) : Int) > 32 := by omega
      simp only [e1, e2, h2, if_false, hc, Option.bind_some, List.head?_cons]
      by_cases hx : x = 0
      · subst hx
        by_cases ha : ((0 :: t).all fun x => !badTap (-16384) 16384 x) = true
        · simp only [ha, if_true]
          by_cases hg : 0 ≤ g ∧ g ≤ 10000
          · have : ¬ (g < 0 ∨ g > 10000) := by omega
            simp [hg, this]
          · have : g < 0 ∨ g > 10000 := by omega
            simp [hg, this]
        · simp [ha]
      · simp [hx]
theorem refCheckR {l : List Int} (g : Int) (h : l.length ≤ 1048576) : ref08_CheckLoop l g = some (chkL l g) := by
  unfold ref08_CheckLoop chkL
  by_cases h0 : l.length = 0
  · rw [if_pos (by simp [h0]), if_pos h0]
  · rw [if_neg (by simp only [decide_eq_true_eq]; omega), if_neg h0]
    by_cases h2 : l.length > 32
    · rw [if_pos (by simp only [decide_eq_true_eq]; omega), if_pos h2]
    · rw [if_neg (by simp only [decide_eq_true_eq]; omega), if_neg h2]
      cases l with
      | nil => simp at h0
      | cons x t =>
        have hg0 : getI (x :: t) 0 = some x := rfl
        rw [hg0, Option.bind_some, List.head?_cons]
        by_cases hx : x = 0
        · subst hx
          rw [if_neg (by simp), if_neg (by simp)]
          have hb : ∀ (k : Nat) y, (0 :: t)[k]? = some y → ref08_CheckLoop_l1 (0 :: t) (k : Int) = some (if badTap (-16384) 16384 y = true then .inr (.inl ()) else .inl ((k + 1 : Nat) : Int)) := by
            intro k y hy
            have hk := (List.getElem?_eq_some_iff.1 hy).1
            unfold ref08_CheckLoop_l1
            have hg : getI (0 :: t) (k : Int) = some y := by unfold getI; rw [if_pos (by omega)]; exact hy
            rw [if_pos (by simp only [decide_eq_true_eq]; omega)]
            simp only [hg, within_eq, Option.bind_some]
            by_cases hbad : y < -16384 ∨ y > 16384
            · have : ¬ (-16384 ≤ y ∧ y ≤ 16384) := by omega
              simp [hbad, badTap, this]
            · have : -16384 ≤ y ∧ y ≤ 16384 := by omega
              simp [hbad, badTap, this]
              exact wsucc (n := (0 :: t).length) (by omega) (by omega)
          refine (bind_first (s := (0 : Int)) (fun k => (k : Int)) (badTap (-16384) 16384) (fun _ _ => .inl ()) (.inr ()) (0 :: t) (fun e => match e with | .inl _ => 2 | .inr _ => if 0 ≤ g ∧ g ≤ 10000 then 0 else 2) rfl (fun e => by
            cases e with
            | inl _ => rfl
            | inr _ =>
              simp only [within_eq, Option.bind_some, decide_eq_true_eq]
              by_cases hg : 0 ≤ g ∧ g ≤ 10000 <;> simp [hg]) hb (by
            unfold ref08_CheckLoop_l1
            rw [if_neg (by simp)])).trans ?_
          exact congrArg some (firstOr_all (badTap (-16384) 16384) (2 : Int) (if 0 ≤ g ∧ g ≤ 10000 then 0 else 2) (0 :: t) 0)
        · rw [if_pos (by simpa using hx), if_pos (by simpa using hx)]
/-- a loop over a list that gathers -/
theorem run_fold {α β σ ε : Type} {step : σ → Option (σ ⊕ ε)} (st : Nat → β → σ) (ex : β → ε) (f : β → α → β) (Inv : Nat → β → Prop) (l : List α)
    (hs : ∀ (k : Nat) (x : α) (b : β), l[k]? = some x → Inv k b → step (st k b) = some (.inl (st (k + 1) (f b x))) ∧ Inv (k + 1) (f b x)) (he : ∀ b, Inv l.length b → step (st l.length b) = some (.inr (ex b))) {b0 : β} (h0 : Inv 0 b0) :
    run step (st 0 b0) = some (ex (l.foldl f b0)) ∧ Inv l.length (l.foldl f b0) := by
  suffices H : ∀ (t : List α) (k : Nat) (b : β), l.drop k = t → k ≤ l.length → Inv k b → run step (st k b) = some (ex (t.foldl f b)) ∧ Inv l.length (t.foldl f b) from H l 0 b0 rfl (Nat.zero_le _) h0
  intro t
  induction t with
  | nil =>
    intro k b hk hkl hI
    have : k = l.length := by
      have := congrArg List.length hk
      simp at this
      omega
    subst this
    exact ⟨run_stop (he b hI), hI⟩
  | cons x t ih =>
    intro k b hk hkl hI
    have hx : l[k]? = some x := by
      have := congrArg (fun l => l[0]?) hk
      simpa using this
    have hlt := (List.getElem?_eq_some_iff.1 hx).1
    obtain ⟨h1, h2⟩ := hs k x b hx hI
    have ht : l.drop (k + 1) = t := by
      have := congrArg List.tail hk
      simpa using this
    obtain ⟨h3, h4⟩ := ih (k + 1) (f b x) ht (by omega) h2
    exact ⟨by rw [run_next h1, h3]; rfl, h4⟩
theorem chk_parts {l : List Int} {g : Int} (h : chkL l g = 0) : 1 ≤ l.length ∧ l.length ≤ 32 ∧ (∀ x ∈ l, -16384 ≤ x ∧ x ≤ 16384) ∧ 0 ≤ g ∧ g ≤ 10000 ∧ l.head? = some 0 := by
  unfold chkL at h
  split at h
  · cases h
  · split at h
    · cases h
    · split at h
      · cases h
      · split at h
        · split at h
          · rename_i h1 h2 h3 h4 h5
            refine ⟨by omega, by omega, fun x hx => ?_, h5.1, h5.2, by simpa using h3⟩
            have := List.all_eq_true.1 h4 x hx
            simp only [badTap, Bool.not_eq_true', decide_eq_false_iff_not] at this
            omega
          · cases h
        · cases h
theorem absI_le {x b : Int} (h : -b ≤ x ∧ x ≤ b) : 0 ≤ absI x ∧ absI x ≤ b := by unfold absI; split <;> omega
theorem mul_le_nn {a b A B : Int} (ha : 0 ≤ a ∧ a ≤ A) (hb : 0 ≤ b ∧ b ≤ B) : 0 ≤ a * b ∧ a * b ≤ A * B := ⟨Int.mul_nonneg ha.1 hb.1, Int.mul_le_mul ha.2 hb.2 hb.1 (by omega)⟩
end Go.Rex

open Go Go.Rex
namespace Go.Rex
/-! ### unit numbers -/
def turn (d : Int × Int) : Int × Int:=(-d.2,d.1)
def turnN : Nat → Int × Int → Int × Int
  | 0,d=>d
  | k + 1,d=>turnN k (turn d)
def Sm (B : Int) (d : Int × Int) : Prop:=-B ≤ d.1 ∧ d.1 ≤ B ∧ -B ≤ d.2 ∧ d.2 ≤ B
theorem Sm.turn {B : Int} {d : Int × Int} (h : Sm B d) : Sm B (turn d):=by
  obtain ⟨h1,h2,h3,h4⟩:=h
  exact ⟨by simp only [Rex.turn];omega,by simp only [Rex.turn];omega,h1,h2⟩
theorem Sm.turnN {B : Int} : ∀ {k : Nat} {d : Int × Int},Sm B d → Sm B (turnN k d)
  | 0,d,h=>h
  | k + 1,d,h=>Sm.turnN (k:=k) (d:=Rex.turn d) (Sm.turn h)
theorem dir_l1 (p : Int) : loop_circle_direction_l1 p = ref08_Unit_l1 p:=by
  funext ⟨x,y,i⟩
  rfl
theorem turns {p : Int} {q : Nat} (hq : IntKind.i64.wrap (p.tdiv 1024) = (q : Int)) (hq2 : q ≤ 4) {B : Int} (hB : B ≤ 2 ^ 40) : ∀ (k i : Nat) (d : Int × Int),q - i = k → i ≤ q → Sm B d → run (ref08_Unit_l1 p) (d.1,d.2,(i : Int)) = some (turnN (q - i) d):=by
  intro k
  induction k with
  | zero =>
    intro i d hk hi hd
    obtain rfl : i = q:=by omega
    rw [run_stop (e:=(d.1,d.2))]
    · rw [Nat.sub_self];rfl
    · unfold ref08_Unit_l1
      simp only
      rw [if_neg (by rw [hq];simp)]
  | succ k ih =>
    intro i d hk hi hd
    obtain ⟨h1,h2,h3,h4⟩:=hd
    have hs : ref08_Unit_l1 p (d.1,d.2,(i : Int)) = some (.inl ((turn d).1,(turn d).2,((i + 1 : Nat) : Int))):=by
      unfold ref08_Unit_l1
      simp only
      rw [if_pos (by rw [hq];simp only [decide_eq_true_eq];omega),w64 (by omega),w64 (by omega)]
      simp only [turn,Int.zero_sub]
      rfl
    rw [run_next hs,ih (i + 1) (turn d) (by omega) (by omega) (Sm.turn ⟨h1,h2,h3,h4⟩),show q - i = (q - (i + 1)) + 1 by omega]
    rfl
def unitV (d : Int × Int) (z : Bool) : Int × Int × Int:=((d.1 + 32) / 64,(d.2 + 32) / 64,if z then 0 else 2)
theorem unit_both {T : List (Int × Int)} {B : Int} (hB : 0 ≤ B ∧ B ≤ 2 ^ 40) (hT : ∀ e ∈ T, Sm B e) (hl : 1024 ≤ T.length) {m : Int} {p : Nat} (hp : (m % 4096) = (p : Int)) :
    ∃ d,T[p % 1024]? = some d ∧ loop_circle_unit T m = some (unitV (turnN (p / 1024) d) (decide (p % 1024 = 0))) ∧ ref08_Unit T m = some (unitV (turnN (p / 1024) d) (decide (p % 1024 = 0))):=by
  have hp4 : p < 4096:=by have:=Int.emod_lt_of_pos m (show (0 : Int) < 4096 by decide);omega
  obtain ⟨d,hd⟩ : ∃ d,T[p % 1024]? = some d:=⟨_,List.getElem?_eq_getElem (by omega)⟩
  have hdS:=hT d (List.mem_of_getElem? hd)
  have tm : ((p : Int)).tmod 1024 = ((p % 1024 : Nat) : Int):=by
    rw [Int.tmod_eq_emod_of_nonneg (by omega)];rfl
  have td : IntKind.i64.wrap (((p : Int)).tdiv 1024) = ((p / 1024 : Nat) : Int):=by
    rw [Int.tdiv_eq_ediv_of_nonneg (by omega),w64 (by omega)];rfl
  have hg : getI T ((p : Int).tmod 1024) = some d:=by
    rw [tm];unfold getI;rw [if_pos (by omega)];exact hd
  have hrun : run (ref08_Unit_l1 (p : Int)) (d.1,d.2,0) = some (turnN (p / 1024) d):=turns td (by omega) hB.2 _ 0 d rfl (Nat.zero_le _) hdS
  have hS : Sm B (turnN (p / 1024) d):=hdS.turnN
  obtain ⟨s1,s2,s3,s4⟩:=hS
  have mm : m.tmod 1024 = 0 ↔ p % 1024 = 0:=by
    have h1:=tmod_emod (x:=m) (y:=1024) (by decide)
    have h2:=Int.emod_nonneg m (show (1024 : Int) ≠ 0 by decide)
    have h3:=Int.emod_lt_of_pos m (show (0 : Int) < 1024 by decide)
    have h4 : m % 1024 = (m % 4096) % 1024:=by omega
    have h6 : -1024 < m.tmod 1024:=by
      have h3:=Int.natAbs_tmod m 1024
      have h4 : (m.tmod 1024).natAbs < (1024 : Int).natAbs:=by rw [h3];exact Nat.mod_lt _ (by decide)
      have h5 : (1024 : Int).natAbs = 1024:=rfl
      omega
    generalize m.tmod 1024 = t at *
    constructor
    · intro h
      subst h
      simp at h1
      omega
    · intro h
      split at h1<;>omega
  refine ⟨d,hd,?_,?_⟩
  · unfold loop_circle_unit loop_circle_direction
    rw [lmod_eq (by decide) (by decide),Option.bind_some,hp,hg,Option.bind_some,dir_l1]
    show (((run (ref08_Unit_l1 (p : Int)) (d.1,d.2,0)).bind _).bind _) = _
    rw [hrun,Option.bind_some,Option.bind_some]
    show ((loop_nearest (turnN (p / 1024) d).1 64).bind _) = _
    rw [lnear_eq (by decide) (by decide) (by omega),Option.bind_some,lnear_eq (by decide) (by decide) (by omega),Option.bind_some]
    unfold unitV
    by_cases h : p % 1024 = 0
    · rw [if_pos (by rw [decide_eq_true_eq];exact mm.2 h)];simp [h]
    · rw [if_neg (by rw [decide_eq_true_eq];exact fun hh=>h (mm.1 hh))];simp [h]
  · unfold ref08_Unit
    rw [bmod_eq (by decide) (by decide),Option.bind_some,hp,hg,Option.bind_some]
    show ((run (ref08_Unit_l1 (p : Int)) (d.1,d.2,0)).bind _) = _
    rw [hrun,Option.bind_some]
    simp only [bround_eq (x:=(turnN (p / 1024) d).1) (y:=64) (by decide) (by decide) (by omega),bround_eq (x:=(turnN (p / 1024) d).2) (y:=64) (by decide) (by decide) (by omega),Option.bind_some]
    unfold unitV
    by_cases h : p % 1024 = 0
    · rw [if_pos (by rw [decide_eq_true_eq,tm];omega)];simp [h]
    · rw [if_neg (by rw [decide_eq_true_eq,tm];omega)];simp [h]
end Go.Rex

open Go Go.Rex
namespace Go.Rex
set_option maxRecDepth 100000
def base_Root_l1F (v1 : Int) : (Int × Int) → Option ((Int × Int) ⊕ ((Int))):=fun (v3,v4) =>
  if (decide (v4 > 0)) = true then
    (if (decide ((IntKind.i64.wrap ((IntKind.i64.wrap (v3 + v4)) * (IntKind.i64.wrap (v3 + v4)))) ≤ v1)) = true then
      (some (.inl ((IntKind.i64.wrap (v3 + v4)),(IntKind.i64.wrap (v4.tdiv 2)))))
    else
      (some (.inl (v3,(IntKind.i64.wrap (v4.tdiv 2))))))
  else
    (some (.inr v3))
theorem base_Root_l1_le (v1 : Int) : ∀ s,Le (base_Root_l1F v1 s) (base_Root_l1 v1 s):=by
  intro s
  obtain ⟨v3,v4⟩:=s
  unfold base_Root_l1F base_Root_l1
  try dsimp only
  refine Le.ite ?_ ?_
  refine Le.ite ?_ ?_
  exact Le.refl _
  exact Le.refl _
  exact Le.refl _
def base_RootF (v1 : Int) : Option (Int) :=
  (runF (base_Root_l1F v1) 100000 (0,1073741824)).bind fun v6 =>
  some (v6)
theorem base_Root_le (v1 : Int) : Le (base_RootF v1) (base_Root v1):=by
  unfold base_RootF base_Root
  refine Le.bind ?_ ?_
  (first|(refine Le.run ?_;intro s;apply base_Root_l1_le)|exact Le.refl _)
  intro v6
  try dsimp only
  exact Le.refl _
def base_FloorF (v1 : Int) (v2 : Int) : Option (Int) :=
  if v2 = 0 then none else
  (if (decide ((v1.tmod v2) < 0)) = true then
    (some ((IntKind.i64.wrap ((IntKind.i64.wrap (v1.tdiv v2)) - 1))))
  else
    (some ((IntKind.i64.wrap (v1.tdiv v2)))))
theorem base_Floor_le (v1 : Int) (v2 : Int) : Le (base_FloorF v1 v2) (base_Floor v1 v2):=by
  unfold base_FloorF base_Floor
  refine Le.ite (Le.refl _) ?_
  refine Le.ite ?_ ?_
  exact Le.refl _
  exact Le.refl _
def ref08_middleF (v1 : Int) (v2 : Int) (v3 : Int) (v4 : Int) : Option (Int × Int) :=
  (base_RootF (IntKind.i64.wrap ((IntKind.i64.wrap ((IntKind.i64.wrap (v1 + v3)) * (IntKind.i64.wrap (v1 + v3)))) + (IntKind.i64.wrap ((IntKind.i64.wrap (v2 + v4)) * (IntKind.i64.wrap (v2 + v4))))))).bind fun v7 =>
  (base_FloorF (IntKind.i64.wrap ((IntKind.i64.wrap ((IntKind.i64.wrap (2 * (IntKind.i64.wrap (v1 + v3)))) * 67108864)) + v7)) (IntKind.i64.wrap (2 * v7))).bind fun v8 =>
  (base_FloorF (IntKind.i64.wrap ((IntKind.i64.wrap ((IntKind.i64.wrap (2 * (IntKind.i64.wrap (v2 + v4)))) * 67108864)) + v7)) (IntKind.i64.wrap (2 * v7))).bind fun v9 =>
  some (v8,v9)
theorem ref08_middle_le (v1 : Int) (v2 : Int) (v3 : Int) (v4 : Int) : Le (ref08_middleF v1 v2 v3 v4) (ref08_middle v1 v2 v3 v4):=by
  unfold ref08_middleF ref08_middle
  refine Le.bind ?_ ?_
  (first|(apply base_Root_le)|exact Le.refl _)
  intro v7
  try dsimp only
  refine Le.bind ?_ ?_
  (first|(apply base_Floor_le)|exact Le.refl _)
  intro v8
  try dsimp only
  refine Le.bind ?_ ?_
  (first|(apply base_Floor_le)|exact Le.refl _)
  intro v9
  try dsimp only
  exact Le.refl _
end Go.Rex

open Go Go.Rex
namespace Go.Rex
set_option maxRecDepth 100000
/-! ### the table of the reference is the circle -/
def midRF (p q : Pt) : Option Pt:=ref08_middleF p.1 p.2 q.1 q.2
noncomputable def midR (p q : Pt) : Option Pt:=ref08_middle p.1 p.2 q.1 q.2
theorem midRF_le (p q : Pt) : Le (midRF p q) (midR p q):=ref08_middle_le _ _ _ _
theorem circ_same : upN midRF 9 circ0 = upN midF 9 circ0:=by decide +kernel
theorem table_l1 : ref08_Table_l1 = step1 midR:=by
  funext ⟨v,a⟩
  show (if decide (a ≥ 1) = true then _ else _) = (if decide (a > 0) = true then _ else _)
  have : decide (a ≥ 1) = decide (a > 0):=by
    by_cases h : a > 0
    · rw [decide_eq_true h,decide_eq_true (by omega)]
    · rw [decide_eq_false h,decide_eq_false (by omega)]
  rw [this]
  rfl
theorem table_eq {T : List Pt} (h : upN midR 9 circ0 = some T) : ref08_Table = some T:=by
  unfold ref08_Table
  obtain ⟨Z,h0,hZ⟩:=zeros
  rw [h0,Option.bind_some]
  obtain ⟨p1,q1,e1⟩:=some_at (Z:=Z) (i:=0) (by omega)
  have g1 : getI Z 0 = some (p1,q1):=(getI_cast (i:=0) rfl).trans e1
  obtain ⟨p2,q2,e2⟩:=some_at (Z:=Z.set 0 (67108864,0)) (i:=512) (by rw [List.length_set];omega)
  have g2 : getI (Z.set (0 : Int).toNat (67108864,0)) 512 = some (p2,q2):=(getI_cast (i:=512) rfl).trans e2
  obtain ⟨p4,q4,e4⟩:=some_at (Z:=(Z.set 0 (67108864,0)).set 512 (47453132,47453132)) (i:=1024) (by rw [List.length_set,List.length_set];omega)
  have g4 : getI ((Z.set (0 : Int).toNat (67108864,0)).set (512 : Int).toNat (47453132,47453132)) 1024 = some (p4,q4):=(getI_cast (i:=1024) rfl).trans e4
  have:=circ_start hZ h
  simp only [g1,g2,Option.bind_some,g4,table_l1]
  show (run (step1 midR) ((((Z.set 0 (67108864,0)).set 512 (47453132,47453132)).set 1024 (0,67108864)),256)).bind _ = _
  rw [this]
  rfl
theorem table_T : ref08_Table = some circT:=table_eq (upN_le midRF_le 9 circ0 _ (circ_same.trans circ_some))
def smB (d : Int × Int) : Bool:=decide (-134217728 ≤ d.1 ∧ d.1 ≤ 134217728 ∧ -134217728 ≤ d.2 ∧ d.2 ≤ 134217728)
theorem circ_smB : circT.all smB = true:=by decide +kernel
end Go.Rex

open Go Go.Rex
namespace Go.Rex
set_option maxRecDepth 100000
theorem circ_sm : ∀ e ∈ circT, Sm 134217728 e := fun e he => by
  have := List.all_eq_true.1 circ_smB e he
  simpa [smB, Sm] using this
theorem mul_bd {a b A B : Int} (ha : -A ≤ a ∧ a ≤ A) (hb : -B ≤ b ∧ b ≤ B) : -(A * B) ≤ a * b ∧ a * b ≤ A * B := by
  have h1 := Int.mul_nonneg (show 0 ≤ A - a by omega) (show 0 ≤ B + b by omega)
  have h2 := Int.mul_nonneg (show 0 ≤ A + a by omega) (show 0 ≤ B - b by omega)
  have h3 := Int.mul_nonneg (show 0 ≤ A - a by omega) (show 0 ≤ B - b by omega)
  have h4 := Int.mul_nonneg (show 0 ≤ A + a by omega) (show 0 ≤ B + b by omega)
  rw [Int.sub_mul, Int.mul_add, Int.mul_add] at h1
  rw [Int.add_mul, Int.mul_sub, Int.mul_sub] at h2
  rw [Int.sub_mul, Int.mul_sub, Int.mul_sub] at h3
  rw [Int.add_mul, Int.mul_add, Int.mul_add] at h4
  omega
theorem tmod0 {x y : Int} (hy : 0 < y) : x.tmod y = 0 ↔ x % y = 0 := by
  rw [← Int.dvd_iff_tmod_eq_zero, ← Int.dvd_iff_emod_eq_zero]
noncomputable def uV (m : Int) : Int × Int × Int := unitV (turnN ((m % 4096).toNat / 1024) (circT.getD ((m % 4096).toNat % 1024) (0, 0))) (decide ((m % 4096).toNat % 1024 = 0))
theorem uV_both (m : Int) : loop_circle_unit circT m = some (uV m) ∧ ref08_Unit circT m = some (uV m) ∧ (-2097153 ≤ (uV m).1 ∧ (uV m).1 ≤ 2097153) ∧ (-2097153 ≤ (uV m).2.1 ∧ (uV m).2.1 ≤ 2097153) ∧ 0 ≤ (uV m).2.2 ∧ (uV m).2.2 ≤ 2 := by
  obtain ⟨p, hp⟩ : ∃ p : Nat, m % 4096 = (p : Int) := ⟨(m % 4096).toNat, by have := Int.emod_nonneg m (show (4096 : Int) ≠ 0 by decide); omega⟩
  obtain ⟨d, hd, u1, u2⟩ := unit_both (B := 134217728) (by decide) circ_sm (by rw [circ_len]; decide) hp
  have e : uV m = unitV (turnN (p / 1024) d) (decide (p % 1024 = 0)) := by
    unfold uV
    rw [hp, Int.toNat_natCast, List.getD_eq_getElem?_getD, hd]
    rfl
  rw [e]
  obtain ⟨s1, s2, s3, s4⟩ := (circ_sm d (List.mem_of_getElem? hd)).turnN (k := p / 1024)
  refine ⟨u1, u2, ?_, ?_, ?_⟩
  · simp only [unitV]; omega
  · simp only [unitV]; omega
  · simp only [unitV]; split <;> decide
abbrev Acc := Int × Int × Int × Nat
noncomputable def accF (m : Int) (b : Acc) (x : Int) : Acc := (b.1 + x * (uV (-m * b.2.2.2)).1, b.2.1 + x * (uV (-m * b.2.2.2)).2.1, b.2.2.1 + absI x * (uV (-m * b.2.2.2)).2.2, b.2.2.2 + 1)
def accI (k : Nat) (b : Acc) : Prop := b.2.2.2 = k ∧ (-(34359754752 * (k : Int)) ≤ b.1 ∧ b.1 ≤ 34359754752 * (k : Int)) ∧ (-(34359754752 * (k : Int)) ≤ b.2.1 ∧ b.2.1 ≤ 34359754752 * (k : Int)) ∧ (0 ≤ b.2.2.1 ∧ b.2.2.1 ≤ 32768 * (k : Int))
theorem acc_step {m x : Int} {k : Nat} {b : Acc} (hx : -16384 ≤ x ∧ x ≤ 16384) (hI : accI k b) : accI (k + 1) (accF m b x) := by
  obtain ⟨h1, h2, h3, h4⟩ := hI
  obtain ⟨_, _, u1, u2, u3, u4⟩ := uV_both (-m * b.2.2.2)
  have m1 := mul_bd hx u1
  have m2 := mul_bd hx u2
  have m3 := mul_le_nn (absI_le hx) (show 0 ≤ (uV (-m * b.2.2.2)).2.2 ∧ (uV (-m * b.2.2.2)).2.2 ≤ 2 from ⟨u3, u4⟩)
  refine ⟨by simp only [accF]; omega, ⟨?_, ?_⟩, ⟨?_, ?_⟩, ?_, ?_⟩ <;> simp only [accF] <;> omega
theorem val_run {l : List Int} {m : Int} (hl : l.length ≤ 32) (hm : -1000000 ≤ m ∧ m ≤ 1000000) (hx : ∀ x ∈ l, -16384 ≤ x ∧ x ≤ 16384) :
    ∃ X Y R, run (loop_plot_value_l1 l circT m) (0, 0, 0, 0) = some (X, Y, R) ∧ run (ref08_Value_l1 circT l m) (0, 0, 0, 0) = some (X, Y, R) ∧ (-1099512152064 ≤ X ∧ X ≤ 1099512152064) ∧ (-1099512152064 ≤ Y ∧ Y ≤ 1099512152064) ∧ 0 ≤ R ∧ R ≤ 1048576 := by
  have w0 : IntKind.i64.wrap (0 - m) = -m := by rw [w64 (by omega)]; omega
  have pre : ∀ (k : Nat) (x : Int) (b : Acc), l[k]? = some x → accI k b → (-16384 ≤ x ∧ x ≤ 16384) ∧ k < l.length ∧ getI l (k : Int) = some x ∧ IntKind.i64.wrap (IntKind.i64.wrap (0 - m) * (k : Int)) = -m * (k : Int) ∧
      IntKind.i64.wrap (b.1 + IntKind.i64.wrap (x * (uV (-m * (k : Int))).1)) = (accF m b x).1 ∧ IntKind.i64.wrap (b.2.1 + IntKind.i64.wrap (x * (uV (-m * (k : Int))).2.1)) = (accF m b x).2.1 ∧ IntKind.i64.wrap (b.2.2.1 + IntKind.i64.wrap (absI x * (uV (-m * (k : Int))).2.2)) = (accF m b x).2.2.1 := by
    intro k x b hk hI
    have hlt := (List.getElem?_eq_some_iff.1 hk).1
    have hx' := hx x (List.mem_of_getElem? hk)
    obtain ⟨h1, h2, h3, h4⟩ := hI
    obtain ⟨_, _, u1, u2, u3, u4⟩ := uV_both (-m * (k : Int))
    have m1 := mul_bd hx' u1
    have m2 := mul_bd hx' u2
    have m3 := mul_le_nn (absI_le hx') (show 0 ≤ (uV (-m * (k : Int))).2.2 ∧ (uV (-m * (k : Int))).2.2 ≤ 2 from ⟨u3, u4⟩)
    have m4 := mul_bd (a := -m) (b := (k : Int)) (A := 1000000) (B := 32) (by omega) (by omega)
    refine ⟨hx', hlt, by unfold getI; rw [if_pos (by omega)]; exact hk, by rw [w0, w64 (by omega)], ?_, ?_, ?_⟩
    · rw [w64 (x := x * _) (by omega), w64 (by omega)]; simp only [accF, h1]
    · rw [w64 (x := x * _) (by omega), w64 (by omega)]; simp only [accF, h1]
    · rw [w64 (x := absI x * _) (by omega), w64 (by omega)]; simp only [accF, h1]
  have r1 := run_fold (step := loop_plot_value_l1 l circT m) (fun k (b : Acc) => (b.1, b.2.1, b.2.2.1, (k : Int))) (fun b => (b.1, b.2.1, b.2.2.1)) (accF m) accI l (fun k x b hk hI => by
    obtain ⟨p1, p2, p3, p4, p5, p6, p7⟩ := pre k x b hk hI
    refine ⟨?_, acc_step p1 hI⟩
    unfold loop_plot_value_l1
    simp only
    rw [if_pos (by simp only [decide_eq_true_eq]; omega), p3, Option.bind_some, p4, (uV_both (-m * (k : Int))).1, Option.bind_some]
    simp only [lsize_eq (x := x) (by omega), Option.bind_some]
    rw [p5, p6, p7, wsucc (n := l.length) (by omega) (by omega)]) (fun b hI => by
    unfold loop_plot_value_l1
    simp only
    rw [if_neg (by simp)]) (b0 := (0, 0, 0, 0)) ⟨rfl, by simp, by simp, by simp⟩
  have r2 := run_fold (step := ref08_Value_l1 circT l m) (fun k (b : Acc) => (b.1, b.2.1, b.2.2.1, (k : Int))) (fun b => (b.1, b.2.1, b.2.2.1)) (accF m) accI l (fun k x b hk hI => by
    obtain ⟨p1, p2, p3, p4, p5, p6, p7⟩ := pre k x b hk hI
    refine ⟨?_, acc_step p1 hI⟩
    unfold ref08_Value_l1
    simp only
    rw [if_pos (by simp only [decide_eq_true_eq]; omega), p4, (uV_both (-m * (k : Int))).2.1, Option.bind_some]
    simp only [p3, bsize_eq (x := x) (by omega), Option.bind_some]
    rw [p5, p6, p7, wsucc (n := l.length) (by omega) (by omega)]) (fun b hI => by
    unfold ref08_Value_l1
    simp only
    rw [if_neg (by simp)]) (b0 := (0, 0, 0, 0)) ⟨rfl, by simp, by simp, by simp⟩
  obtain ⟨_, i2, i3, i4⟩ := r1.2
  exact ⟨_, _, _, r1.1, r2.1, by omega, by omega, by omega, by omega⟩
theorem valR {l : List Int} {g m : Int} (h : chkL l g = 0) (hm : -1000000 ≤ m ∧ m ≤ 1000000) : ∃ x y r, loop_plot_value l g circT m = some (x, y, r) ∧ ref08_Value circT l g m = some (x, y, r) ∧ (-1099511627776 ≤ x ∧ x ≤ 1099511627776) ∧ (-1099511627776 ≤ y ∧ y ≤ 1099511627776) ∧ 0 ≤ r ∧ r ≤ 1099511627776 := by
  obtain ⟨h1, h2, h3, h4, h5, _⟩ := chk_parts h
  obtain ⟨X, Y, R, r1, r2, bX, bY, bR⟩ := val_run h2 hm h3
  have m1 := mul_bd (a := X) (b := g) (A := 1099512152064) (B := 10000) bX (by omega)
  have m2 := mul_bd (a := Y) (b := g) (A := 1099512152064) (B := 10000) bY (by omega)
  have m3 := mul_le_nn (a := R) (b := g) (A := 1048576) (B := 10000) bR ⟨h4, h5⟩
  unfold loop_plot_value ref08_Value
  rw [r1, r2, Option.bind_some, Option.bind_some]
  simp only [Int.mul_comm g]
  rw [w64 (x := X * g) (by omega), w64 (x := Y * g) (by omega), w64 (x := R * g) (by omega)]
  generalize X * g = x at *
  generalize Y * g = y at *
  generalize R * g = r at *
  rw [lnear_eq (x := x) (by decide) (by decide) (by omega), lnear_eq (x := y) (by decide) (by decide) (by omega), lceil_eq (x := r) (by decide) (by decide) (by omega)]
  rw [bround_eq (x := x) (by decide) (by decide) (by omega), bround_eq (x := y) (by decide) (by decide) (by omega), bceil_eq (x := r) (by decide) (by decide) (by omega), bmod_eq (x := x) (by decide) (by decide), bmod_eq (x := y) (by decide) (by decide)]
  simp only [Option.bind_some]
  have c1 := tmod0 (x := x) (y := 16384000) (by decide)
  have c2 := tmod0 (x := y) (y := 16384000) (by decide)
  have hc : 0 ≤ -((-r) / 16384000) ∧ -((-r) / 16384000) ≤ 1000000000 := by omega
  have hx' : -1099511627776 ≤ (x + 16384000 / 2) / 16384000 ∧ (x + 16384000 / 2) / 16384000 ≤ 1099511627776 := by omega
  have hy' : -1099511627776 ≤ (y + 16384000 / 2) / 16384000 ∧ (y + 16384000 / 2) / 16384000 ≤ 1099511627776 := by omega
  generalize -((-r) / 16384000) = c at *
  generalize (x + 16384000 / 2) / 16384000 = x' at *
  generalize (y + 16384000 / 2) / 16384000 = y' at *
  rw [w64 (x := c + 1) (by omega)]
  by_cases d1 : x % 16384000 = 0
  · have d1' := c1.2 d1
    by_cases d2 : y % 16384000 = 0
    · have d2' := c2.2 d2
      exact ⟨x', y', c, by simp [d1', d2'], by simp [d1, d2], hx', hy', by omega, by omega⟩
    · have d2' : ¬ y.tmod 16384000 = 0 := fun hh => d2 (c2.1 hh)
      exact ⟨x', y', c + 1, by simp [d1', d2'], by simp [d1, d2], hx', hy', by omega, by omega⟩
  · have d1' : ¬ x.tmod 16384000 = 0 := fun hh => d1 (c1.1 hh)
    exact ⟨x', y', c + 1, by simp [d1'], by simp [d1], hx', hy', by omega, by omega⟩
theorem sway_l1 (l : List Int) : loop_plot_sway_l1 l = ref08_Arc_l1 l := rfl
abbrev Sw := Int × Nat
noncomputable def swF (b : Sw) (x : Int) : Sw := (b.1 + (b.2 : Int) * absI x, b.2 + 1)
theorem sway_run {l : List Int} (hl : l.length ≤ 32) (hx : ∀ x ∈ l, -16384 ≤ x ∧ x ≤ 16384) : ∃ S, run (ref08_Arc_l1 l) (0, 0) = some S ∧ 0 ≤ S ∧ S ≤ 16252928 := by
  have := run_fold (step := ref08_Arc_l1 l) (fun k (b : Sw) => (b.1, (k : Int))) (fun b => b.1) swF (fun k b => b.2 = k ∧ k ≤ 32 ∧ 0 ≤ b.1 ∧ b.1 ≤ 507904 * (k : Int)) l (fun k x b hk hI => by
    have hlt := (List.getElem?_eq_some_iff.1 hk).1
    have hx' := hx x (List.mem_of_getElem? hk)
    obtain ⟨h1, h2, h3, h4⟩ := hI
    have m1 := mul_le_nn (a := (b.2 : Int)) (A := 31) (show 0 ≤ (b.2 : Int) ∧ (b.2 : Int) ≤ 31 by omega) (absI_le hx')
    refine ⟨?_, by simp only [swF]; omega, by omega, by simp only [swF]; omega, by simp only [swF]; omega⟩
    unfold ref08_Arc_l1
    have hg : getI l (k : Int) = some x := by unfold getI; rw [if_pos (by omega)]; exact hk
    simp only
    rw [if_pos (by simp only [decide_eq_true_eq]; omega), hg, Option.bind_some, bsize_eq (by omega), Option.bind_some]
    rw [← h1, w64 (x := (b.2 : Int) * absI x) (by omega), w64 (x := b.1 + _) (by omega), wsucc (n := l.length) (by omega) (by omega)]
    simp only [swF, h1]) (fun b hI => by
    unfold ref08_Arc_l1
    simp only
    rw [if_neg (by simp)]) (b0 := (0, 0)) ⟨rfl, by omega, by simp, by simp⟩
  obtain ⟨r1, h1, h2, h3, h4⟩ := this
  exact ⟨_, r1, h3, by omega⟩
theorem arcR (a b : Int) : loop_onHalf_c1_eebc a b = some (if 0 ≤ a ∧ a ≤ 2048 ∧ 0 ≤ b ∧ b ≤ 2048 then (if a > b then 9 else 0) else 2) ∧ ref08_ArcErr a b = some (if 0 ≤ a ∧ a ≤ 2048 ∧ 0 ≤ b ∧ b ≤ 2048 then (if a > b then 9 else 0) else 2) := by
  constructor
  · unfold loop_onHalf_c1_eebc loop_refuse loop_firstError_f4c9
    simp only [withinR, refuseR, Option.bind_some]
    by_cases h1 : 0 ≤ a ∧ a ≤ 2048
    · have n1 : ¬ (a < 0 ∨ a > 2048) := by omega
      by_cases h2 : 0 ≤ b ∧ b ≤ 2048
      · have n2 : ¬ (b < 0 ∨ b > 2048) := by omega
        by_cases h3 : a > b <;> simp [h1, h2, n1, n2, h3]
      · have n2 : b < 0 ∨ b > 2048 := by omega
        have : ¬ (0 ≤ a ∧ a ≤ 2048 ∧ 0 ≤ b ∧ b ≤ 2048) := by omega
        rw [if_neg this]
        simp [n1, n2]
    · have n1 : a < 0 ∨ a > 2048 := by omega
      have : ¬ (0 ≤ a ∧ a ≤ 2048 ∧ 0 ≤ b ∧ b ≤ 2048) := by omega
      rw [if_neg this]
      simp [n1]
  · unfold ref08_ArcErr
    simp only [within_eq, Option.bind_some]
    by_cases h1 : 0 ≤ a ∧ a ≤ 2048
    · by_cases h2 : 0 ≤ b ∧ b ≤ 2048
      · by_cases h3 : a > b <;> simp [h1, h2, h3]
      · have : ¬ (0 ≤ a ∧ a ≤ 2048 ∧ 0 ≤ b ∧ b ≤ 2048) := by omega
        rw [if_neg this]
        simp [h1, h2]
    · have : ¬ (0 ≤ a ∧ a ≤ 2048 ∧ 0 ≤ b ∧ b ≤ 2048) := by omega
      rw [if_neg this]
      simp [h1]
theorem ballR {l : List Int} {g a b : Int} (h : chkL l g = 0) (ha : 0 ≤ a) (hab : a ≤ b) (hb : b ≤ 2048) : ∃ x y r, loop_plot_ball l g circT a b = some (x, y, r) ∧ ref08_Arc circT l g a b = some (x, y, r) ∧ (-1099511627776 ≤ x ∧ x ≤ 1099511627776) ∧ (-1099511627776 ≤ y ∧ y ≤ 1099511627776) ∧ 0 ≤ r ∧ r ≤ 2199023255552 := by
  obtain ⟨h1, h2, h3, h4, h5, _⟩ := chk_parts h
  have hm : (a + b).tdiv 2 = (a + b) / 2 := Int.tdiv_eq_ediv_of_nonneg (by omega)
  obtain ⟨x, y, r, v1, v2, bx, by', br⟩ := valR (m := (a + b) / 2) h (by omega)
  obtain ⟨S, s1, s2, s3⟩ := sway_run h2 h3
  have m1 := mul_le_nn (a := S) (b := g) (A := 16252928) (B := 10000) ⟨s2, s3⟩ ⟨h4, h5⟩
  have m2 := mul_le_nn (a := S * g) (b := 6284) (A := 162529280000) (B := 6284) (by omega) (by omega)
  have m3 := mul_le_nn (a := S * g * 6284) (b := b - (a + b) / 2) (A := 1021333995520000) (B := 2048) (by omega) (by omega)
  have hc : 0 ≤ -((-(S * g * 6284 * (b - (a + b) / 2))) / 64000000) ∧ -((-(S * g * 6284 * (b - (a + b) / 2))) / 64000000) ≤ 1099511627776 := by
    generalize S * g * 6284 * (b - (a + b) / 2) = t at *
    omega
  refine ⟨x, y, r + -((-(S * g * 6284 * (b - (a + b) / 2))) / 64000000), ?_, ?_, bx, by', by omega, by omega⟩
  · unfold loop_plot_ball loop_middleOf loop_plot_sway
    rw [Option.bind_some, w64 (x := a + b) (by omega), hm, w64 (x := (a + b) / 2) (by omega)]
    simp only [v1, Option.bind_some, sway_l1, s1]
    rw [w64 (x := S * g) (by omega), w64 (x := S * g * 6284) (by omega), w64 (x := b - (a + b) / 2) (by omega), w64 (x := S * g * 6284 * (b - (a + b) / 2)) (by omega), lceil_eq (by decide) (by decide) (by omega)]
    simp only [Option.bind_some]
    rw [w64 (x := r + _) (by omega)]
  · unfold ref08_Arc
    rw [w64 (x := a + b) (by omega), bfloor_eq (by decide) (by omega)]
    simp only [v2, Option.bind_some, s1]
    rw [w64 (x := S * g) (by omega), w64 (x := S * g * 6284) (by omega), w64 (x := b - (a + b) / 2) (by omega), w64 (x := S * g * 6284 * (b - (a + b) / 2)) (by omega), bceil_eq (by decide) (by decide) (by omega)]
    simp only [Option.bind_some]
    rw [w64 (x := r + _) (by omega)]
end Go.Rex

open Go Go.Rex
namespace Go.Rex
set_option maxRecDepth 100000
/-! ### the whole circle -/
def circA : List Pt := circT.take 1024
theorem circA_len : circA.length = 1024 := by unfold circA; rw [List.length_take, circ_len]; rfl
def fullT : List Pt := circA.map (turnN 0) ++ (circA.map (turnN 1) ++ (circA.map (turnN 2) ++ circA.map (turnN 3)))
theorem full_len : fullT.length = 4096 := by unfold fullT; simp [circA_len]
theorem circA_at {i : Nat} (h : i < 1024) : circA[i]? = some (circT.getD i (0, 0)) := by
  have : i < circT.length := by rw [circ_len]; omega
  unfold circA
  rw [List.getElem?_take, if_pos h, List.getD_eq_getElem?_getD, List.getElem?_eq_getElem this]
  rfl
theorem full_at {p : Nat} (h : p < 4096) : fullT[p]? = some (turnN (p / 1024) (circT.getD (p % 1024) (0, 0))) := by
  unfold fullT
  have hc : p / 1024 = 0 ∨ p / 1024 = 1 ∨ p / 1024 = 2 ∨ p / 1024 = 3 := by omega
  rcases hc with hc | hc | hc | hc
  · rw [List.getElem?_append_left (by simp [circA_len]; omega), List.getElem?_map, circA_at (by omega), hc, show p % 1024 = p by omega]; rfl
  · rw [List.getElem?_append_right (by simp [circA_len]; omega), List.getElem?_append_left (by simp [circA_len]; omega), List.getElem?_map, List.length_map, circA_len, circA_at (by omega), hc, show p % 1024 = p - 1024 by omega]; rfl
  · rw [List.getElem?_append_right (by simp [circA_len]; omega), List.getElem?_append_right (by simp [circA_len]; omega), List.getElem?_append_left (by simp [circA_len]; omega), List.getElem?_map]
    simp only [List.length_map, circA_len]
    rw [circA_at (by omega), hc, show p % 1024 = p - 1024 - 1024 by omega]; rfl
  · rw [List.getElem?_append_right (by simp [circA_len]; omega), List.getElem?_append_right (by simp [circA_len]; omega), List.getElem?_append_right (by simp [circA_len]; omega), List.getElem?_map]
    simp only [List.length_map, circA_len]
    rw [circA_at (by omega), hc, show p % 1024 = p - 1024 - 1024 - 1024 by omega]; rfl
def nearP (a b : Pt) : Bool := decide (-102957 ≤ b.1 - a.1 ∧ b.1 - a.1 ≤ 102957 ∧ -102957 ≤ b.2 - a.2 ∧ b.2 - a.2 ≤ 102957)
def adjB : Pt → List Pt → Bool
  | _, [] => true
  | a, b :: t => nearP a b && adjB b t
theorem adj_at : ∀ {l : List Pt} {a : Pt}, adjB a l = true → ∀ i x y, (a :: l)[i]? = some x → (a :: l)[i + 1]? = some y → nearP x y = true
  | [], a, _, i, x, y, _, h2 => by simp at h2
  | b :: t, a, h, i, x, y, h1, h2 => by
    simp only [adjB, Bool.and_eq_true] at h
    cases i with
    | zero => simp at h1 h2; subst h1 h2; exact h.1
    | succ i => exact adj_at h.2 i x y (by simpa using h1) (by simpa using h2)
theorem full_adj : adjB (67108864, 0) (fullT.tail ++ [(67108864, 0)]) = true := by decide +kernel
theorem full_head : fullT = (67108864, 0) :: fullT.tail := by
  have h : fullT.head? = some (67108864, 0) := by decide +kernel
  cases hf : fullT with
  | nil => rw [hf] at h; cases h
  | cons a t => rw [hf] at h; simp at h; rw [h]; rfl
theorem full_quarters : (fullT[0]? == some (67108864, 0) && (fullT[1024]? == some (0, 67108864) && (fullT[2048]? == some (-67108864, 0) && fullT[3072]? == some (0, -67108864)))) = true := by decide +kernel
def dI (m : Int) : Pt := fullT.getD (m % 4096).toNat (0, 0)
theorem dI_of {m : Int} {p : Nat} (h : m % 4096 = (p : Int)) : fullT[p]? = some (dI m) := by
  have hp : p < 4096 := by have := Int.emod_lt_of_pos m (show (0 : Int) < 4096 by decide); omega
  unfold dI
  rw [h, Int.toNat_natCast, List.getD_eq_getElem?_getD, List.getElem?_eq_getElem (by rw [full_len]; exact hp)]
  rfl
theorem nat_of (m : Int) : ∃ p : Nat, m % 4096 = (p : Int) ∧ p < 4096 := by
  have h1 := Int.emod_nonneg m (show (4096 : Int) ≠ 0 by decide)
  have h2 := Int.emod_lt_of_pos m (show (0 : Int) < 4096 by decide)
  exact ⟨(m % 4096).toNat, by omega, by omega⟩
theorem full_0 : fullT[0]? = some (67108864, 0) := by rw [full_head]; rfl
theorem dI_step (m : Int) : nearP (dI m) (dI (m + 1)) = true := by
  obtain ⟨p, hp, hp4⟩ := nat_of m
  have hl : (fullT ++ [(67108864, 0)] : List Pt) = (67108864, 0) :: (fullT.tail ++ [(67108864, 0)]) := by rw [← List.cons_append, ← full_head]
  have key := adj_at full_adj p
  rw [← hl] at key
  have h1 : (fullT ++ [(67108864, 0)] : List Pt)[p]? = some (dI m) := by rw [List.getElem?_append_left (by rw [full_len]; exact hp4)]; exact dI_of hp
  have h2 : (fullT ++ [(67108864, 0)] : List Pt)[p + 1]? = some (dI (m + 1)) := by
    by_cases e : p + 1 < 4096
    · rw [List.getElem?_append_left (by rw [full_len]; exact e)]
      exact dI_of (by omega)
    · rw [List.getElem?_append_right (by rw [full_len]; omega), full_len, show p + 1 - 4096 = 0 by omega]
      have : fullT[0]? = some (dI (m + 1)) := dI_of (by omega)
      rw [full_0] at this
      exact this
  exact key _ _ h1 h2
theorem near_eq {a b : Pt} : nearP a b = true ↔ (-102957 ≤ b.1 - a.1 ∧ b.1 - a.1 ≤ 102957 ∧ -102957 ≤ b.2 - a.2 ∧ b.2 - a.2 ≤ 102957) := by simp [nearP]
theorem dI_lip (m : Int) : ∀ n : Nat, (-(102957 * (n : Int)) ≤ (dI (m + n)).1 - (dI m).1 ∧ (dI (m + n)).1 - (dI m).1 ≤ 102957 * (n : Int)) ∧ (-(102957 * (n : Int)) ≤ (dI (m + n)).2 - (dI m).2 ∧ (dI (m + n)).2 - (dI m).2 ≤ 102957 * (n : Int))
  | 0 => by simp
  | n + 1 => by
    have h1 := dI_lip m n
    have h2 := near_eq.1 (dI_step (m + n))
    have e : m + (n : Int) + 1 = m + ((n + 1 : Nat) : Int) := by omega
    rw [e] at h2
    generalize dI (m + ((n + 1 : Nat) : Int)) = a at *
    generalize dI (m + (n : Int)) = b at *
    generalize dI m = c at *
    omega
theorem dI_quarter {m : Int} (h : m % 1024 = 0) : (dI m).1 % 64 = 0 ∧ (dI m).2 % 64 = 0 := by
  obtain ⟨p, hp, hp4⟩ := nat_of m
  have h1 : fullT[p]? = some (dI m) := dI_of hp
  have hq := full_quarters
  simp only [Bool.and_eq_true, beq_iff_eq] at hq
  obtain ⟨q0, q1, q2, q3⟩ := hq
  have hc : p = 0 ∨ p = 1024 ∨ p = 2048 ∨ p = 3072 := by omega
  rcases hc with rfl | rfl | rfl | rfl
  · rw [q0] at h1; rw [← Option.some.inj h1]; decide
  · rw [q1] at h1; rw [← Option.some.inj h1]; decide
  · rw [q2] at h1; rw [← Option.some.inj h1]; decide
  · rw [q3] at h1; rw [← Option.some.inj h1]; decide
end Go.Rex

open Go Go.Rex
namespace Go.Rex
set_option maxRecDepth 100000
theorem uV_eq (m : Int) : uV m = unitV (dI m) (decide (m % 1024 = 0)) := by
  obtain ⟨p, hp, hp4⟩ := nat_of m
  have h1 := dI_of hp
  rw [full_at hp4] at h1
  have h1 := Option.some.inj h1
  unfold uV
  rw [hp, Int.toNat_natCast, h1]
  congr 1
  have : m % 1024 = 0 ↔ p % 1024 = 0 := by omega
  by_cases h : p % 1024 = 0
  · simp [h, this.2 h]
  · have h' : ¬ m % 1024 = 0 := fun hh => h (this.1 hh)
    rw [decide_eq_false h, decide_eq_false h']
/-- a unit number is near its direction -/
theorem u_near (m : Int) : (-(16 * (uV m).2.2) ≤ 64 * (uV m).1 - (dI m).1 ∧ 64 * (uV m).1 - (dI m).1 ≤ 16 * (uV m).2.2) ∧ (-(16 * (uV m).2.2) ≤ 64 * (uV m).2.1 - (dI m).2 ∧ 64 * (uV m).2.1 - (dI m).2 ≤ 16 * (uV m).2.2) := by
  rw [uV_eq]
  by_cases h : m % 1024 = 0
  · have q := dI_quarter h
    simp only [unitV, h, decide_true, if_true]
    generalize dI m = d at *
    omega
  · simp only [unitV, h, decide_false, Bool.false_eq_true, if_false]
    generalize dI m = d at *
    omega
/-- half a turn: real directions -/
theorem dI_half {m : Int} (h : m % 2048 = 0) : (dI m).2 = 0 := by
  obtain ⟨p, hp, hp4⟩ := nat_of m
  have h1 : fullT[p]? = some (dI m) := dI_of hp
  have hq := full_quarters
  simp only [Bool.and_eq_true, beq_iff_eq] at hq
  obtain ⟨q0, q1, q2, q3⟩ := hq
  have hc : p = 0 ∨ p = 2048 := by omega
  rcases hc with rfl | rfl
  · rw [q0] at h1; rw [← Option.some.inj h1]
  · rw [q2] at h1; rw [← Option.some.inj h1]
/-! ### sums over taps -/
def lin (f : Int → Int) (m : Int) : Nat → List Int → Int
  | _, [] => 0
  | k, x :: t => x * f (-m * (k : Int)) + lin f m (k + 1) t
def lab (f : Int → Int) (m : Int) : Nat → List Int → Int
  | _, [] => 0
  | k, x :: t => absI x * f (-m * (k : Int)) + lab f m (k + 1) t
def SS : Nat → List Int → Int
  | _, [] => 0
  | k, x :: t => (k : Int) * absI x + SS (k + 1) t
theorem absI_nn (x : Int) : 0 ≤ absI x := by unfold absI; split <;> omega
theorem mul_abs {x a b : Int} (h : -b ≤ a ∧ a ≤ b) : -(absI x * b) ≤ x * a ∧ x * a ≤ absI x * b := by
  have hb : 0 ≤ b := by omega
  unfold absI
  split
  · have h1 := Int.mul_nonneg (show 0 ≤ -x by omega) (show 0 ≤ b - a by omega)
    have h2 := Int.mul_nonneg (show 0 ≤ -x by omega) (show 0 ≤ b + a by omega)
    rw [Int.mul_sub, Int.neg_mul, Int.neg_mul] at h1
    rw [Int.mul_add, Int.neg_mul, Int.neg_mul] at h2
    rw [Int.neg_mul]
    omega
  · have h1 := Int.mul_nonneg (show 0 ≤ x by omega) (show 0 ≤ b - a by omega)
    have h2 := Int.mul_nonneg (show 0 ≤ x by omega) (show 0 ≤ b + a by omega)
    rw [Int.mul_sub] at h1
    rw [Int.mul_add] at h2
    omega
theorem lin_near {f g r : Int → Int} (h : ∀ t, -(16 * r t) ≤ 64 * f t - g t ∧ 64 * f t - g t ≤ 16 * r t) (m : Int) : ∀ (l : List Int) (k : Nat), -(16 * lab r m k l) ≤ 64 * lin f m k l - lin g m k l ∧ 64 * lin f m k l - lin g m k l ≤ 16 * lab r m k l
  | [], k => by simp [lin, lab]
  | x :: t, k => by
    have i := lin_near h m t (k + 1)
    have hu := h (-m * (k : Int))
    simp only [lin, lab]
    have hx := mul_abs (x := x) hu
    have c1 : x * (64 * f (-m * (k : Int)) - g (-m * (k : Int))) = 64 * (x * f (-m * (k : Int))) - x * g (-m * (k : Int)) := by rw [Int.mul_sub, Int.mul_left_comm]
    have c2 : absI x * (16 * r (-m * (k : Int))) = 16 * (absI x * r (-m * (k : Int))) := Int.mul_left_comm _ _ _
    rw [c1, c2] at hx
    omega
theorem lin_lip {f : Int → Int} {L : Int} (h : ∀ (t : Int) (n : Nat), -(L * (n : Int)) ≤ f (t + n) - f t ∧ f (t + n) - f t ≤ L * (n : Int)) (m : Int) (n : Nat) : ∀ (l : List Int) (k : Nat), -(L * ((n : Int) * SS k l)) ≤ lin f m k l - lin f (m + n) k l ∧ lin f m k l - lin f (m + n) k l ≤ L * ((n : Int) * SS k l)
  | [], k => by simp [lin, SS]
  | x :: t, k => by
    have i := lin_lip h m n t (k + 1)
    have e : -m * (k : Int) = -(m + (n : Int)) * (k : Int) + ((n * k : Nat) : Int) := by
      rw [Int.natCast_mul, Int.neg_mul, Int.neg_mul, Int.add_mul]; omega
    have hu := h (-(m + (n : Int)) * (k : Int)) (n * k)
    rw [← e] at hu
    simp only [lin, SS]
    have hx := mul_abs (x := x) hu
    have c1 : x * (f (-m * (k : Int)) - f (-(m + (n : Int)) * (k : Int))) = x * f (-m * (k : Int)) - x * f (-(m + (n : Int)) * (k : Int)) := Int.mul_sub _ _ _
    have c3 : absI x * (L * ((n * k : Nat) : Int)) = L * ((n : Int) * ((k : Int) * absI x)) := by
      rw [Int.natCast_mul]; grind
    have c4 : L * ((n : Int) * ((k : Int) * absI x + SS (k + 1) t)) = L * ((n : Int) * ((k : Int) * absI x)) + L * ((n : Int) * SS (k + 1) t) := by rw [Int.mul_add, Int.mul_add]
    rw [c1, c3] at hx
    rw [c4]
    omega
theorem lin_zero {f : Int → Int} {m : Int} (h : ∀ k : Nat, f (-m * (k : Int)) = 0) : ∀ (l : List Int) (k : Nat), lin f m k l = 0
  | [], k => rfl
  | x :: t, k => by simp only [lin, h k, lin_zero h t (k + 1), Int.mul_zero, Int.add_zero]
noncomputable def ux (t : Int) : Int := (uV t).1
noncomputable def uy (t : Int) : Int := (uV t).2.1
noncomputable def ur (t : Int) : Int := (uV t).2.2
def dx (t : Int) : Int := (dI t).1
def dy (t : Int) : Int := (dI t).2
theorem fold_acc (m : Int) : ∀ (l : List Int) (b : Acc), (l.foldl (accF m) b).1 = b.1 + lin ux m b.2.2.2 l ∧ (l.foldl (accF m) b).2.1 = b.2.1 + lin uy m b.2.2.2 l ∧ (l.foldl (accF m) b).2.2.1 = b.2.2.1 + lab ur m b.2.2.2 l
  | [], b => by simp [lin, lab]
  | x :: t, b => by
    obtain ⟨h1, h2, h3⟩ := fold_acc m t (accF m b x)
    simp only [List.foldl_cons, h1, h2, h3, lin, lab]
    simp only [accF, ux, uy, ur]
    exact ⟨by omega, by omega, by omega⟩
theorem fold_sw : ∀ (l : List Int) (b : Sw), (l.foldl swF b).1 = b.1 + SS b.2 l
  | [], b => by simp [SS]
  | x :: t, b => by
    simp only [List.foldl_cons, fold_sw t (swF b x), SS]
    simp only [swF]
    omega
/-! ### balls that have true values: 1048576000 parts -/
def Has (x y r X Y : Int) : Prop := (-(1048576000 * r) ≤ 1048576000 * x - X ∧ 1048576000 * x - X ≤ 1048576000 * r) ∧ (-(1048576000 * r) ≤ 1048576000 * y - Y ∧ 1048576000 * y - Y ≤ 1048576000 * r)
/-- the true value at m, in parts -/
def TX' (l : List Int) (g m : Int) : Int := g * lin dx m 0 l
def TY' (l : List Int) (g m : Int) : Int := g * lin dy m 0 l
end Go.Rex

open Go Go.Rex
namespace Go.Rex
set_option maxRecDepth 100000
theorem val_runX {l : List Int} {m : Int} (hl : l.length ≤ 32) (hm : -1000000 ≤ m ∧ m ≤ 1000000) (hx : ∀ x ∈ l, -16384 ≤ x ∧ x ≤ 16384) {X Y R : Int} (h : run (loop_plot_value_l1 l circT m) (0, 0, 0, 0) = some (X, Y, R)) : X = lin ux m 0 l ∧ Y = lin uy m 0 l ∧ R = lab ur m 0 l := by
  have w0 : IntKind.i64.wrap (0 - m) = -m := by rw [w64 (by omega)]; omega
  have r1 := run_fold (step := loop_plot_value_l1 l circT m) (fun k (b : Acc) => (b.1, b.2.1, b.2.2.1, (k : Int))) (fun b => (b.1, b.2.1, b.2.2.1)) (accF m) accI l (fun k x b hk hI => by
    have hlt := (List.getElem?_eq_some_iff.1 hk).1
    have hx' := hx x (List.mem_of_getElem? hk)
    have hI0 := hI
    obtain ⟨h1, h2, h3, h4⟩ := hI
    obtain ⟨_, _, u1, u2, u3, u4⟩ := uV_both (-m * (k : Int))
    have m1 := mul_bd hx' u1
    have m2 := mul_bd hx' u2
    have m3 := mul_le_nn (absI_le hx') (show 0 ≤ (uV (-m * (k : Int))).2.2 ∧ (uV (-m * (k : Int))).2.2 ≤ 2 from ⟨u3, u4⟩)
    have m4 := mul_bd (a := -m) (b := (k : Int)) (A := 1000000) (B := 32) (by omega) (by omega)
    have p3 : getI l (k : Int) = some x := by unfold getI; rw [if_pos (by omega)]; exact hk
    refine ⟨?_, acc_step hx' hI0⟩
    unfold loop_plot_value_l1
    simp only
    rw [if_pos (by simp only [decide_eq_true_eq]; omega), p3, Option.bind_some, w0, w64 (x := -m * (k : Int)) (by omega), (uV_both (-m * (k : Int))).1, Option.bind_some]
    simp only [lsize_eq (x := x) (by omega), Option.bind_some]
    rw [w64 (x := x * (uV (-m * (k : Int))).1) (by omega), w64 (x := b.1 + _) (by omega), w64 (x := x * (uV (-m * (k : Int))).2.1) (by omega), w64 (x := b.2.1 + _) (by omega), w64 (x := absI x * (uV (-m * (k : Int))).2.2) (by omega), w64 (x := b.2.2.1 + _) (by omega), wsucc (n := l.length) (by omega) (by omega)]
    simp only [accF, h1]) (fun b hI => by
    unfold loop_plot_value_l1
    simp only
    rw [if_neg (by simp)]) (b0 := (0, 0, 0, 0)) ⟨rfl, by simp, by simp, by simp⟩
  obtain ⟨e1, e2, e3⟩ := fold_acc m l (0, 0, 0, 0)
  have r := r1.1
  rw [e1, e2, e3] at r
  simp only [Int.zero_add] at r
  have hh : some (X, Y, R) = some (lin ux m 0 l, lin uy m 0 l, lab ur m 0 l) := h.symm.trans r
  have hh := Option.some.inj hh
  exact ⟨congrArg (·.1) hh, congrArg (·.2.1) hh, congrArg (·.2.2) hh⟩
theorem sway_runX {l : List Int} (hl : l.length ≤ 32) (hx : ∀ x ∈ l, -16384 ≤ x ∧ x ≤ 16384) : run (ref08_Arc_l1 l) (0, 0) = some (SS 0 l) ∧ 0 ≤ SS 0 l ∧ SS 0 l ≤ 16252928 := by
  have := run_fold (step := ref08_Arc_l1 l) (fun k (b : Sw) => (b.1, (k : Int))) (fun b => b.1) swF (fun k b => b.2 = k ∧ k ≤ 32 ∧ 0 ≤ b.1 ∧ b.1 ≤ 507904 * (k : Int)) l (fun k x b hk hI => by
    have hlt := (List.getElem?_eq_some_iff.1 hk).1
    have hx' := hx x (List.mem_of_getElem? hk)
    obtain ⟨h1, h2, h3, h4⟩ := hI
    have m1 := mul_le_nn (a := (b.2 : Int)) (A := 31) (show 0 ≤ (b.2 : Int) ∧ (b.2 : Int) ≤ 31 by omega) (absI_le hx')
    refine ⟨?_, by simp only [swF]; omega, by omega, by simp only [swF]; omega, by simp only [swF]; omega⟩
    unfold ref08_Arc_l1
    have hg : getI l (k : Int) = some x := by unfold getI; rw [if_pos (by omega)]; exact hk
    simp only
    rw [if_pos (by simp only [decide_eq_true_eq]; omega), hg, Option.bind_some, bsize_eq (by omega), Option.bind_some]
    rw [← h1, w64 (x := (b.2 : Int) * absI x) (by omega), w64 (x := b.1 + _) (by omega), wsucc (n := l.length) (by omega) (by omega)]
    simp only [swF, h1]) (fun b hI => by
    unfold ref08_Arc_l1
    simp only
    rw [if_neg (by simp)]) (b0 := (0, 0)) ⟨rfl, by omega, by simp, by simp⟩
  obtain ⟨r1, h1, h2, h3, h4⟩ := this
  have e := fold_sw l (0, 0)
  rw [e] at r1 h3 h4
  simp only [Int.zero_add] at r1 h3 h4
  exact ⟨r1, h3, by omega⟩
/-- a value has the true value -/
theorem valH {l : List Int} {g m : Int} (h : chkL l g = 0) (hm : -1000000 ≤ m ∧ m ≤ 1000000) : ∃ x y r, loop_plot_value l g circT m = some (x, y, r) ∧ ref08_Value circT l g m = some (x, y, r) ∧ (-1099511627776 ≤ x ∧ x ≤ 1099511627776) ∧ (-1099511627776 ≤ y ∧ y ≤ 1099511627776) ∧ (0 ≤ r ∧ r ≤ 1099511627776) ∧ Has x y r (TX' l g m) (TY' l g m) := by
  obtain ⟨h1, h2, h3, h4, h5, _⟩ := chk_parts h
  obtain ⟨X, Y, R, r1, r2, bX, bY, bR⟩ := val_run h2 hm h3
  obtain ⟨e1, e2, e3⟩ := val_runX h2 hm h3 r1
  obtain ⟨x, y, r, v1, v2, b1, b2, b3⟩ := valR h hm
  refine ⟨x, y, r, v1, v2, b1, b2, b3, ?_⟩
  have m1 := mul_bd (a := X) (b := g) (A := 1099512152064) (B := 10000) bX (by omega)
  have m2 := mul_bd (a := Y) (b := g) (A := 1099512152064) (B := 10000) bY (by omega)
  have m3 := mul_le_nn (a := R) (b := g) (A := 1048576) (B := 10000) bR ⟨h4, h5⟩
  have n1 := lin_near (f := ux) (g := dx) (r := ur) (fun t => (u_near t).1) m l 0
  have n2 := lin_near (f := uy) (g := dy) (r := ur) (fun t => (u_near t).2) m l 0
  rw [← e1, ← e3] at n1
  rw [← e2, ← e3] at n2
  have k1 := Int.mul_le_mul_of_nonneg_left n1.1 h4
  have k2 := Int.mul_le_mul_of_nonneg_left n1.2 h4
  have k3 := Int.mul_le_mul_of_nonneg_left n2.1 h4
  have k4 := Int.mul_le_mul_of_nonneg_left n2.2 h4
  have c1 : g * (64 * X - lin dx m 0 l) = 64 * (X * g) - TX' l g m := by unfold TX'; rw [Int.mul_sub, Int.mul_left_comm, Int.mul_comm g X]
  have c2 : g * (64 * Y - lin dy m 0 l) = 64 * (Y * g) - TY' l g m := by unfold TY'; rw [Int.mul_sub, Int.mul_left_comm, Int.mul_comm g Y]
  have c3 : g * (16 * R) = 16 * (R * g) := by rw [Int.mul_left_comm, Int.mul_comm g R]
  rw [Int.mul_neg, c3, c1] at k1
  rw [c3, c1] at k2
  rw [Int.mul_neg, c3, c2] at k3
  rw [c3, c2] at k4
  unfold ref08_Value at v2
  rw [r2, Option.bind_some] at v2
  simp only at v2
  generalize X * g = A at *
  generalize Y * g = B at *
  generalize R * g = G at *
  generalize TX' l g m = tx at *
  generalize TY' l g m = ty at *
  rw [w64 (x := A) (by omega), w64 (x := B) (by omega), w64 (x := G) (by omega)] at v2
  rw [bround_eq (x := A) (by decide) (by decide) (by omega), bround_eq (x := B) (by decide) (by decide) (by omega), bceil_eq (x := G) (by decide) (by decide) (by omega), bmod_eq (x := A) (by decide) (by decide), bmod_eq (x := B) (by decide) (by decide)] at v2
  simp only [Option.bind_some, decide_eq_true_eq] at v2
  rw [w64 (x := -((-G) / 16384000) + 1) (by omega)] at v2
  unfold Has
  by_cases d1 : A % 16384000 = 0
  · rw [if_neg (by omega)] at v2
    by_cases d2 : B % 16384000 = 0
    · rw [if_neg (by omega)] at v2
      have v2 := Option.some.inj v2
      obtain ⟨rfl, rfl, rfl⟩ : _ = x ∧ _ = y ∧ _ = r := by simpa using v2
      omega
    · rw [if_pos (by omega)] at v2
      have v2 := Option.some.inj v2
      obtain ⟨rfl, rfl, rfl⟩ : _ = x ∧ _ = y ∧ _ = r := by simpa using v2
      omega
  · rw [if_pos (by omega)] at v2
    have v2 := Option.some.inj v2
    obtain ⟨rfl, rfl, rfl⟩ : _ = x ∧ _ = y ∧ _ = r := by simpa using v2
    omega
/-- the ball of an arc has the true values of all its numbers -/
theorem ballH {l : List Int} {g a b : Int} (h : chkL l g = 0) (ha : 0 ≤ a) (hab : a ≤ b) (hb : b ≤ 2048) : ∃ x y r, loop_plot_ball l g circT a b = some (x, y, r) ∧ ref08_Arc circT l g a b = some (x, y, r) ∧ (-1099511627776 ≤ x ∧ x ≤ 1099511627776) ∧ (-1099511627776 ≤ y ∧ y ≤ 1099511627776) ∧ (0 ≤ r ∧ r ≤ 2199023255552) ∧
    ∀ m, a ≤ m → m ≤ b → Has x y r (TX' l g m) (TY' l g m) := by
  obtain ⟨h1, h2, h3, h4, h5, _⟩ := chk_parts h
  obtain ⟨x, y, r, v1, v2, b1, b2, b3⟩ := ballR h ha hab hb
  refine ⟨x, y, r, v1, v2, b1, b2, b3, fun m hm1 hm2 => ?_⟩
  obtain ⟨x', y', r', w1, w2, bx, by', br, hh⟩ := valH (m := (a + b) / 2) h (by omega)
  obtain ⟨s1, s2, s3⟩ := sway_runX h2 h3
  unfold ref08_Arc at v2
  rw [w64 (x := a + b) (by omega), bfloor_eq (by decide) (by omega)] at v2
  have m1 := mul_le_nn (a := SS 0 l) (b := g) (A := 16252928) (B := 10000) ⟨s2, s3⟩ ⟨h4, h5⟩
  have m2 := mul_le_nn (a := SS 0 l * g) (b := 6284) (A := 162529280000) (B := 6284) (by omega) (by omega)
  have m3 := mul_le_nn (a := SS 0 l * g * 6284) (b := b - (a + b) / 2) (A := 1021333995520000) (B := 2048) (by omega) (by omega)
  simp only [w2, Option.bind_some, s1] at v2
  rw [w64 (x := SS 0 l * g) (by omega), w64 (x := SS 0 l * g * 6284) (by omega), w64 (x := b - (a + b) / 2) (by omega), w64 (x := SS 0 l * g * 6284 * (b - (a + b) / 2)) (by omega), bceil_eq (by decide) (by decide) (by omega)] at v2
  simp only [Option.bind_some] at v2
  rw [w64 (x := r' + _) (by omega)] at v2
  have v2 := Option.some.inj v2
  obtain ⟨rfl, rfl, rfl⟩ : x' = x ∧ y' = y ∧ _ = r := by simpa using v2
  -- how far the true value moves
  obtain ⟨d, d1, d2, k1, k2⟩ : ∃ d : Int, 0 ≤ d ∧ d ≤ b - (a + b) / 2 ∧ (-(102957 * (d * SS 0 l)) ≤ lin dx ((a + b) / 2) 0 l - lin dx m 0 l ∧ lin dx ((a + b) / 2) 0 l - lin dx m 0 l ≤ 102957 * (d * SS 0 l)) ∧ (-(102957 * (d * SS 0 l)) ≤ lin dy ((a + b) / 2) 0 l - lin dy m 0 l ∧ lin dy ((a + b) / 2) 0 l - lin dy m 0 l ≤ 102957 * (d * SS 0 l)) := by
    rcases Int.le_total m ((a + b) / 2) with hpq | hpq
    · obtain ⟨n, hn⟩ : ∃ n : Nat, (a + b) / 2 = m + (n : Int) := ⟨((a + b) / 2 - m).toNat, by omega⟩
      have q1 := lin_lip (f := dx) (fun t n => (dI_lip t n).1) m n l 0
      have q2 := lin_lip (f := dy) (fun t n => (dI_lip t n).2) m n l 0
      rw [← hn] at q1 q2
      exact ⟨(n : Int), by omega, by omega, by omega, by omega⟩
    · obtain ⟨n, hn⟩ : ∃ n : Nat, m = (a + b) / 2 + (n : Int) := ⟨(m - (a + b) / 2).toNat, by omega⟩
      have q1 := lin_lip (f := dx) (fun t n => (dI_lip t n).1) ((a + b) / 2) n l 0
      have q2 := lin_lip (f := dy) (fun t n => (dI_lip t n).2) ((a + b) / 2) n l 0
      rw [← hn] at q1 q2
      exact ⟨(n : Int), by omega, by omega, by omega, by omega⟩
  have p1 : g * (d * SS 0 l) ≤ SS 0 l * g * (b - (a + b) / 2) := by
    have : SS 0 l * g * d ≤ SS 0 l * g * (b - (a + b) / 2) := Int.mul_le_mul_of_nonneg_left d2 m1.1
    have e : g * (d * SS 0 l) = SS 0 l * g * d := by grind
    omega
  have e3 : SS 0 l * g * 6284 * (b - (a + b) / 2) = 6284 * (SS 0 l * g * (b - (a + b) / 2)) := by grind
  have j1 := Int.mul_le_mul_of_nonneg_left k1.1 h4
  have j2 := Int.mul_le_mul_of_nonneg_left k1.2 h4
  have j3 := Int.mul_le_mul_of_nonneg_left k2.1 h4
  have j4 := Int.mul_le_mul_of_nonneg_left k2.2 h4
  rw [Int.mul_neg, Int.mul_left_comm, Int.mul_sub] at j1 j3
  rw [Int.mul_left_comm g 102957, Int.mul_sub] at j2 j4
  rw [e3]
  rw [e3] at m3
  unfold Has TX' TY' at *
  generalize g * (d * SS 0 l) = P at *
  generalize SS 0 l * g * (b - (a + b) / 2) = Q at *
  generalize g * lin dx ((a + b) / 2) 0 l = c1 at *
  generalize g * lin dy ((a + b) / 2) 0 l = c2 at *
  generalize g * lin dx m 0 l = c3 at *
  generalize g * lin dy m 0 l = c4 at *
  have hq : 0 ≤ Q := by omega
  have hs : 102957 * Q ≤ 1048576000 * (-((-(6284 * Q)) / 64000000)) := by omega
  generalize -((-(6284 * Q)) / 64000000) = sw at *
  have e4 : 1048576000 * (r' + sw) = 1048576000 * r' + 1048576000 * sw := Int.mul_add _ _ _
  rw [e4]
  omega
end Go.Rex

open Go Go.Rex
namespace Go.Rex
set_option maxRecDepth 100000
/-! ### clear balls, sides -/
abbrev Bd (x y r : Int) : Prop := (-1099511627776 ≤ x ∧ x ≤ 1099511627776) ∧ (-1099511627776 ≤ y ∧ y ≤ 1099511627776) ∧ 0 ≤ r ∧ r ≤ 2199023255552
def clearB (x y r : Int) : Bool := decide (r < absI y ∨ x + r < 1048576)
def sideI (y r : Int) : Int := if absI y ≤ r then 0 else if y < 0 then -1 else if y > 0 then 1 else 0
theorem sideR {x y r : Int} (hy : -9223372036854775807 ≤ y ∧ y ≤ 9223372036854775807) : loop_side x y r = some (sideI y r) := by
  unfold loop_side cmp_Compare_int cmp_isNaN_int sideI
  rw [lsize_eq hy]
  simp only [Option.bind_some, decide_eq_true_eq, ne_eq, not_true_eq_false, if_false]
  repeat' split
  all_goals rfl
theorem absI_pos {y r : Int} (hr : 0 ≤ r) : r < absI y ↔ r < y ∨ y < -r := by unfold absI; split <;> omega
theorem sideI_ne {y r : Int} (hr : 0 ≤ r) : sideI y r ≠ 0 ↔ r < absI y := by
  have ha := absI_pos (y := y) hr
  unfold sideI
  by_cases k : absI y ≤ r
  · rw [if_pos k]
    exact ⟨fun h => absurd rfl h, fun h => by omega⟩
  · rw [if_neg k]
    refine ⟨fun _ => by omega, fun _ => ?_⟩
    split
    · decide
    · rw [if_pos (by omega)]; decide
theorem sideI_eq (y r : Int) (hr : 0 ≤ r) : sideI y r = if r < y then 1 else if y < -r then -1 else 0 := by
  have ha := absI_pos (y := y) hr
  unfold sideI
  by_cases k : absI y ≤ r
  · rw [if_pos k, if_neg (by omega), if_neg (by omega)]
  · rw [if_neg k]
    by_cases h : r < y
    · rw [if_neg (by omega), if_pos (by omega), if_pos h]
    · rw [if_pos (by omega), if_neg h, if_pos (by omega)]
theorem clearR {x y r : Int} (h : Bd x y r) : loop_IsClear x y r = some (clearB x y r) ∧ ref08_IsClear x y r = some (clearB x y r) := by
  obtain ⟨hx, hy, hr⟩ := h
  have hs := sideI_ne (y := y) hr.1
  constructor
  · unfold loop_IsClear loop_isSmall
    rw [show IntKind.i64.wrap (0 - 1000000000000000) = -1000000000000000 by decide, w64 (x := x + r) (by omega), sideR (by omega)]
    have c1 : -1000000000000000 ≤ x := by omega
    have c2 : x ≤ 1000000000000000 := by omega
    have c3 : -1000000000000000 ≤ y := by omega
    have c4 : y ≤ 1000000000000000 := by omega
    have c5 : r ≤ 1000000000000000 := by omega
    simp only [c1, c2, c3, c4, c5, hr.1, decide_true, if_true, Option.bind_some]
    unfold clearB
    by_cases k : r < absI y
    · have := hs.2 k
      simp [k, this]
    · have : sideI y r = 0 := Classical.byContradiction fun hh => k (hs.1 hh)
      simp [k, this]
  · unfold ref08_IsClear
    simp only [within_eq, Option.bind_some]
    have c1 : -1000000000000000 ≤ x ∧ x ≤ 1000000000000000 := by omega
    have c3 : -1000000000000000 ≤ y ∧ y ≤ 1000000000000000 := by omega
    have c5 : 0 ≤ r ∧ r ≤ 1000000000000000 := by omega
    simp only [c1, c3, c5, and_self, decide_true, if_true]
    rw [bsize_eq (by omega), Option.bind_some, w64 (x := x + r) (by omega)]
    unfold clearB
    by_cases k : r < absI y
    · simp [k]
    · simp [k]
/-! ### arcs that prove that a loop never rings, and an arc on which it rings: never both -/
def clearOn (l : List Int) (g : Int) (a : Int × Int) : Prop := ∃ x y r, loop_plot_ball l g circT a.1 a.2 = some (x, y, r) ∧ clearB x y r = true
inductive Cover (l : List Int) (g : Int) : Int → List (Int × Int) → Prop
  | nil : Cover l g 2048 []
  | cons {at' : Int} {a : Int × Int} {t : List (Int × Int)} (h0 : 0 ≤ a.1) (h1 : a.1 ≤ a.2) (h2 : a.2 ≤ 2048) (h3 : a.1 = at') (h4 : clearOn l g a) (ht : Cover l g a.2 t) : Cover l g at' (a :: t)
theorem cover_at {l : List Int} {g : Int} {at' : Int} {arcs : List (Int × Int)} (h : Cover l g at' arcs) : ∀ t, at' ≤ t → t < 2048 → ∃ a : Int × Int, 0 ≤ a.1 ∧ a.1 ≤ t ∧ t + 1 ≤ a.2 ∧ a.2 ≤ 2048 ∧ clearOn l g a := by
  induction h with
  | nil => intro t h1 h2; omega
  | cons h0 h1 h2 h3 h4 ht ih =>
    rename_i at' a tl
    intro t k1 k2
    rcases Int.lt_or_le t a.2 with h | h
    · exact ⟨a, h0, by omega, by omega, h2, h4⟩
    · exact ih t h k2
/-- a true value is real and at least 1, or goes over the real line where it is at least 1 -/
inductive Rings (l : List Int) (g : Int) : Prop
  | real (m : Int) (h0 : 0 ≤ m) (h1 : m ≤ 2048) (hx : 1099511627776000 ≤ TX' l g m) (hy : TY' l g m = 0) : Rings l g
  | over (m : Int) (h0 : 0 ≤ m) (h1 : m < 2048) (hx : 1099511627776000 ≤ TX' l g m) (hy : (0 < TY' l g m ∧ TY' l g (m + 1) ≤ 0) ∨ (TY' l g m < 0 ∧ 0 ≤ TY' l g (m + 1))) : Rings l g
theorem never_both {l : List Int} {g : Int} {arcs : List (Int × Int)} (h : chkL l g = 0) (hc : Cover l g 0 arcs) : ¬ Rings l g := by
  have key : ∀ a : Int × Int, 0 ≤ a.1 → a.1 ≤ a.2 → a.2 ≤ 2048 → clearOn l g a → ∃ x y r : Int, 0 ≤ r ∧ (r < y ∨ y < -r ∨ x + r < 1048576) ∧ ∀ m, a.1 ≤ m → m ≤ a.2 → Has x y r (TX' l g m) (TY' l g m) := by
    rintro a h0 h1 h2 ⟨x, y, r, v, hcl⟩
    obtain ⟨x', y', r', v1, v2, b1, b2, b3, hh⟩ := ballH h h0 h1 h2
    obtain ⟨rfl, rfl, rfl⟩ : x = x' ∧ y = y' ∧ r = r' := by rw [v] at v1; simpa using v1
    refine ⟨x, y, r, b3.1, ?_, hh⟩
    have ha := absI_pos (y := y) b3.1
    simp only [clearB, decide_eq_true_eq] at hcl
    rcases hcl with hcl | hcl
    · rcases ha.1 hcl with h | h
      · exact .inl h
      · exact .inr (.inl h)
    · exact .inr (.inr hcl)
  rintro (⟨m, h0, h1, hx, hy⟩ | ⟨m, h0, h1, hx, hy⟩)
  · obtain ⟨a, k1, k2, k3, k4, k5⟩ : ∃ a : Int × Int, 0 ≤ a.1 ∧ a.1 ≤ m ∧ m ≤ a.2 ∧ a.2 ≤ 2048 ∧ clearOn l g a := by
      rcases Int.lt_or_le m 2048 with hm | hm
      · obtain ⟨a, k1, k2, k3, k4, k5⟩ := cover_at hc m h0 hm
        exact ⟨a, k1, k2, by omega, k4, k5⟩
      · obtain ⟨a, k1, k2, k3, k4, k5⟩ := cover_at hc (m - 1) (by omega) (by omega)
        exact ⟨a, k1, by omega, by omega, k4, k5⟩
    obtain ⟨x, y, r, hr, hcl, hh⟩ := key a k1 (by omega) k4 k5
    have := hh m k2 k3
    unfold Has at this
    omega
  · obtain ⟨a, k1, k2, k3, k4, k5⟩ := cover_at hc m h0 h1
    obtain ⟨x, y, r, hr, hcl, hh⟩ := key a k1 (by omega) k4 k5
    have t1 := hh m k2 (by omega)
    have t2 := hh (m + 1) (by omega) k3
    unfold Has at t1 t2
    omega
/-- a change of sign -/
theorem sign_change (f : Int → Int) (a : Int) : ∀ n : Nat, 0 < f a → f (a + n) ≤ 0 → ∃ m, a ≤ m ∧ m < a + n ∧ 0 < f m ∧ f (m + 1) ≤ 0
  | 0, h1, h2 => by simp at h2; omega
  | n + 1, h1, h2 => by
    rcases Int.lt_or_le 0 (f (a + n)) with h | h
    · exact ⟨a + n, by omega, by omega, h, by rw [show a + (n : Int) + 1 = a + ((n + 1 : Nat) : Int) by omega]; exact h2⟩
    · obtain ⟨m, k1, k2, k3, k4⟩ := sign_change f a n h1 h
      exact ⟨m, k1, by omega, k3, k4⟩
theorem TY_half {l : List Int} {g m : Int} (h : m = 0 ∨ m = 2048) : TY' l g m = 0 := by
  unfold TY'
  rw [lin_zero (fun k => by
    unfold dy
    refine dI_half ?_
    rcases h with rfl | rfl
    · simp
    · rw [Int.neg_mul]; omega), Int.mul_zero]
def beyB (x r : Int) : Bool := decide (1048576 ≤ x - r)
def crossB (y1 r1 y2 r2 : Int) : Bool := decide ((r1 < y1 ∧ y2 < -r2) ∨ (y1 < -r1 ∧ r2 < y2))
theorem side_prod {y r y' r' : Int} (hr : 0 ≤ r) (hr' : 0 ≤ r') : decide (IntKind.i64.wrap (sideI y r * sideI y' r') < 0) = crossB y r y' r' := by
  rw [sideI_eq y r hr, sideI_eq y' r' hr']
  unfold crossB
  by_cases a : r < y
  · have a' : ¬ y < -r := by omega
    by_cases b : r' < y'
    · have b' : ¬ y' < -r' := by omega
      simp [a, a', b, b', show IntKind.i64.wrap 1 = 1 by decide]
    · by_cases c : y' < -r' <;> simp [a, a', b, c, show IntKind.i64.wrap (-1) = -1 by decide, show IntKind.i64.wrap 0 = 0 by decide]
  · by_cases a' : y < -r
    · by_cases b : r' < y'
      · have b' : ¬ y' < -r' := by omega
        simp [a, a', b, b', show IntKind.i64.wrap (-1) = -1 by decide]
      · by_cases c : y' < -r' <;> simp [a, a', b, c, show IntKind.i64.wrap 1 = 1 by decide, show IntKind.i64.wrap 0 = 0 by decide]
    · simp [a, a', show IntKind.i64.wrap 0 = 0 by decide]
theorem arc_point {l : List Int} {g a x y r : Int} (h : chkL l g = 0) (ha : 0 ≤ a ∧ a ≤ 2048) (hv : ref08_Value circT l g a = some (x, y, r)) (hr : 0 ≤ r ∧ r ≤ 1099511627776) : ref08_Arc circT l g a a = some (x, y, r) := by
  obtain ⟨h1, h2, h3, h4, h5, _⟩ := chk_parts h
  obtain ⟨s1, s2, s3⟩ := sway_runX h2 h3
  have m1 := mul_le_nn (a := SS 0 l) (b := g) (A := 16252928) (B := 10000) ⟨s2, s3⟩ ⟨h4, h5⟩
  have m2 := mul_le_nn (a := SS 0 l * g) (b := 6284) (A := 162529280000) (B := 6284) (by omega) (by omega)
  unfold ref08_Arc
  rw [w64 (x := a + a) (by omega), bfloor_eq (by decide) (by omega), show (a + a) / 2 = a by omega, Option.bind_some, hv, s1]
  simp only [Option.bind_some]
  rw [w64 (x := SS 0 l * g) (by omega), w64 (x := SS 0 l * g * 6284) (by omega), Int.sub_self, w64 (x := (0 : Int)) (by omega), Int.mul_zero, w64 (x := (0 : Int)) (by omega), bceil_eq (by decide) (by decide) (by omega)]
  simp only [Option.bind_some]
  rw [show -(-(0 : Int) / 64000000) = 0 by decide, Int.add_zero, w64 (by omega)]
/-- where it rings, in plain words -/
theorem ringsR {l : List Int} {g a b : Int} (h : chkL l g = 0) (ha : 0 ≤ a) (hab : a ≤ b) (hb : b ≤ 2048) : ∃ t : Bool, loop_plot_ringsOn l g circT a b = some t ∧ ref08_Rings circT l g a b = some t ∧ (t = true → ∃ m, (0 ≤ m ∧ m ≤ 2048) ∧ (1099511627776000 ≤ TX' l g m) ∧ ((m = 0 ∨ m = 2048) ∨ (m < 2048 ∧ ((0 < TY' l g m ∧ TY' l g (m + 1) ≤ 0) ∨ (TY' l g m < 0 ∧ 0 ≤ TY' l g (m + 1)))))) := by
  obtain ⟨x, y, r, v1, v2, b1, b2, b3, hh⟩ := ballH h ha hab hb
  obtain ⟨x1, y1, r1, p1, p2, c1, c2, c3, h1⟩ := valH (m := a) h (by omega)
  obtain ⟨x2, y2, r2, q1, q2, d1, d2, d3, h2⟩ := valH (m := b) h (by omega)
  have wb : IntKind.i64.wrap (x - r) = x - r := w64 (by omega)
  have wb1 : IntKind.i64.wrap (x1 - r1) = x1 - r1 := w64 (by omega)
  by_cases e : a = b ∧ (a = 0 ∨ a = 2048)
  · obtain ⟨rfl, e0⟩ := e
    have hp := arc_point h ⟨ha, hb⟩ p2 c3
    refine ⟨beyB x1 r1, ?_, ?_, fun ht => ⟨a, ⟨ha, hb⟩, ?_, .inl e0⟩⟩
    · unfold loop_plot_ringsOn loop_atPoint loop_isBeyond
      simp only [Option.bind_some, p1, wb1]
      unfold beyB
      rcases e0 with rfl | rfl <;> simp
    · unfold ref08_Rings
      rw [hp]
      simp only [Option.bind_some, wb1]
      unfold beyB
      by_cases k : x1 - r1 < 1048576
      · have k' : ¬ 1048576 ≤ x1 - r1 := by omega
        simp [k, k']
      · have k' : 1048576 ≤ x1 - r1 := by omega
        rcases e0 with rfl | rfl <;> simp [k, k']
    · simp only [beyB, decide_eq_true_eq] at ht
      unfold Has at h1
      omega
  · refine ⟨beyB x r && crossB y1 r1 y2 r2, ?_, ?_, fun ht => ?_⟩
    · unfold loop_plot_ringsOn loop_atPoint loop_isBeyond
      simp only [Option.bind_some, v1, p1, q1, wb, sideR (x := x1) (y := y1) (r := r1) (by omega), sideR (x := x2) (y := y2) (r := r2) (by omega), side_prod c3.1 d3.1]
      have e1 : ([a == 0, b == 0].all id) = false := by
        by_cases z : a = 0 <;> by_cases z' : b = 0 <;> simp [z, z']
        exact e ⟨by omega, .inl z⟩
      have e2 : ([a == 2048, b == 2048].all id) = false := by
        by_cases z : a = 2048 <;> by_cases z' : b = 2048 <;> simp [z, z']
        exact e ⟨by omega, .inr z⟩
      rw [e1, e2]
      unfold beyB
      by_cases k : 1048576 ≤ x - r
      · simp [k]
      · simp [k]
    · unfold ref08_Rings
      rw [v2]
      simp only [Option.bind_some, p2, q2, wb]
      rw [w64 (x := 0 - r1) (by omega), w64 (x := 0 - r2) (by omega), Int.zero_sub, Int.zero_sub]
      unfold beyB crossB
      by_cases k : x - r < 1048576
      · have k' : ¬ 1048576 ≤ x - r := by omega
        simp [k, k']
      · have k' : 1048576 ≤ x - r := by omega
        have e1 : ¬ (a = b ∧ a = 0) := fun hh => e ⟨hh.1, .inl hh.2⟩
        have e2 : ¬ (a = b ∧ a = 2048) := fun hh => e ⟨hh.1, .inr hh.2⟩
        have fin : (if (decide (y1 > r1)) = true then (if (decide (y2 < -r2)) = true then some true else (if (decide (y1 < -r1)) = true then some (decide (y2 > r2)) else some false)) else (if (decide (y1 < -r1)) = true then some (decide (y2 > r2)) else some false)) = some (decide ((r1 < y1 ∧ y2 < -r2) ∨ (y1 < -r1 ∧ r2 < y2))) := by
          by_cases s1 : r1 < y1
          · have s1' : ¬ y1 < -r1 := by omega
            by_cases s2 : y2 < -r2 <;> simp [s1, s1', s2]
          · by_cases s1' : y1 < -r1
            · by_cases s2 : r2 < y2 <;> simp [s1, s1', s2]
            · simp [s1, s1']
        rw [fin]
        by_cases z : a = b
        · have z0 : ¬ a = 0 := fun hh => e1 ⟨z, hh⟩
          have z1 : ¬ a = 2048 := fun hh => e2 ⟨z, hh⟩
          simp [k, k', z, show ¬ b = 0 by omega, show ¬ b = 2048 by omega]
        · simp [k, k', z]
    · simp only [Bool.and_eq_true, beyB, crossB, decide_eq_true_eq] at ht
      obtain ⟨t1, t2⟩ := ht
      have hx : ∀ m, a ≤ m → m ≤ b → 1099511627776000 ≤ TX' l g m := fun m k1 k2 => by
        have := hh m k1 k2
        unfold Has at this
        omega
      obtain ⟨n, hn⟩ : ∃ n : Nat, b = a + (n : Int) := ⟨(b - a).toNat, by omega⟩
      unfold Has at h1 h2
      rcases t2 with ⟨t2, t3⟩ | ⟨t2, t3⟩
      · obtain ⟨m, k1, k2, k3, k4⟩ := sign_change (TY' l g) a n (by omega) (by rw [← hn]; omega)
        exact ⟨m, by omega, hx m k1 (by omega), .inr ⟨by omega, .inl ⟨k3, k4⟩⟩⟩
      · obtain ⟨m, k1, k2, k3, k4⟩ := sign_change (fun t => -TY' l g t) a n (by omega) (by show -TY' l g (a + n) ≤ 0; rw [← hn]; omega)
        exact ⟨m, by omega, hx m k1 (by omega), .inr ⟨by omega, .inr ⟨by omega, by omega⟩⟩⟩
theorem rings_of {l : List Int} {g : Int} (h : ∃ m, (0 ≤ m ∧ m ≤ 2048) ∧ (1099511627776000 ≤ TX' l g m) ∧ ((m = 0 ∨ m = 2048) ∨ (m < 2048 ∧ ((0 < TY' l g m ∧ TY' l g (m + 1) ≤ 0) ∨ (TY' l g m < 0 ∧ 0 ≤ TY' l g (m + 1)))))) : Rings l g := by
  obtain ⟨m, ⟨h0, h1⟩, hx, hc | ⟨hm, hy⟩⟩ := h
  · exact .real m h0 h1 hx (TY_half hc)
  · exact .over m h0 hm hx hy
end Go.Rex

open Go Go.Rex
namespace Go.Rex
set_option maxRecDepth 100000
def arcErr (a b : Int) : Int := if 0 ≤ a ∧ a ≤ 2048 ∧ 0 ≤ b ∧ b ≤ 2048 then (if a > b then 9 else 0) else 2
theorem arcErr0 {a b : Int} : arcErr a b = 0 ↔ 0 ≤ a ∧ a ≤ b ∧ b ≤ 2048 := by
  unfold arcErr
  by_cases h : 0 ≤ a ∧ a ≤ 2048 ∧ 0 ≤ b ∧ b ≤ 2048
  · rw [if_pos h]
    by_cases h2 : a > b
    · rw [if_pos h2]; constructor
      · intro hh; cases hh
      · intro hh; omega
    · rw [if_neg h2]; constructor
      · intro _; omega
      · intro _; rfl
  · rw [if_neg h]; constructor
    · intro hh; cases hh
    · intro hh; omega
noncomputable def clearC (l : List Int) (g : Int) (a : Int × Int) : Bool := match loop_plot_ball l g circT a.1 a.2 with
  | some (x, y, r) => clearB x y r
  | none => false
theorem clearC_on {l : List Int} {g : Int} {a : Int × Int} (h : clearC l g a = true) : clearOn l g a := by
  unfold clearC at h
  split at h
  · rename_i x y r hv; exact ⟨x, y, r, hv, h⟩
  · cases h
noncomputable def arcsE (l : List Int) (g : Int) : Int → List (Int × Int) → Int ⊕ Int
  | p, [] => .inr p
  | p, a :: t => if arcErr a.1 a.2 ≠ 0 then .inl (arcErr a.1 a.2) else if a.1 ≠ p then .inl 14 else if clearC l g a = true then arcsE l g a.2 t else .inl 20
theorem arcsE_ne {l : List Int} {g : Int} : ∀ {t : List (Int × Int)} {p e : Int}, arcsE l g p t = .inl e → e ≠ 0
  | [], p, e, h => by cases h
  | a :: t, p, e, h => by
    simp only [arcsE] at h
    split at h
    · rename_i hh; cases h; exact hh
    · split at h
      · cases h; decide
      · split at h
        · exact arcsE_ne h
        · cases h; decide
theorem arcsE_last {l : List Int} {g : Int} : ∀ {t : List (Int × Int)} {p v : Int}, arcsE l g p t = .inr v → v = ((t.getLast?).map (·.2)).getD p
  | [], p, v, h => by cases h; rfl
  | a :: t, p, v, h => by
    simp only [arcsE] at h
    split at h
    · cases h
    · split at h
      · cases h
      · split at h
        · have := arcsE_last h
          rw [this]
          cases t with
          | nil => rfl
          | cons b t => rfl
        · cases h
theorem arcsE_cover {l : List Int} {g : Int} : ∀ {t : List (Int × Int)} {p : Int}, arcsE l g p t = .inr 2048 → Cover l g p t
  | [], p, h => by cases h; exact .nil
  | a :: t, p, h => by
    simp only [arcsE] at h
    split at h
    · cases h
    · rename_i h1
      have h1 := arcErr0.1 (Classical.byContradiction h1)
      split at h
      · cases h
      · rename_i h2
        split at h
        · rename_i h3
          exact .cons h1.1 h1.2.1 h1.2.2 (Classical.byContradiction h2) (clearC_on h3) (arcsE_cover h)
        · cases h
theorem clear_ball {l : List Int} {g : Int} {a : Int × Int} (h : chkL l g = 0) (ha : arcErr a.1 a.2 = 0) : ∃ x y r, loop_plot_ball l g circT a.1 a.2 = some (x, y, r) ∧ ref08_Arc circT l g a.1 a.2 = some (x, y, r) ∧ loop_IsClear x y r = some (clearC l g a) ∧ ref08_IsClear x y r = some (clearC l g a) := by
  obtain ⟨h1, h2, h3⟩ := arcErr0.1 ha
  obtain ⟨x, y, r, v1, v2, b1, b2, b3⟩ := ballR h h1 h2 h3
  obtain ⟨c1, c2⟩ := clearR (x := x) (y := y) (r := r) ⟨b1, b2, b3⟩
  have e : clearC l g a = clearB x y r := by unfold clearC; rw [v1]
  rw [e]
  exact ⟨x, y, r, v1, v2, c1, c2⟩
theorem ref_run {l : List Int} {g : Int} {arcs : List (Int × Int)} (h : chkL l g = 0) (hl : arcs.length ≤ 1048576) : ∀ (t : List (Int × Int)) (k : Nat) (p : Int), arcs.drop k = t → k ≤ arcs.length → run (ref08_CheckArcs_l1 l g arcs circT) (p, (k : Int)) = some (arcsE l g p t) := by
  intro t
  induction t with
  | nil =>
    intro k p hk hkl
    have : k = arcs.length := by
      have := congrArg List.length hk
      simp at this
      omega
    subst this
    refine run_stop ?_
    unfold ref08_CheckArcs_l1
    simp only
    rw [if_neg (by simp)]
    rfl
  | cons a t ih =>
    intro k p hk hkl
    have hx : arcs[k]? = some a := by
      have := congrArg (fun l => l[0]?) hk
      simpa using this
    have hlt := (List.getElem?_eq_some_iff.1 hx).1
    have ht : arcs.drop (k + 1) = t := by
      have := congrArg List.tail hk
      simpa using this
    have hg : getI arcs (k : Int) = some a := by unfold getI; rw [if_pos (by omega)]; exact hx
    have hstep : ref08_CheckArcs_l1 l g arcs circT (p, (k : Int)) = some (if arcErr a.1 a.2 ≠ 0 then .inr (.inl (arcErr a.1 a.2)) else if a.1 ≠ p then .inr (.inl 14) else if clearC l g a = true then .inl (a.2, ((k + 1 : Nat) : Int)) else .inr (.inl 20)) := by
      unfold ref08_CheckArcs_l1
      simp only
      rw [if_pos (by simp only [decide_eq_true_eq]; omega), hg, Option.bind_some]
      have ha : ref08_ArcErr a.1 a.2 = some (arcErr a.1 a.2) := (arcR a.1 a.2).2
      simp only [ha, Option.bind_some]
      rw [wsucc (n := arcs.length) (by omega) (by omega)]
      by_cases h1 : arcErr a.1 a.2 = 0
      · by_cases h2 : a.1 = p
        · subst h2
          obtain ⟨x, y, r, v1, v2, v3, v4⟩ := clear_ball h h1
          by_cases h3 : clearC l g a = true <;> simp [h1, v2, v4, h3]
        · simp [h1, h2]
      · simp [h1]
    simp only [arcsE]
    by_cases h1 : arcErr a.1 a.2 = 0
    · rw [if_neg (by simpa using h1)] at hstep ⊢
      by_cases h2 : a.1 = p
      · rw [if_neg (by simpa using h2)] at hstep ⊢
        by_cases h3 : clearC l g a = true
        · rw [if_pos h3] at hstep ⊢
          rw [run_next hstep]
          exact ih (k + 1) a.2 ht (by omega)
        · rw [if_neg h3] at hstep ⊢
          exact run_stop hstep
      · rw [if_pos h2] at hstep ⊢
        exact run_stop hstep
    · rw [if_pos h1] at hstep ⊢
      exact run_stop hstep
def begA (arcs : List (Int × Int)) (k : Nat) : Int := if k = 0 then 0 else ((arcs[k - 1]?).map (·.2)).getD 0
theorem beg_eq {arcs : List (Int × Int)} {k : Nat} (hk : k ≤ arcs.length) (hl : arcs.length ≤ 1048576) : loop_plot_provenBy_c1_cff2 (k : Int) arcs = some (begA arcs k) := by
  unfold loop_plot_provenBy_c1_cff2 begA
  by_cases h : k = 0
  · subst h; rfl
  · rw [if_neg (by simp only [decide_eq_true_eq]; omega), if_neg h, w64 (by omega)]
    have : getI arcs ((k : Int) - 1) = arcs[k - 1]? := by unfold getI; rw [if_pos (by omega)]; congr 1; omega
    rw [this, List.getElem?_eq_getElem (by omega)]
    rfl
theorem prog_run {l : List Int} {g : Int} {arcs : List (Int × Int)} (h : chkL l g = 0) (hl : arcs.length ≤ 1048576) : ∀ (t : List (Int × Int)) (k : Nat), arcs.drop k = t → k ≤ arcs.length → run (loop_each_c1_ff07_l1 (arcs.length : Int) arcs arcs l g circT) (k : Int) = some (match arcsE l g (begA arcs k) t with | .inl e => .inl e | .inr _ => .inr ()) := by
  intro t
  induction t with
  | nil =>
    intro k hk hkl
    have : k = arcs.length := by
      have := congrArg List.length hk
      simp at this
      omega
    subst this
    refine run_stop ?_
    unfold loop_each_c1_ff07_l1
    rw [if_neg (by simp)]
    rfl
  | cons a t ih =>
    intro k hk hkl
    have hx : arcs[k]? = some a := by
      have := congrArg (fun l => l[0]?) hk
      simpa using this
    have hlt := (List.getElem?_eq_some_iff.1 hx).1
    have ht : arcs.drop (k + 1) = t := by
      have := congrArg List.tail hk
      simpa using this
    have hg : getI arcs (k : Int) = some a := by unfold getI; rw [if_pos (by omega)]; exact hx
    have hb : begA arcs (k + 1) = a.2 := by
      unfold begA
      rw [if_neg (by omega), show k + 1 - 1 = k by omega, hx]
      rfl
    have hcode : loop_plot_provenBy_c2_c1_6729 (k : Int) arcs arcs l g circT = some (if arcErr a.1 a.2 ≠ 0 then arcErr a.1 a.2 else if a.1 ≠ begA arcs k then 14 else if clearC l g a = true then 0 else 20) := by
      unfold loop_plot_provenBy_c2_c1_6729 loop_onHalf loop_refuse loop_firstError_64d9
      rw [hg, Option.bind_some]
      have ha : loop_onHalf_c1_eebc a.1 a.2 = some (arcErr a.1 a.2) := (arcR a.1 a.2).1
      simp only [Option.bind_some, beg_eq hkl hl, ha, refuseR]
      generalize begA arcs k = p
      by_cases h1 : arcErr a.1 a.2 = 0
      · by_cases h2 : a.1 = p
        · subst h2
          obtain ⟨x, y, r, v1, v2, v3, v4⟩ := clear_ball h h1
          unfold loop_plot_provenBy_c2_c1_c1_4b26 loop_refuse
          by_cases h3 : clearC l g a = true <;> simp [h1, v1, v3, h3, refuseR]
        · simp [h1, h2]
      · simp [h1]
    have hstep : loop_each_c1_ff07_l1 (arcs.length : Int) arcs arcs l g circT (k : Int) = some (if arcErr a.1 a.2 ≠ 0 then .inr (.inl (arcErr a.1 a.2)) else if a.1 ≠ begA arcs k then .inr (.inl 14) else if clearC l g a = true then .inl ((k + 1 : Nat) : Int) else .inr (.inl 20)) := by
      unfold loop_each_c1_ff07_l1
      rw [if_pos (by simp only [decide_eq_true_eq]; omega), hcode, Option.bind_some, wsucc (n := arcs.length) (by omega) (by omega)]
      generalize arcErr a.1 a.2 = e
      by_cases h1 : e = 0
      · by_cases h2 : a.1 = begA arcs k
        · by_cases h3 : clearC l g a = true <;> simp [h1, h2, h3]
        · simp [h1, h2]
      · simp [h1]
    simp only [arcsE]
    by_cases h1 : arcErr a.1 a.2 = 0
    · rw [if_neg (by simpa using h1)] at hstep ⊢
      by_cases h2 : a.1 = begA arcs k
      · rw [if_neg (by simpa using h2)] at hstep ⊢
        by_cases h3 : clearC l g a = true
        · rw [if_pos h3] at hstep ⊢
          rw [run_next hstep, ← hb]
          exact ih (k + 1) ht (by omega)
        · rw [if_neg h3] at hstep ⊢
          exact run_stop hstep
      · rw [if_pos h2] at hstep ⊢
        exact run_stop hstep
    · rw [if_pos h1] at hstep ⊢
      exact run_stop hstep
noncomputable def arcsC (l : List Int) (g : Int) (arcs : List (Int × Int)) : Int := if arcs.length > 512 then 8 else match arcsE l g 0 arcs with
  | .inl e => e
  | .inr v => if v ≠ 2048 then 14 else 0
theorem arcsC_cover {l : List Int} {g : Int} {arcs : List (Int × Int)} (h : arcsC l g arcs = 0) : Cover l g 0 arcs := by
  unfold arcsC at h
  split at h
  · cases h
  · split at h
    · rename_i e he; exact absurd h (arcsE_ne he)
    · rename_i v hv
      split at h
      · cases h
      · rename_i hh
        have : v = 2048 := Classical.byContradiction hh
        subst this
        exact arcsE_cover hv
theorem refArcs {l : List Int} {g : Int} {arcs : List (Int × Int)} (h : chkL l g = 0) (hl : arcs.length ≤ 1048576) : ref08_CheckArcs l g arcs = some (arcsC l g arcs) := by
  unfold ref08_CheckArcs arcsC
  by_cases h1 : arcs.length > 512
  · rw [if_pos (by simp only [decide_eq_true_eq]; omega), if_pos h1]
  · rw [if_neg (by simp only [decide_eq_true_eq]; omega), if_neg h1, table_T, Option.bind_some]
    have hr : run (ref08_CheckArcs_l1 l g arcs circT) (0, 0) = _ := ref_run h hl arcs 0 0 rfl (Nat.zero_le _)
    rw [hr, Option.bind_some]
    cases he : arcsE l g 0 arcs with
    | inl e => rfl
    | inr v =>
      simp only
      by_cases h2 : v = 2048
      · subst h2
        rw [if_neg (by simp)]
        have hne : ¬ arcs.length = 0 := by
          intro h0
          have : arcs = [] := List.length_eq_zero_iff.1 h0
          subst this
          cases he
        rw [if_neg (by simp only [decide_eq_true_eq]; omega)]
        rfl
      · rw [if_pos (by simpa using h2), if_pos h2]
theorem progArcs {l : List Int} {g : Int} {arcs : List (Int × Int)} (h : chkL l g = 0) (hl : arcs.length ≤ 1048576) : loop_CheckArcs l g arcs = some (if arcsC l g arcs = 0 then ((arcs.length : Int), 0) else (0, arcsC l g arcs)) := by
  have hll : l.length ≤ 1048576 := by have := (chk_parts h).2.1; omega
  have hfin : ∀ e : Int, (if decide (e ≠ 0) = true then some ((0 : Int), e) else some ((arcs.length : Int), (0 : Int))) = some (if e = 0 then ((arcs.length : Int), 0) else (0, e)) := by
    intro e
    by_cases he : e = 0 <;> simp [he]
  have hB : ¬ arcs.length > 512 → loop_plot_provenBy_c2_e9f9 arcs arcs l g circT = some (match arcsE l g 0 arcs with | .inl e => e | .inr v => if v ≠ 2048 then 14 else 0) := by
    intro h1
    unfold loop_plot_provenBy_c2_e9f9 loop_each_561b loop_refuse loop_firstError_ba72 loop_each_c1_ff07
    have hr : run (loop_each_c1_ff07_l1 (arcs.length : Int) arcs arcs l g circT) 0 = _ := prog_run h hl arcs 0 rfl (Nat.zero_le _)
    have e0 : begA arcs 0 = 0 := rfl
    rw [e0] at hr
    simp only [Option.bind_some, beg_eq (Nat.le_refl _) hl, hr, refuseR]
    cases he : arcsE l g 0 arcs with
    | inl e => simp [arcsE_ne he]
    | inr v =>
      have hv : v = begA arcs arcs.length := by
        rw [arcsE_last he]
        unfold begA
        by_cases h0 : arcs.length = 0
        · have : arcs = [] := List.length_eq_zero_iff.1 h0
          subst this; rfl
        · rw [if_neg h0, List.getLast?_eq_getElem?, List.getElem?_eq_getElem (by omega)]
      rw [← hv]
      by_cases h2 : v = 2048 <;> simp [h2]
  unfold loop_CheckArcs loop_plotOf loop_refuse loop_plot_provenBy loop_firstError_ce11
  simp only [newCircle_T, Option.bind_some, checkR g hll, h, refuseR]
  by_cases h1 : arcs.length > 512
  · have e : arcsC l g arcs = 8 := by unfold arcsC; rw [if_pos h1]
    have e1 : ((arcs.length : Int) > 512) := by omega
    simp [e, e1]
  · have e : arcsC l g arcs = match arcsE l g 0 arcs with | .inl e => e | .inr v => if v ≠ 2048 then 14 else 0 := by unfold arcsC; rw [if_neg h1]
    have e1 : ¬ ((arcs.length : Int) > 512) := by omega
    rw [hB h1, ← e]
    by_cases h2 : arcsC l g arcs = 0 <;> simp [e1, h2]
theorem progRings {l : List Int} {g a b : Int} (h : chkL l g = 0) : ∃ d, loop_CheckRings l g a b = some d ∧ (arcErr a b ≠ 0 → d = arcErr a b) ∧ (arcErr a b = 0 → ∃ t, ref08_Rings circT l g a b = some t ∧ d = (if t = true then 0 else 20) ∧ (t = true → Rings l g)) := by
  have hll : l.length ≤ 1048576 := by have := (chk_parts h).2.1; omega
  have ha : loop_onHalf_c1_eebc a b = some (arcErr a b) := (arcR a b).1
  unfold loop_CheckRings loop_plotOf loop_onHalf loop_firstError_203d
  simp only [newCircle_T, Option.bind_some, checkR g hll, h, ha]
  by_cases h1 : arcErr a b = 0
  · obtain ⟨k1, k2, k3⟩ := arcErr0.1 h1
    obtain ⟨t, r1, r2, r3⟩ := ringsR h k1 k2 k3
    unfold loop_CheckRings_c1_4b26 loop_refuse
    simp only [r1, Option.bind_some, refuseR]
    refine ⟨if t = true then 0 else 20, ?_, fun hh => absurd h1 hh, fun _ => ⟨t, r2, rfl, fun ht => rings_of (r3 ht)⟩⟩
    cases t <;> simp [h1]
  · refine ⟨arcErr a b, ?_, fun _ => rfl, fun hh => absurd hh h1⟩
    simp [h1]
end Go.Rex

open Go Go.Rex
namespace Go.Rex
set_option maxRecDepth 100000
theorem copyA {l : List (Int × Int)} (h : l.length ≤ 1048576) : ref08_CopyArcs l = some l := by
  unfold ref08_CopyArcs appI
  rw [if_pos (by simp; omega)]
  simp
theorem proofs_true (l : List Int) (g : Int) (arcs : List (Int × Int)) (a b : Int) : law08_LoopProofs l g arcs a b = some true := by
  unfold law08_LoopProofs law08_few
  rw [Option.bind_some]
  by_cases hf : l.length ≤ 34
  · have hl : l.length ≤ 1048576 := by omega
    rw [if_pos (by simp only [decide_eq_true_eq]; omega)]
    by_cases hs : arcs.length > 514
    · have e1 : (arcs.length : Int) > 20 := by omega
      have e2 : ¬ (arcs.length : Int) ≤ 512 := by omega
      have e3 : (arcs.length : Int) > 514 := by omega
      simp [e1, e2, e3]
    · have hA : arcs.length ≤ 1048576 := by omega
      have e3 : ¬ (arcs.length : Int) > 514 := by omega
      simp only [copyL g hl, copyA hA, Option.bind_some, refCheckR g hl, e3, decide_false, Bool.false_eq_true, if_false]
      by_cases h0 : chkL l g = 0
      · obtain ⟨d, r1, r2, r3⟩ := progRings (a := a) (b := b) h0
        have hae : ref08_ArcErr a b = some (arcErr a b) := (arcR a b).2
        simp only [progArcs h0 hA, refArcs h0 hA, r1, hae, h0, table_T, Option.bind_some, ne_eq, not_true_eq_false, decide_false, Bool.false_eq_true, if_false]
        have hno : arcsC l g arcs = 0 → ¬ Rings l g := fun h => never_both h0 (arcsC_cover h)
        by_cases c1 : arcsC l g arcs = 0
        · by_cases c2 : arcErr a b = 0
          · obtain ⟨t, q1, q2, q3⟩ := r3 c2
            have ht : t = false := by
              cases t with
              | false => rfl
              | true => exact absurd (q3 rfl) (hno c1)
            subst ht
            by_cases c3 : (arcs.length : Int) > 20 <;> by_cases c4 : (arcs.length : Int) ≤ 512 <;> simp [c1, c2, c3, c4, q1, q2]
          · have := r2 c2
            by_cases c3 : (arcs.length : Int) > 20 <;> by_cases c4 : (arcs.length : Int) ≤ 512 <;> simp [c1, c2, c3, c4, this]
        · by_cases c2 : arcErr a b = 0
          · obtain ⟨t, q1, q2, q3⟩ := r3 c2
            cases t <;> by_cases c3 : (arcs.length : Int) > 20 <;> by_cases c4 : (arcs.length : Int) ≤ 512 <;> simp [c1, c2, c3, c4, q1, q2]
          · have := r2 c2
            by_cases c3 : (arcs.length : Int) > 20 <;> by_cases c4 : (arcs.length : Int) ≤ 512 <;> simp [c1, c2, c3, c4, this]
      · have hpa : loop_CheckArcs l g arcs = some (0, chkL l g) := by
          unfold loop_CheckArcs loop_plotOf loop_refuse loop_plot_provenBy loop_firstError_ce11
          simp only [newCircle_T, Option.bind_some, checkR g hl]
          simp [h0]
        have hpr : loop_CheckRings l g a b = some (chkL l g) := by
          unfold loop_CheckRings loop_plotOf loop_onHalf loop_firstError_203d
          simp only [newCircle_T, Option.bind_some, checkR g hl]
          simp [h0]
        simp only [hpa, hpr, Option.bind_some]
        by_cases c3 : (arcs.length : Int) > 20 <;> by_cases c4 : (arcs.length : Int) ≤ 512 <;> simp [c3, c4, h0]
  · rw [if_neg (by simp only [decide_eq_true_eq]; omega)]
end Go.Rex

namespace Go.Rex
open Go Go.ChangeShapes Go.WideShapes Go.ChangeAt Go.RowKit Go.Joins Go.Proofs
/-! ### arguments: what they are as trees,and the names of their blocks -/
structure Arg (W : World) (v' : Value) (p : TV) (bs : List Blk) (is : List Info) (av : Nat → Value) : Prop where
  vr : ∀ (D : Nat → Prop) (m : NMap) n,(∀ j,j < bs.length → D (n + j)) → (∀ (j : Nat) i,is[j]? = some i → m (n + j) = i) → VR D m (av n) v'
  vl : ∀ (Fz : Nat → Prop) (h : List Blk) n,(∀ j,j < bs.length → Fz (n + j)) → (∀ (j : Nat) b,bs[j]? = some b → h[n + j]? = some b) → VL Fz h noL p (av n)
  ok : ∀ (D : Nat → Prop) (m : NMap) n,(∀ j,j < bs.length → D (n + j)) → (∀ (j : Nat) i,is[j]? = some i → m (n + j) = i) → ∀ (j : Nat) b,bs[j]? = some b → BlkOk D m W (n + j) b
  lt : ∀ (j : Nat) b i,bs[j]? = some b → is[j]? = some i → b ≠ .dead → i.block < W.heap.size
  len : is.length = bs.length
structure Args (W : World) (vs' : List Value) (ps : List TV) (bs : List Blk) (is : List Info) (av : Nat → List Value) : Prop where
  vr : ∀ (D : Nat → Prop) (m : NMap) n,(∀ j,j < bs.length → D (n + j)) → (∀ (j : Nat) i,is[j]? = some i → m (n + j) = i) → VRs D m (av n) vs'
  vl : ∀ (Fz : Nat → Prop) (h : List Blk) n,(∀ j,j < bs.length → Fz (n + j)) → (∀ (j : Nat) b,bs[j]? = some b → h[n + j]? = some b) → VLs Fz h noL ps (av n)
  ok : ∀ (D : Nat → Prop) (m : NMap) n,(∀ j,j < bs.length → D (n + j)) → (∀ (j : Nat) i,is[j]? = some i → m (n + j) = i) → ∀ (j : Nat) b,bs[j]? = some b → BlkOk D m W (n + j) b
  lt : ∀ (j : Nat) b i,bs[j]? = some b → is[j]? = some i → b ≠ .dead → i.block < W.heap.size
  len : is.length = bs.length
theorem Args.nil (W : World) : Args W [] [] [] [] (fun _=>[]) :=
  ⟨fun _ _ _ _ _=>⟨rfl,fun i a a' h=>by simp at h⟩,fun _ _ _ _ _=>.nil,fun _ _ _ _ _ j b h=>by simp at h,fun j b i h=>by simp at h,rfl⟩
theorem Args.cons {W : World} {v' : Value} {p : TV} {bs bs2 : List Blk} {is is2 : List Info} {av : Nat → Value} {vs' : List Value} {ps : List TV} {avs : Nat → List Value}
    (a : Arg W v' p bs is av) (as : Args W vs' ps bs2 is2 avs) : Args W (v' :: vs') (p :: ps) (bs ++ bs2) (is ++ is2) (fun n=>av n :: avs (n + bs.length)):=by
  have cD : ∀ (D : Nat → Prop) n,(∀ j,j < (bs ++ bs2).length → D (n + j)) → (∀ j,j < bs.length → D (n + j)) ∧ (∀ j,j < bs2.length → D (n + bs.length + j)):=by
    intro D n h
    refine ⟨fun j hj=>h j (by simp;omega),fun j hj=>?_⟩
    have:=h (bs.length + j) (by simp;omega)
    rwa [← Nat.add_assoc] at this
  have cI : ∀ (m : NMap) n,(∀ (j : Nat) i,(is ++ is2)[j]? = some i → m (n + j) = i) → (∀ (j : Nat) i,is[j]? = some i → m (n + j) = i) ∧ (∀ (j : Nat) i,is2[j]? = some i → m (n + bs.length + j) = i):=by
    intro m n h
    refine ⟨fun j i hj=>h j i (by rw [List.getElem?_append_left (List.getElem?_eq_some_iff.1 hj).1];exact hj),fun j i hj=>?_⟩
    have:=h (bs.length + j) i (by rw [List.getElem?_append_right (by rw [a.len];omega),a.len,Nat.add_sub_cancel_left];exact hj)
    rwa [← Nat.add_assoc] at this
  refine ⟨fun D m n hD hm=>?_,fun Fz h n hF hh=>?_,fun D m n hD hm j b hb=>?_,fun j b i hb hi hd=>?_,by simp [a.len,as.len]⟩
  · have h1:=a.vr D m n (cD D n hD).1 (cI m n hm).1
    have h2:=as.vr D m (n + bs.length) (cD D n hD).2 (cI m n hm).2
    refine ⟨by simp [h2.len],fun i x x' hx hx'=>?_⟩
    cases i with
    | zero=>simp at hx hx';subst hx hx';exact h1
    | succ i=>simp at hx hx';exact h2.at' i x x' hx hx'
  · refine .cons (a.vl Fz h n (cD Fz n hF).1 fun j b hb=>hh j b (by rw [List.getElem?_append_left (List.getElem?_eq_some_iff.1 hb).1];exact hb)) (as.vl Fz h (n + bs.length) (cD Fz n hF).2 fun j b hb=>?_)
    have:=hh (bs.length + j) b (by rw [List.getElem?_append_right (by omega),Nat.add_sub_cancel_left];exact hb)
    rwa [← Nat.add_assoc] at this
  · rcases Nat.lt_or_ge j bs.length with hj|hj
    · rw [List.getElem?_append_left hj] at hb
      exact a.ok D m n (cD D n hD).1 (cI m n hm).1 j b hb
    · rw [List.getElem?_append_right hj] at hb
      have:=as.ok D m (n + bs.length) (cD D n hD).2 (cI m n hm).2 _ b hb
      rwa [show n + bs.length + (j - bs.length) = n + j by omega] at this
  · rcases Nat.lt_or_ge j bs.length with hj|hj
    · rw [List.getElem?_append_left hj] at hb
      rw [List.getElem?_append_left (by rw [a.len];exact hj)] at hi
      exact a.lt j b i hb hi hd
    · rw [List.getElem?_append_right hj] at hb
      rw [List.getElem?_append_right (by rw [a.len];exact hj),a.len] at hi
      exact as.lt _ b i hb hi hd
/-- the names of the arguments -/
def nm (is : List Info) : NMap:=fun n=>is.getD n ⟨0,0,0,0⟩
theorem nm_at {is : List Info} {j : Nat} {i : Info} (h : is[j]? = some i) : nm is (0 + j) = i:=by
  unfold nm
  rw [Nat.zero_add,List.getD_eq_getElem?_getD,h]
  rfl
section
variable {W : World} {vs' : List Value} {ps : List TV} {bs : List Blk} {is : List Info} {av : Nat → List Value}
theorem Args.rel (a : Args W vs' ps bs is av) : Rel W.heap.size bs.length (fun k=>k < bs.length) (nm is) bs W:=by
  refine ⟨Nat.le_refl _,fun _ h=>h,fun n b hn hb=>?_,fun n b hn hb hd=>?_,fun n b hD hl=>absurd hD (by omega),fun n b hn _ hb hd=>?_,fun n b hD hl=>absurd hD (by omega),fun n n' b b' hD _ hl=>absurd hD (by omega)⟩
  · have:=a.ok (fun k=>k < bs.length) (nm is) 0 (fun j hj=>by omega) (fun j i hi=>nm_at hi) n b hb
    rwa [Nat.zero_add] at this
  all_goals
    have hi : n < is.length:=by rw [a.len];exact hn
    have e:=nm_at (List.getElem?_eq_getElem hi)
    rw [Nat.zero_add] at e
    rw [e]
    exact a.lt n b _ hb (List.getElem?_eq_getElem hi) hd
theorem Args.vls (a : Args W vs' ps bs is av) : VLs (fun k=>k < bs.length) bs noL ps (av 0):=a.vl _ _ 0 (fun j hj=>by omega) (fun j b hb=>by rw [Nat.zero_add];exact hb)
theorem Args.vrs (a : Args W vs' ps bs is av) : VRs (fun k=>k < bs.length) (nm is) (av 0) vs':=a.vr _ _ 0 (fun j hj=>by omega) (fun j i hi=>nm_at hi)
end
theorem len1 {α : Type} {l : List α} (h : l.length = 1) : ∃ x0,l = [x0]:=by
  match l,h with
  | [x0],_=>exact ⟨_,rfl⟩
theorem len2 {α : Type} {l : List α} (h : l.length = 2) : ∃ x0 x1,l = [x0,x1]:=by
  match l,h with
  | [x0,x1],_=>exact ⟨_,_,rfl⟩
/-! ### arguments without names -/
def AtomV (c : Value) : Prop:=isAtom c = true ∧ ∀ D m,VR D m c c
theorem atomV_int (k : IntKind) (n : Int) : AtomV (.int k n):=⟨rfl,fun _ _=>.int _ _⟩
theorem Arg.atom {W : World} {v : Value} (h : AtomV v) : Arg W v (.v v) [] [] (fun _=>v) :=
  ⟨fun _ _ _ _ _=>h.2 _ _,fun _ _ _ _ _=>.v _ _ h.1,fun _ _ _ _ _ j b h=>by simp at h,fun j b i h=>by simp at h,rfl⟩
theorem Arg.agg {W : World} {l : List Value} (h : ∀ c ∈ l,AtomV c) : Arg W (.agg ⟨l⟩) (.agg (l.map .v)) [] [] (fun _=>.agg ⟨l⟩):=by
  refine ⟨fun _ _ _ _ _=>.agg _ _ rfl fun i v v' hv hv'=>?_,fun _ _ _ _ _=>.agg _ _ _ (by simp) fun i p x hp hx=>?_,fun _ _ _ _ _ j b h=>by simp at h,fun j b i h=>by simp at h,rfl⟩
  · obtain rfl : v = v':=Option.some.inj (hv.symm.trans hv')
    exact (h v (List.mem_of_getElem? hv)).2 _ _
  · rw [List.getElem?_map,hx] at hp
    obtain rfl:=Option.some.inj hp
    exact .v _ _ (h x (List.mem_of_getElem? hx)).1
/-! ### a slice of rows -/
theorem flatMap_at {α β : Type} {g : α → List β} {es : Nat} (hg : ∀ x,(g x).length = es) (he : 0 < es) : ∀ (xs : List α) i,(xs.flatMap g)[i]? = (xs[i / es]?).bind fun x=>(g x)[i % es]?
  | [],i=>by simp
  | x :: t,i=>by
    rw [List.flatMap_cons]
    rcases Nat.lt_or_ge i es with h|h
    · rw [List.getElem?_append_left (by rw [hg];exact h),Nat.div_eq_of_lt h,Nat.mod_eq_of_lt h]
      rfl
    · rw [List.getElem?_append_right (by rw [hg];exact h),hg,flatMap_at hg he t (i - es)]
      have e1 : i / es = (i - es) / es + 1:=by rw [Nat.div_eq_sub_div he h]
      have e2 : i % es = (i - es) % es:=Nat.mod_eq_sub_mod h
      rw [e1,e2]
      rfl
theorem flatMap_len {α β : Type} {g : α → List β} {es : Nat} (hg : ∀ x,(g x).length = es) : ∀ (xs : List α),(xs.flatMap g).length = xs.length * es
  | []=>by simp
  | x :: t=>by rw [List.flatMap_cons,List.length_append,hg,flatMap_len hg t,List.length_cons,Nat.add_mul];omega
theorem flatMap_map {α : Type} {f : α → List TV} {g : α → List Value} (hf : ∀ x,f x = (g x).map .v) : ∀ (xs : List α),(xs.map f).flatten = (xs.flatMap g).map .v
  | []=>rfl
  | x :: t=>by rw [List.map_cons,List.flatten_cons,flatMap_map hf t,List.flatMap_cons,List.map_append,hf]
theorem choose_list {α : Type} {Q : Nat → α → Prop} : ∀ n,(∀ i,i < n → ∃ x,Q i x) → ∃ xs : List α,xs.length = n ∧ ∀ (i : Nat) x,xs[i]? = some x → Q i x
  | 0,_=>⟨[],rfl,fun i x h=>by simp at h⟩
  | n + 1,h=>by
    obtain ⟨xs,hl,hq⟩:=choose_list n (fun i hi=>h i (by omega))
    obtain ⟨x,hx⟩:=h n (by omega)
    refine ⟨xs ++ [x],by simp [hl],fun i y hy=>?_⟩
    rcases Nat.lt_or_ge i n with hi|hi
    · rw [List.getElem?_append_left (by omega)] at hy
      exact hq i y hy
    · rw [List.getElem?_append_right (by omega),hl] at hy
      have : i = n:=by
        rcases Nat.lt_or_ge 0 (i - n) with g|g
        · rw [List.getElem?_eq_none (by simp;omega)] at hy;cases hy
        · omega
      subst this
      simp at hy
      subst hy
      exact hx
section
variable {H : Type} {enc : TypeId × Value → H} {W : World} {base : Nat} {spare : Nat → Bool} {held : Bool}
theorem open_rowsC {α : Type} {f : α → List TV} {g : α → List Value} {es : Nat} (he : 0 < es) (hf : ∀ x, f x = (g x).map .v) (hg : ∀ x, (g x).length = es) (hat : ∀ x, ∀ c ∈ g x, AtomV c)
    {P : Program} {t te : TypeId} (ht : P.underlying t = some (.slice te)) (hC : P.cellsOf te = es) {r : Reach} {b0 : Nat} {v' : Value} (hval : Cell.okWide P W r b0 t v')
    (elem : ∀ n cs y,DataW.trod enc P W base spare held n te cs = some y → cs.length = es → ∃ x : α,cs = g x)
    {fuel : Nat} {x : DataW H × List MemPlace} (h : DataW.trod enc P W base spare held fuel t [v'] = some x) : ∃ (xs : List α) (bs : List Blk) (is : List Info) (av : Nat → Value),Arg W v' (.list es (xs.map f)) bs is av:=by
  rcases DataW.trod_slice ht h with ⟨hv,_⟩|⟨a,len,cap,elems,rest,n,_,hv,_,hb,hlc,hcm,hel,hel2,_,_⟩
  · obtain rfl : v' = .slice none 0 0:=by simpa using hv
    exact ⟨[],[],[],fun _=>.slice none 0 0,fun _ _ _ _ _=>.nilSlice 0 0,fun _ _ _ _ _=>.nillist _ _,fun _ _ _ _ _ j b h=>by simp at h,fun j b i h=>by simp at h,rfl⟩
  · obtain rfl : v' = .slice (some a) len cap:=by simpa using hv
    have hok : len ≤ cap ∧ (cap : Int) ≤ IntKind.i64.max ∧ W.has P r b0 a te cap:=by
      unfold Cell.okWide at hval
      simp only [ht] at hval
      unfold Cell.ok at hval
      simpa only [ht] using hval
    obtain ⟨gb,o,s⟩:=a
    obtain ⟨_,_,_,hs,row,cells,hsh,_⟩:=hok
    simp only at hs hsh
    subst hs
    have hgb : gb < W.heap.size:=by
      unfold World.shape? at hsh
      rcases Nat.lt_or_ge gb W.heap.size with hg|hg
      · exact hg
      · rw [Array.getElem?_eq_none hg] at hsh
        simp at hsh
    have key : ∀ i,i < len → ∃ x : α,∀ j,j < es → W.cell? ⟨gb,o + i * es + j,none⟩ = (g x)[j]?:=fun i hi=>by
      have h1:=hel2 i hi
      rw [List.getElem?_eq_getElem (by omega),Option.bind_eq_some_iff] at h1
      obtain ⟨cs,hcs,htr⟩:=h1
      rw [hC] at hcs
      unfold World.cells? at hcs
      split at hcs
      · have hlen:=mapM_some_length hcs
        simp at hlen
        obtain ⟨x,rfl⟩:=elem n cs _ htr hlen
        refine ⟨x,fun j hj=>?_⟩
        have:=mapM_some_get hcs j j (by simp [hj])
        have e : ((⟨gb,o,none⟩ : Addr).add (i * es)).add j = ⟨gb,o + i * es + j,none⟩:=by
          unfold Addr.add
          split<;>split<;>simp_all
        rw [← e]
        exact this
      · cases hcs
    obtain ⟨xs,hl,hq⟩:=choose_list len key
    subst hl
    have hlen:=flatMap_len hg xs
    have hfl:=flatMap_map hf xs
    refine ⟨xs,[.cells es (xs.flatMap g)],[⟨gb,o,cap * es,es⟩],fun n=>.slice (some ⟨n,0,none⟩) xs.length xs.length,fun D m n hD hm=>?_,fun Fz h n hF hh=>?_,fun D m n hD hm j b hb=>?_,fun j b i hb hi hd=>?_,rfl⟩
    · have e:=hm 0 _ rfl
      rw [Nat.add_zero] at e
      have:=VR.slice (D:=D) (m:=m) n 0 xs.length xs.length cap (hD 0 (by simp)) (Nat.le_refl _) hlc (.inr (by rw [e];simp))
      rw [e] at this
      exact this
    · have hw : ∀ r ∈ xs.map f,r.length = es:=fun r hr=>by obtain ⟨x,_,rfl⟩:=List.mem_map.1 hr;rw [hf,List.length_map,hg]
      have:=VL.list (Fz:=Fz) (h:=h) noL es (xs.map f) n 0 xs.length (xs.flatMap g) es (hF 0 (by simp)) (hh 0 _ rfl) (.inl rfl) hw (by simp) (by rw [List.length_map,hlen];omega) (fun j p x hp hx=>by
        rw [hfl,List.getElem?_map,Option.map_eq_some_iff] at hp
        rw [Nat.zero_add] at hx
        obtain ⟨y,h1,rfl⟩:=hp
        obtain rfl : y = x:=Option.some.inj (h1.symm.trans hx)
        obtain ⟨z,_,hz⟩:=List.mem_flatMap.1 (List.mem_of_getElem? hx)
        exact .v _ _ (hat z y hz).1)
      rw [List.length_map] at this
      exact this
    · match j,hb with
      | 0,hb =>
        obtain rfl:=Option.some.inj hb
        have e:=hm 0 _ rfl
        rw [Nat.add_zero] at e ⊢
        refine ⟨by rw [e],fun i v hv=>⟨v,?_,?_⟩⟩
        · rw [flatMap_at hg he,Option.bind_eq_some_iff] at hv
          obtain ⟨x,hx,hv⟩:=hv
          rw [e]
          have:=hq _ x hx (i % es) (Nat.mod_lt _ he)
          rw [Nat.add_assoc,Nat.mul_comm,Nat.div_add_mod] at this
          rw [this]
          exact hv
        · obtain ⟨z,_,hz⟩:=List.mem_flatMap.1 (List.mem_of_getElem? hv)
          exact (hat z v hz).2 _ _
      | j + 1,hb=>simp at hb
    · match j,hb,hi with
      | 0, hb, hi => obtain rfl := Option.some.inj hi
                     exact hgb
      | j + 1,hb,hi=>simp at hb
theorem open_rows {α : Type} {f : α → List TV} {g : α → List Value} {es : Nat} (he : 0 < es) (hf : ∀ x, f x = (g x).map .v) (hg : ∀ x, (g x).length = es) (hat : ∀ x, ∀ c ∈ g x, AtomV c)
    {P : Program} {t te : TypeId} (ht : P.underlying t = some (.slice te)) (hC : P.cellsOf te = es) {r : Reach} {b0 : Nat} {v' : Value} (hval : Value.okWide P W r b0 t v')
    (elem : ∀ n cs y,DataW.trod enc P W base spare held n te cs = some y → cs.length = es → ∃ x : α,cs = g x)
    {fuel : Nat} {x : DataW H × List MemPlace} (h : DataW.trod enc P W base spare held fuel t [v'] = some x) : ∃ (xs : List α) (bs : List Blk) (is : List Info) (av : Nat → Value),Arg W v' (.list es (xs.map f)) bs is av:=by
  refine open_rowsC he hf hg hat ht hC (r:=r) (b0:=b0) ?_ elem h
  unfold Value.okWide at hval
  simpa only [ht] using hval
/-! ### aggregates of ints -/
def AI (cs : List Value) : Prop:=∀ c ∈ cs,∃ n : Int,c = .int .i64 n
theorem AI.list {cs : List Value} (h : AI cs) : ∃ l : List Int,cs = l.map (.int .i64):=by
  induction cs with
  | nil=>exact ⟨[],rfl⟩
  | cons c t ih =>
    obtain ⟨n,rfl⟩:=h c (by simp)
    obtain ⟨l,rfl⟩:=ih fun c hc=>h c (by simp [hc])
    exact ⟨n :: l,rfl⟩
variable {P : Program}
theorem ai_int {te : TypeId} (ht : P.underlying te = some (.int .i64)) {fuel : Nat} {cs : List Value} {x : DataW H × List MemPlace} (h : DataW.trod enc P W base spare held fuel te cs = some x) : AI cs:=by
  obtain ⟨n,rfl,_⟩:=DataW.trod_int ht h
  exact fun c hc=>⟨n,by simpa using hc⟩
theorem ai_struct {t : TypeId} {fs : Array Field} (ht : P.underlying t = some (.struct fs)) (hcov : ((List.range (P.cellsOf t)).all fun j => fs.toList.any fun f => decide (f.offset ≤ j) && decide (j < f.offset + P.cellsOf f.type)) = true) (he : ∀ f ∈ fs.toList, ∀ n cs y, DataW.trod enc P W base spare held n f.type cs = some y → AI cs)
    {fuel : Nat} {cs : List Value} {x : DataW H × List MemPlace} (h : DataW.trod enc P W base spare held fuel t cs = some x) : AI cs:=by
  obtain ⟨xs,n,_,_,hl,hx,hi⟩:=DataW.trod_struct ht h
  intro c hcm
  obtain ⟨j,hj,rfl⟩:=List.mem_iff_getElem.1 hcm
  rw [hl] at hj
  have:=List.all_eq_true.1 hcov j (by simpa using hj)
  obtain ⟨f,hf,hf2⟩:=List.any_eq_true.1 this
  simp only [Bool.and_eq_true,decide_eq_true_eq] at hf2
  obtain ⟨i,hil,hif⟩:=List.mem_iff_getElem.1 hf
  have hfi : fs[i]? = some f:=by rw [← Array.getElem?_toList,List.getElem?_eq_getElem hil,hif]
  have h1:=hi i f hfi
  have hil2 : i < fs.size:=by simpa using hil
  rw [List.getElem?_eq_getElem (by omega)] at h1
  refine he f hf _ _ _ h1 _ ?_
  refine List.mem_of_getElem? (i:=j - f.offset) ?_
  rw [List.getElem?_take,if_pos (by omega),List.getElem?_drop,show f.offset + (j - f.offset) = j by omega,List.getElem?_eq_getElem]
theorem okW_int {t : TypeId} (ht : P.underlying t = some (.int .i64)) {r : Reach} {b : Nat} {v : Value} (w : Cell.okWide P W r b t v) : ∃ n : Int,v = .int .i64 n:=by
  unfold Cell.okWide at w
  simp only [ht] at w
  unfold Cell.ok at w
  simp only [ht] at w
  cases v<;>first|exact ⟨_,by rw [w.1]⟩|exact absurd w (by simp)
theorem open_sti {t ti : TypeId} {fs : Array Field} {n : Nat} (ht : P.underlying t = some (.struct fs)) (hti : P.underlying ti = some (.int .i64)) (hct : P.cellTypes P.depth t = some (List.replicate n ti)) (hn : P.cellsOf t = n)
    {r : Reach} {b : Nat} {v : Value} (w : Value.okWide P W r b t v) : ∃ l : List Int,l.length = n ∧ v = .agg ⟨l.map (.int .i64)⟩:=by
  unfold Value.okWide at w
  simp only [ht] at w
  obtain ⟨cs,rfl,hs,ts,hts,_,hc⟩:=w
  rw [hct] at hts
  obtain rfl:=Option.some.inj hts
  obtain ⟨l⟩:=cs
  have : AI l:=by
    intro c hcm
    obtain ⟨j,hj,rfl⟩:=List.mem_iff_getElem.1 hcm
    obtain ⟨u,hu,hok⟩:=hc j l[j] (by simp)
    have:=List.eq_of_mem_replicate (List.mem_of_getElem? hu)
    subst this
    exact okW_int hti hok
  obtain ⟨l',rfl⟩:=this.list
  refine ⟨l',?_,rfl⟩
  simpa [hn] using hs
theorem arg_ints (l : List Int) : Arg W (.agg ⟨l.map (.int .i64)⟩) (.agg (l.map fun x=>.v (.int .i64 x))) [] [] (fun _=>.agg ⟨l.map (.int .i64)⟩):=by
  have:=Arg.agg (W:=W) (l:=l.map (.int .i64)) fun c hc=>by obtain ⟨x,_,rfl⟩:=List.mem_map.1 hc;exact atomV_int _ _
  rwa [List.map_map] at this
theorem Arg.ofArgs {cs : List Value} {ps : List TV} {bs : List Blk} {is : List Info} {av : Nat → List Value} (a : Args W cs ps bs is av) : Arg W (.agg ⟨cs⟩) (.agg ps) bs is (fun n=>.agg ⟨av n⟩) :=
  ⟨fun D m n hD hm=>.agg' (a.vr D m n hD hm),fun Fz h n hF hh=>.agg' (a.vl Fz h n hF hh),a.ok,a.lt,a.len⟩
theorem open_cells {t : TypeId} {fs : Array Field} {ts : List TypeId} (ht : P.underlying t = some (.struct fs)) (hct : P.cellTypes P.depth t = some ts) (hn : P.cellsOf t = ts.length) {r : Reach} {b : Nat} {v : Value} (w : Value.okWide P W r b t v) :
    ∃ cs : List Value,v = .agg ⟨cs⟩ ∧ cs.length = ts.length ∧ ∀ (j : Nat) c u,cs[j]? = some c → ts[j]? = some u → Cell.okWide P W r b u c:=by
  unfold Value.okWide at w
  simp only [ht] at w
  obtain ⟨cs,rfl,hs,ts',hts,_,hc⟩:=w
  rw [hct] at hts
  obtain rfl:=Option.some.inj hts
  obtain ⟨l⟩:=cs
  have hl : l.length = ts.length:=by simpa [hn] using hs
  refine ⟨l,rfl,hl,fun j c u hj hu=>?_⟩
  obtain ⟨u',hu',hok⟩:=hc j c (by simpa using hj)
  rw [Nat.mod_eq_of_lt (by have:=(List.getElem?_eq_some_iff.1 hj).1;omega)] at hu'
  obtain rfl:=Option.some.inj (hu.symm.trans hu')
  exact hok
theorem st_field {t : TypeId} {fs : Array Field} {i : Nat} {f : Field} (ht : P.underlying t = some (.struct fs)) (hf : fs[i]? = some f) {fuel : Nat} {cs : List Value} {x : DataW H × List MemPlace} (h : DataW.trod enc P W base spare held fuel t cs = some x) :
    ∃ n y,DataW.trod enc P W base spare held n f.type ((cs.drop f.offset).take (P.cellsOf f.type)) = some y:=by
  obtain ⟨xs,n,_,_,hl,hx,hi⟩:=DataW.trod_struct ht h
  have:=hi i f hf
  have hil : i < fs.size:=(Array.getElem?_eq_some_iff.1 hf).1
  rw [List.getElem?_eq_getElem (by omega)] at this
  exact ⟨n,_,this⟩
end
end Go.Rex
