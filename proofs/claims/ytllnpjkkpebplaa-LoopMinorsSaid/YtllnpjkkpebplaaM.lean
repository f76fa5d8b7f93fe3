/- What these functions return: facts on lists and numbers. -/
import Derived.Test.YtllnpjkkpebplaaRexG8
import Derived.Test.YtllnpjkkpebplaaS
import Derived.Test.YtllnpjkkpebplaaRexG7
import Derived.ProofKit
import Derived.OpenShut
import Derived.ShutString
import Derived.ChangeOld
import Derived.Below
import Derived.Lib.SmallJoins
import Derived.ChangeShapes
import Derived.ChangeArms
import Derived.WideShapes
set_option linter.unusedSimpArgs false
set_option linter.unusedVariables false
set_option linter.defProp false
namespace Go.Rex
/-! ### loops that are run,by fuel -/
def runF {σ ε : Type} (step : σ → Option (σ ⊕ ε)) : Nat → σ → Option ε
  | 0,_=>none
  | k + 1,s=>match step s with
    | some (.inl s')=>runF step k s'
    | some (.inr e)=>some e
    | none=>none
/-- what the first one yields the second one yields -/
def Le {α : Type} (a b : Option α) : Prop:=∀ r,a = some r → b = some r
theorem Le.refl {α : Type} (a : Option α) : Le a a:=fun _ h=>h
theorem Le.bind {α β : Type} {a a' : Option α} {f f' : α → Option β} (h : Le a a') (hf : ∀ x,Le (f x) (f' x)) : Le (a.bind f) (a'.bind f'):=by
  intro r hr
  obtain ⟨x,h1,h2⟩:=Option.bind_eq_some_iff.1 hr
  exact Option.bind_eq_some_iff.2 ⟨x,h x h1,hf x r h2⟩
theorem Le.ite {α : Type} {c : Prop} [Decidable c] {a a' b b' : Option α} (h1 : Le a a') (h2 : Le b b') : Le (if c then a else b) (if c then a' else b'):=by
  split
  · exact h1
  · exact h2
theorem Le.run {σ ε : Type} {stepF step : σ → Option (σ ⊕ ε)} {k : Nat} {s : σ} (h : ∀ s,Le (stepF s) (step s)) : Le (runF stepF k s) (run step s):=by
  intro r hr
  induction k generalizing s with
  | zero=>cases hr
  | succ k ih =>
    unfold runF at hr
    cases hs : stepF s with
    | none=>rw [hs] at hr;cases hr
    | some x =>
      rw [hs] at hr
      cases x with
      | inl s'=>rw [run_iff];exact .next (h s _ hs) (run_iff.1 (ih hr))
      | inr e=>obtain rfl:=Option.some.inj hr;rw [run_iff];exact .stop (h s _ hs)
end Go.Rex

open Go Go.Rex
namespace Go.Rex
set_option maxRecDepth 100000
def math_bits_Len64F (v1 : Int) : Option (Int) :=
  if (decide (v1 ≥ 4294967296)) = true then
    ((shI .shr .u64 v1 32).bind fun v3 =>
    if (decide (v3 ≥ 65536)) = true then
      ((shI .shr .u64 v3 16).bind fun v4 =>
      if (decide (v4 ≥ 256)) = true then
        ((shI .shr .u64 v4 8).bind fun v5 =>
        (strI txt_c95356 (IntKind.u8.wrap v5)).bind fun v6 =>
        some ((IntKind.i64.wrap (56 + (IntKind.i64.wrap v6)))))
      else
        ((strI txt_c95356 (IntKind.u8.wrap v4)).bind fun v7 =>
        some ((IntKind.i64.wrap (48 + (IntKind.i64.wrap v7))))))
    else
      (if (decide (v3 ≥ 256)) = true then
        ((shI .shr .u64 v3 8).bind fun v8 =>
        (strI txt_c95356 (IntKind.u8.wrap v8)).bind fun v9 =>
        some ((IntKind.i64.wrap (40 + (IntKind.i64.wrap v9)))))
      else
        ((strI txt_c95356 (IntKind.u8.wrap v3)).bind fun v10 =>
        some ((IntKind.i64.wrap (32 + (IntKind.i64.wrap v10)))))))
  else
    (if (decide (v1 ≥ 65536)) = true then
      ((shI .shr .u64 v1 16).bind fun v11 =>
      if (decide (v11 ≥ 256)) = true then
        ((shI .shr .u64 v11 8).bind fun v12 =>
        (strI txt_c95356 (IntKind.u8.wrap v12)).bind fun v13 =>
        some ((IntKind.i64.wrap (24 + (IntKind.i64.wrap v13)))))
      else
        ((strI txt_c95356 (IntKind.u8.wrap v11)).bind fun v14 =>
        some ((IntKind.i64.wrap (16 + (IntKind.i64.wrap v14))))))
    else
      (if (decide (v1 ≥ 256)) = true then
        ((shI .shr .u64 v1 8).bind fun v15 =>
        (strI txt_c95356 (IntKind.u8.wrap v15)).bind fun v16 =>
        some ((IntKind.i64.wrap (8 + (IntKind.i64.wrap v16)))))
      else
        ((strI txt_c95356 (IntKind.u8.wrap v1)).bind fun v17 =>
        some ((IntKind.i64.wrap (0 + (IntKind.i64.wrap v17)))))))
theorem math_bits_Len64_le (v1 : Int) : Le (math_bits_Len64F v1) (math_bits_Len64 v1):=by
  unfold math_bits_Len64F math_bits_Len64
  refine Le.ite ?_ ?_
  refine Le.bind ?_ ?_
  exact Le.refl _
  intro v3
  try dsimp only
  refine Le.ite ?_ ?_
  refine Le.bind ?_ ?_
  exact Le.refl _
  intro v4
  try dsimp only
  refine Le.ite ?_ ?_
  refine Le.bind ?_ ?_
  exact Le.refl _
  intro v5
  try dsimp only
  refine Le.bind ?_ ?_
  exact Le.refl _
  intro v6
  try dsimp only
  exact Le.refl _
  refine Le.bind ?_ ?_
  exact Le.refl _
  intro v7
  try dsimp only
  exact Le.refl _
  refine Le.ite ?_ ?_
  refine Le.bind ?_ ?_
  exact Le.refl _
  intro v8
  try dsimp only
  refine Le.bind ?_ ?_
  exact Le.refl _
  intro v9
  try dsimp only
  exact Le.refl _
  refine Le.bind ?_ ?_
  exact Le.refl _
  intro v10
  try dsimp only
  exact Le.refl _
  refine Le.ite ?_ ?_
  refine Le.bind ?_ ?_
  exact Le.refl _
  intro v11
  try dsimp only
  refine Le.ite ?_ ?_
  refine Le.bind ?_ ?_
  exact Le.refl _
  intro v12
  try dsimp only
  refine Le.bind ?_ ?_
  exact Le.refl _
  intro v13
  try dsimp only
  exact Le.refl _
  refine Le.bind ?_ ?_
  exact Le.refl _
  intro v14
  try dsimp only
  exact Le.refl _
  refine Le.ite ?_ ?_
  refine Le.bind ?_ ?_
  exact Le.refl _
  intro v15
  try dsimp only
  refine Le.bind ?_ ?_
  exact Le.refl _
  intro v16
  try dsimp only
  exact Le.refl _
  refine Le.bind ?_ ?_
  exact Le.refl _
  intro v17
  try dsimp only
  exact Le.refl _
def math_bits_LenF (v1 : Int) : Option (Int) :=
  (math_bits_Len64F v1).bind fun v3 =>
  some (v3)
theorem math_bits_Len_le (v1 : Int) : Le (math_bits_LenF v1) (math_bits_Len v1):=by
  unfold math_bits_LenF math_bits_Len
  refine Le.bind ?_ ?_
  (first|(apply math_bits_Len64_le)|exact Le.refl _)
  intro v3
  try dsimp only
  exact Le.refl _
def loop_root_l1F (v1 : Int) : (Int) → Option ((Int) ⊕ ((Int))):=fun v5 =>
  if v5 = 0 then none else
  (if (decide ((IntKind.i64.wrap ((IntKind.i64.wrap (v5 + (IntKind.i64.wrap (v1.tdiv v5)))).tdiv 2)) ≥ v5)) = true then
    (some (.inr v5))
  else
    (some (.inl (IntKind.i64.wrap ((IntKind.i64.wrap (v5 + (IntKind.i64.wrap (v1.tdiv v5)))).tdiv 2)))))
theorem loop_root_l1_le (v1 : Int) : ∀ s,Le (loop_root_l1F v1 s) (loop_root_l1 v1 s):=by
  intro s
  revert s;intro v5
  unfold loop_root_l1F loop_root_l1
  try dsimp only
  refine Le.ite (Le.refl _) ?_
  refine Le.ite ?_ ?_
  exact Le.refl _
  exact Le.refl _
def loop_rootF (v1 : Int) : Option (Int) :=
  (math_bits_LenF (IntKind.u64.wrap v1)).bind fun v3 =>
  (shI .shl .i64 1 (IntKind.i64.wrap ((IntKind.i64.wrap (v3 + 1)).tdiv 2))).bind fun v4 =>
  (runF (loop_root_l1F v1) 100000 v4).bind fun v7 =>
  some (v7)
theorem loop_root_le (v1 : Int) : Le (loop_rootF v1) (loop_root v1):=by
  unfold loop_rootF loop_root
  refine Le.bind ?_ ?_
  (first|(apply math_bits_Len_le)|exact Le.refl _)
  intro v3
  try dsimp only
  refine Le.bind ?_ ?_
  exact Le.refl _
  intro v4
  try dsimp only
  refine Le.bind ?_ ?_
  (first|(refine Le.run ?_;intro s;apply loop_root_l1_le)|exact Le.refl _)
  intro v7
  try dsimp only
  exact Le.refl _
def loop_moduloF (v1 : Int) (v2 : Int) : Option (Int) :=
  if v2 = 0 then none else
  (some (((IntKind.i64.wrap ((v1.tmod v2) + v2)).tmod v2)))
theorem loop_modulo_le (v1 : Int) (v2 : Int) : Le (loop_moduloF v1 v2) (loop_modulo v1 v2):=by
  unfold loop_moduloF loop_modulo
  refine Le.ite (Le.refl _) ?_
  exact Le.refl _
def loop_floorF (v1 : Int) (v2 : Int) : Option (Int) :=
  (loop_moduloF v1 v2).bind fun v4 =>
  if v2 = 0 then none else
  (some ((IntKind.i64.wrap ((IntKind.i64.wrap (v1 - v4)).tdiv v2))))
theorem loop_floor_le (v1 : Int) (v2 : Int) : Le (loop_floorF v1 v2) (loop_floor v1 v2):=by
  unfold loop_floorF loop_floor
  refine Le.bind ?_ ?_
  (first|(apply loop_modulo_le)|exact Le.refl _)
  intro v4
  try dsimp only
  refine Le.ite (Le.refl _) ?_
  exact Le.refl _
def loop_nearestF (v1 : Int) (v2 : Int) : Option (Int) :=
  (loop_floorF (IntKind.i64.wrap (v1 + (IntKind.i64.wrap (v2.tdiv 2)))) v2).bind fun v4 =>
  some (v4)
theorem loop_nearest_le (v1 : Int) (v2 : Int) : Le (loop_nearestF v1 v2) (loop_nearest v1 v2):=by
  unfold loop_nearestF loop_nearest
  refine Le.bind ?_ ?_
  (first|(apply loop_floor_le)|exact Le.refl _)
  intro v4
  try dsimp only
  exact Le.refl _
def loop_middleF (v1 : Int) (v2 : Int) (v3 : Int) (v4 : Int) : Option (Int × Int) :=
  (loop_rootF (IntKind.i64.wrap ((IntKind.i64.wrap ((IntKind.i64.wrap (v1 + v3)) * (IntKind.i64.wrap (v1 + v3)))) + (IntKind.i64.wrap ((IntKind.i64.wrap (v2 + v4)) * (IntKind.i64.wrap (v2 + v4))))))).bind fun v7 =>
  (loop_nearestF (IntKind.i64.wrap ((IntKind.i64.wrap (v1 + v3)) * 67108864)) v7).bind fun v8 =>
  (loop_nearestF (IntKind.i64.wrap ((IntKind.i64.wrap (v2 + v4)) * 67108864)) v7).bind fun v9 =>
  some (v8,v9)
theorem loop_middle_le (v1 : Int) (v2 : Int) (v3 : Int) (v4 : Int) : Le (loop_middleF v1 v2 v3 v4) (loop_middle v1 v2 v3 v4):=by
  unfold loop_middleF loop_middle
  refine Le.bind ?_ ?_
  (first|(apply loop_root_le)|exact Le.refl _)
  intro v7
  try dsimp only
  refine Le.bind ?_ ?_
  (first|(apply loop_nearest_le)|exact Le.refl _)
  intro v8
  try dsimp only
  refine Le.bind ?_ ?_
  (first|(apply loop_nearest_le)|exact Le.refl _)
  intro v9
  try dsimp only
  exact Le.refl _
end Go.Rex

namespace Go.Rex
/-! ### plain facts for shallow functions -/
theorem w64 {x : Int} (h : -9223372036854775808 ≤ x ∧ x ≤ 9223372036854775807) : IntKind.i64.wrap x = x:=IntWalk.i64_in x (by omega)
end Go.Rex

open Go Go.Rex
namespace Go.Rex
/-! ### a table that is filled from far to near -/
abbrev Pt:=Int × Int
noncomputable def stepG (mid : Pt → Pt → Option Pt) (a : Int) : (List Pt × Int) → Option ((List Pt × Int) ⊕ List Pt):=fun (v,m) =>
  if decide (m < 1024) = true then
    (getI v (IntKind.i64.wrap (m - a))).bind fun p=>(getI v (IntKind.i64.wrap (m + a))).bind fun q=>(mid p q).bind fun r=>(getI v m).bind fun _=>some (.inl (v.set m.toNat r,IntKind.i64.wrap (m + IntKind.i64.wrap (2 * a))))
  else some (.inr v)
theorem getI_cast {α : Type} {xs : List α} {i : Nat} {e : Int} (h : e = (i : Int)) : getI xs e = xs[i]?:=by
  subst h;unfold getI;rw [if_pos (by omega)];rfl
theorem level {mid : Pt → Pt → Option Pt} {a n : Nat} (ha : 0 < a) (hn : 2 * a * n = 1024) {L M : List Pt} (hM : ∀ i, i < n → ∃ p q r, L[i]? = some p ∧ L[i + 1]? = some q ∧ mid p q = some r ∧ M[i]? = some r) :
    ∀ (k j : Nat) (v : List Pt),n - j = k → j ≤ n → v.length = 1025 → (∀ i,i ≤ n → v[i * (2 * a)]? = L[i]?) → (∀ i,i < j → v[(2 * i + 1) * a]? = M[i]?) →
      ∃ v',run (stepG mid a) (v,(((2 * j + 1) * a : Nat) : Int)) = some v' ∧ v'.length = 1025 ∧ (∀ i,i ≤ n → v'[i * (2 * a)]? = L[i]?) ∧ (∀ i,i < n → v'[(2 * i + 1) * a]? = M[i]?):=by
  intro k
  induction k with
  | zero =>
    intro j v hk hj hv hL hM'
    obtain rfl : j = n:=by omega
    refine ⟨v,run_stop ?_,hv,hL,hM'⟩
    have h1 : (2 * j + 1) * a = 1024 + a:=by rw [Nat.add_mul,Nat.one_mul,← hn,Nat.mul_right_comm]
    simp only [stepG]
    rw [if_neg]
    simp only [decide_eq_true_eq]
    omega
  | succ k ih =>
    intro j v hk hj hv hL hM'
    obtain ⟨p,q,r,hp,hq,hr,hMr⟩:=hM j (by omega)
    have hmul : 2 * a * (j + 1) ≤ 1024:=by rw [← hn];exact Nat.mul_le_mul_left _ (by omega)
    have e1 : (2 * j + 1) * a = 2 * a * j + a:=by rw [Nat.add_mul,Nat.one_mul,Nat.mul_right_comm]
    have e2 : 2 * a * (j + 1) = 2 * a * j + 2 * a:=by rw [Nat.mul_add,Nat.mul_one]
    have hlt : (2 * j + 1) * a < 1024:=by omega
    have w1 : IntKind.i64.wrap ((((2 * j + 1) * a : Nat) : Int) - (a : Int)) = ((j * (2 * a) : Nat) : Int):=by
      rw [w64 (by omega),show j * (2 * a) = 2 * a * j from Nat.mul_comm _ _];omega
    have w2 : IntKind.i64.wrap ((((2 * j + 1) * a : Nat) : Int) + (a : Int)) = (((j + 1) * (2 * a) : Nat) : Int):=by
      rw [w64 (by omega),show (j + 1) * (2 * a) = 2 * a * (j + 1) from Nat.mul_comm _ _];omega
    have w3 : IntKind.i64.wrap ((((2 * j + 1) * a : Nat) : Int) + IntKind.i64.wrap (2 * (a : Int))) = (((2 * (j + 1) + 1) * a : Nat) : Int):=by
      have e3 : (2 * (j + 1) + 1) * a = (2 * j + 1) * a + 2 * a:=by rw [← Nat.add_mul];congr 1
      rw [w64 (x:=2 * (a : Int)) (by omega),w64 (by omega),e3];omega
    obtain ⟨x,hx⟩ : ∃ x,v[(2 * j + 1) * a]? = some x:=⟨_,List.getElem?_eq_getElem (by omega)⟩
    have hstep : stepG mid a (v,(((2 * j + 1) * a : Nat) : Int)) = some (.inl (v.set ((2 * j + 1) * a) r,(((2 * (j + 1) + 1) * a : Nat) : Int))):=by
      simp only [stepG]
      rw [if_pos (by simp only [decide_eq_true_eq];omega),getI_cast w1,hL j (by omega),hp,Option.bind_some,getI_cast w2,hL (j + 1) (by omega),hq,Option.bind_some,hr,Option.bind_some,getI_cast rfl,hx,Option.bind_some,w3]
      rfl
    rw [run_next hstep]
    refine ih (j + 1) _ (by omega) (by omega) (by simpa using hv) (fun i hi=>?_) (fun i hi=>?_)
    · rw [List.getElem?_set_ne,hL i hi]
      intro he
      have : (2 * j + 1) * a = (2 * i) * a:=by rw [he,← Nat.mul_assoc,Nat.mul_comm i 2]
      have:=Nat.eq_of_mul_eq_mul_right ha this
      omega
    · by_cases e : i = j
      · subst e
        rw [List.getElem?_set_self (by omega),hMr]
      · rw [List.getElem?_set_ne,hM' i (by omega)]
        intro he
        have:=Nat.eq_of_mul_eq_mul_right ha he
        omega
def mids (mid : Pt → Pt → Option Pt) : List Pt → Option (List Pt)
  | []=>some []
  | p :: t=>match t with
    | []=>some []
    | q :: t'=>(mid p q).bind fun r=>(mids mid (q :: t')).bind fun s=>some (r :: s)
def weave : List Pt → List Pt → List Pt
  | [],_=>[]
  | p :: t,s=>match s with
    | []=>[p]
    | r :: s'=>p :: r :: weave t s'
theorem mids_at {mid : Pt → Pt → Option Pt} : ∀ {L M : List Pt},mids mid L = some M → M.length + 1 = max L.length 1 ∧ ∀ i,i + 1 < L.length → ∃ p q r,L[i]? = some p ∧ L[i + 1]? = some q ∧ mid p q = some r ∧ M[i]? = some r
  | [],M,h=>by simp [mids] at h;subst h;exact ⟨rfl,fun i hi=>by simp at hi⟩
  | [p],M,h=>by simp [mids] at h;subst h;exact ⟨rfl,fun i hi=>by simp at hi⟩
  | p :: q :: t,M,h=>by
    simp only [mids] at h
    obtain ⟨r,hr,h⟩:=Option.bind_eq_some_iff.1 h
    obtain ⟨s,hs,h⟩:=Option.bind_eq_some_iff.1 h
    obtain rfl:=Option.some.inj h
    obtain ⟨h1,h2⟩:=mids_at hs
    refine ⟨by simp at h1 ⊢;omega,fun i hi=>?_⟩
    cases i with
    | zero=>exact ⟨p,q,r,rfl,rfl,hr,rfl⟩
    | succ i=>simpa using h2 i (by simpa using hi)
theorem weave_at : ∀ {L M : List Pt},M.length + 1 = L.length → (weave L M).length = L.length + M.length ∧ (∀ i,i < L.length → (weave L M)[2 * i]? = L[i]?) ∧ (∀ i,i < M.length → (weave L M)[2 * i + 1]? = M[i]?)
  | [],M,h=>by simp at h
  | [p],[],h=>by simp [weave]
  | [p],_ :: _,h=>by simp at h
  | p :: q :: t,[],h=>by simp at h
  | p :: q :: t,r :: s,h=>by
    obtain ⟨h1,h2,h3⟩:=weave_at (L:=q :: t) (M:=s) (by simpa using h)
    refine ⟨by simp [weave] at h1 ⊢;omega,fun i hi=>?_,fun i hi=>?_⟩
    · cases i with
      | zero=>rfl
      | succ i =>
        have:=h2 i (by simpa using hi)
        show (p :: r :: weave (q :: t) s)[2 * i + 2]? = _
        simpa using this
    · cases i with
      | zero=>rfl
      | succ i =>
        have:=h3 i (by simpa using hi)
        show (p :: r :: weave (q :: t) s)[2 * i + 3]? = _
        simpa using this
/-- so many times twice as near -/
def upN (mid : Pt → Pt → Option Pt) : Nat → List Pt → Option (List Pt)
  | 0,L=>some L
  | k + 1,L=>(mids mid L).bind fun M=>upN mid k (weave L M)
theorem mids_le {mid mid' : Pt → Pt → Option Pt} (h : ∀ p q,Le (mid p q) (mid' p q)) : ∀ L,Le (mids mid L) (mids mid' L)
  | []=>Le.refl _
  | [p]=>Le.refl _
  | p :: q :: t=>by
    simp only [mids]
    exact Le.bind (h p q) fun r=>Le.bind (mids_le h (q :: t)) fun s=>Le.refl _
theorem upN_le {mid mid' : Pt → Pt → Option Pt} (h : ∀ p q,Le (mid p q) (mid' p q)) : ∀ k L,Le (upN mid k L) (upN mid' k L)
  | 0,L=>Le.refl _
  | k + 1,L=>Le.bind (mids_le h L) fun M=>upN_le h k _
noncomputable def step1 (mid : Pt → Pt → Option Pt) : (List Pt × Int) → Option ((List Pt × Int) ⊕ List Pt):=fun (v,a) =>
  if decide (a > 0) = true then (run (stepG mid a) (v,a)).bind fun v'=>some (.inl (v',IntKind.i64.wrap (a.tdiv 2)))
  else some (.inr v)
theorem levels {mid : Pt → Pt → Option Pt} {T : List Pt} : ∀ (k n : Nat) (v L : List Pt),k ≤ 9 → 2 * 2 ^ k * n = 1024 → v.length = 1025 → L.length = n + 1 → (∀ i,i ≤ n → v[i * (2 * 2 ^ k)]? = L[i]?) → upN mid (k + 1) L = some T → run (step1 mid) (v,((2 ^ k : Nat) : Int)) = some T:=by
  intro k
  induction k with
  | zero =>
    intro n v L hk hn hv hLl hL hT
    simp only [upN] at hT
    obtain ⟨M,hM,hT⟩:=Option.bind_eq_some_iff.1 hT
    obtain rfl:=Option.some.inj hT
    obtain ⟨m1,m2⟩:=mids_at hM
    obtain ⟨v',r1,r2,r3,r4⟩:=level (a:=2 ^ 0) (mid:=mid) (n:=n) (by omega) hn (fun i hi=>m2 i (by omega)) n 0 v (by omega) (by omega) hv hL (fun i hi=>by omega)
    have hs : step1 mid (v,((2 ^ 0 : Nat) : Int)) = some (.inl (v',0)):=by
      simp only [step1]
      rw [if_pos (by simp)]
      rw [show (((2 ^ 0 : Nat) : Int)) = (((2 * 0 + 1) * 2 ^ 0 : Nat) : Int) from rfl]
      rw [show stepG mid (((2 * 0 + 1) * 2 ^ 0 : Nat) : Int) = stepG mid ((2 ^ 0 : Nat) : Int) from rfl,r1]
      rfl
    have he : v' = weave L M:=by
      obtain ⟨w1,w2,w3⟩:=weave_at (L:=L) (M:=M) (by omega)
      apply List.ext_getElem?
      intro i
      by_cases hi : i < 1025
      · rcases Nat.mod_two_eq_zero_or_one i with h|h
        · have e : i = 2 * (i / 2):=by omega
          have h1:=w2 (i / 2) (by omega)
          have h2:=r3 (i / 2) (by omega)
          rw [← e] at h1
          rw [h1,← h2]
          congr 1
          omega
        · have e : i = 2 * (i / 2) + 1:=by omega
          have h1:=w3 (i / 2) (by omega)
          have h2:=r4 (i / 2) (by omega)
          rw [← e] at h1
          rw [h1,← h2]
          congr 1
          omega
      · rw [List.getElem?_eq_none (by omega),List.getElem?_eq_none (by omega)]
    rw [run_next hs]
    refine run_stop ?_
    simp only [step1]
    rw [if_neg (by simp),he]
  | succ k ih =>
    intro n v L hk hn hv hLl hL hT
    unfold upN at hT
    obtain ⟨M,hM,hT⟩:=Option.bind_eq_some_iff.1 hT
    obtain ⟨m1,m2⟩:=mids_at hM
    have hpos : 0 < 2 ^ (k + 1):=Nat.two_pow_pos _
    have hp : 2 ^ (k + 1) = 2 * 2 ^ k:=by rw [Nat.pow_succ,Nat.mul_comm]
    have hbig : 2 ^ (k + 1) ≤ 2 ^ 9:=Nat.pow_le_pow_right (by omega) hk
    obtain ⟨v',r1,r2,r3,r4⟩:=level (a:=2 ^ (k + 1)) (mid:=mid) (n:=n) hpos hn (fun i hi=>m2 i (by omega)) n 0 v (by omega) (by omega) hv hL (fun i hi=>by omega)
    have hs : step1 mid (v,((2 ^ (k + 1) : Nat) : Int)) = some (.inl (v',((2 ^ k : Nat) : Int))):=by
      simp only [step1]
      rw [if_pos (by simp only [decide_eq_true_eq];omega)]
      rw [show (2 * 0 + 1) * 2 ^ (k + 1) = 2 ^ (k + 1) by omega] at r1
      rw [r1,Option.bind_some]
      have : (((2 ^ (k + 1) : Nat) : Int)).tdiv 2 = ((2 ^ k : Nat) : Int):=by
        rw [hp,Int.natCast_mul]
        exact Int.mul_tdiv_cancel_left _ (by decide)
      rw [this,w64 (by omega)]
    rw [run_next hs]
    obtain ⟨w1,w2,w3⟩:=weave_at (L:=L) (M:=M) (by omega)
    have hML : M.length = n:=by omega
    refine ih (2 * n) v' (weave L M) (by omega) (by rw [hp] at hn;rw [← hn,Nat.mul_left_comm,← Nat.mul_assoc]) r2 (by omega) (fun i hi=>?_) hT
    rw [← hp]
    rcases Nat.mod_two_eq_zero_or_one i with h|h
    · have e : i = 2 * (i / 2):=by omega
      have h1:=w2 (i / 2) (by omega)
      have h2:=r3 (i / 2) (by omega)
      rw [← e] at h1
      rw [h1,← h2]
      congr 1
      rw [← Nat.mul_assoc,Nat.mul_comm (i / 2) 2,← e]
    · have e : i = 2 * (i / 2) + 1:=by omega
      have h1:=w3 (i / 2) (by omega)
      have h2:=r4 (i / 2) (by omega)
      rw [← e] at h1 h2
      rw [h1,← h2]
def circ0 : List Pt:=[(67108864,0),(47453132,47453132),(0,67108864)]
theorem circ_start {mid : Pt → Pt → Option Pt} {T Z : List Pt} (hZ : Z.length = 1025) (h : upN mid 9 circ0 = some T) : run (step1 mid) ((((Z.set 0 (67108864,0)).set 512 (47453132,47453132)).set 1024 (0,67108864)),256) = some T:=by
  refine levels 8 2 _ circ0 (by omega) (by rfl) (by simp only [List.length_set];exact hZ) rfl (fun i hi=>?_) h
  have : i = 0 ∨ i = 1 ∨ i = 2:=by omega
  rcases this with rfl|rfl|rfl
  · rw [List.getElem?_set_ne (by decide),List.getElem?_set_ne (by decide),show 0 * (2 * 2 ^ 8) = 0 from rfl,List.getElem?_set_self (by omega)];rfl
  · rw [List.getElem?_set_ne (by decide),show 1 * (2 * 2 ^ 8) = 512 from rfl,List.getElem?_set_self (by rw [List.length_set];omega)];rfl
  · rw [show 2 * (2 * 2 ^ 8) = 1024 from rfl,List.getElem?_set_self (by rw [List.length_set,List.length_set];omega)];rfl
theorem zeros : ∃ Z : List Pt,mkI 16 1025 ((0,0) : Pt) = some Z ∧ Z.length = 1025:=by
  refine ⟨List.replicate (1025 : Int).toNat (0,0),?_,by rw [List.length_replicate];rfl⟩
  unfold mkI;rw [if_pos (by decide)]
theorem some_at {Z : List Pt} {i : Nat} (h : i < Z.length) : ∃ p q,Z[i]? = some (p,q):=⟨Z[i].1,Z[i].2,List.getElem?_eq_getElem h⟩
noncomputable def midL (p q : Pt) : Option Pt:=loop_middle p.1 p.2 q.1 q.2
theorem newCircle_l1 : loop_newCircle_l1 = step1 midL:=rfl
theorem newCircle_eq {T : List Pt} (h : upN midL 9 circ0 = some T) : loop_newCircle = some T:=by
  unfold loop_newCircle
  obtain ⟨Z,h0,hZ⟩:=zeros
  rw [h0,Option.bind_some]
  obtain ⟨p1,q1,e1⟩:=some_at (Z:=Z) (i:=0) (by omega)
  have g1 : getI Z 0 = some (p1,q1):=(getI_cast (i:=0) rfl).trans e1
  obtain ⟨p2,q2,e2⟩:=some_at (Z:=Z.set 0 (67108864,0)) (i:=512) (by rw [List.length_set];omega)
  have g2 : getI (Z.set (0 : Int).toNat (67108864,0)) 512 = some (p2,q2):=(getI_cast (i:=512) rfl).trans e2
  have g3 : getI ((Z.set (0 : Int).toNat (67108864,0)).set (512 : Int).toNat (47453132,47453132)) 0 = some (67108864,0):=by
    refine (getI_cast (i:=0) rfl).trans ?_
    show ((Z.set 0 (67108864,0)).set 512 (47453132,47453132))[0]? = _
    rw [List.getElem?_set_ne (by decide),List.getElem?_set_self (by omega)]
  obtain ⟨p4,q4,e4⟩:=some_at (Z:=(Z.set 0 (67108864,0)).set 512 (47453132,47453132)) (i:=1024) (by rw [List.length_set,List.length_set];omega)
  have g4 : getI ((Z.set (0 : Int).toNat (67108864,0)).set (512 : Int).toNat (47453132,47453132)) 1024 = some (p4,q4):=(getI_cast (i:=1024) rfl).trans e4
  have g5 : loop_direction_turned 67108864 0 = some (0,67108864):=by
    unfold loop_direction_turned
    rw [w64 (by omega)]
    rfl
  have:=circ_start hZ h
  simp only [g1,g2,g3,g5,Option.bind_some,g4,newCircle_l1]
  show (run (step1 midL) ((((Z.set 0 (67108864,0)).set 512 (47453132,47453132)).set 1024 (0,67108864)),256)).bind _ = _
  rw [this]
  rfl
end Go.Rex

open Go Go.Rex
namespace Go.Rex
set_option maxRecDepth 100000
def midF (p q : Pt) : Option Pt:=loop_middleF p.1 p.2 q.1 q.2
theorem midF_le (p q : Pt) : Le (midF p q) (midL p q):=loop_middle_le _ _ _ _
def circT : List Pt:=(upN midF 9 circ0).getD []
theorem circ_isSome : (upN midF 9 circ0).isSome = true:=by decide +kernel
theorem circ_some : upN midF 9 circ0 = some circT:=by
  obtain ⟨T,hT⟩:=Option.isSome_iff_exists.1 circ_isSome
  unfold circT
  rw [hT]
  rfl
theorem circ_len : circT.length = 1025:=by decide +kernel
theorem newCircle_T : loop_newCircle = some circT:=newCircle_eq (upN_le midF_le 9 circ0 _ circ_some)
end Go.Rex
namespace Go.Rex
end Go.Rex

namespace Go.Rex
/-! ### loops that look for the first one of a list -/
def firstOr {α ε : Type} (P : α → Bool) (ex : Nat → α → ε) (en : ε) : Nat → List α → ε
  | _,[]=>en
  | k,x :: t=>if P x = true then ex k x else firstOr P ex en (k + 1) t
theorem run_first_from {α σ ε : Type} {step : σ → Option (σ ⊕ ε)} (st : Nat → σ) (P : α → Bool) (ex : Nat → α → ε) (en : ε) :
    ∀ (xs ys : List α),(∀ (k : Nat) x,(ys ++ xs)[k]? = some x → step (st k) = some (if P x = true then .inr (ex k x) else .inl (st (k + 1)))) → step (st (ys ++ xs).length) = some (.inr en) → run step (st ys.length) = some (firstOr P ex en ys.length xs)
  | [],ys,_,he=>by rw [List.append_nil] at he;exact run_stop he
  | x :: t,ys,hs,he=>by
    have h1:=hs ys.length x (by simp)
    by_cases hp : P x = true
    · rw [if_pos hp] at h1
      rw [run_stop h1,firstOr,if_pos hp]
    · rw [if_neg hp] at h1
      rw [run_next h1,firstOr,if_neg hp]
      have:=run_first_from st P ex en t (ys ++ [x]) (fun k y hk=>hs k y (by simpa using hk)) (by simpa using he)
      simpa using this
theorem run_first {α σ ε : Type} {step : σ → Option (σ ⊕ ε)} (st : Nat → σ) (P : α → Bool) (ex : Nat → α → ε) (en : ε) (xs : List α) (hs : ∀ (k : Nat) x,xs[k]? = some x → step (st k) = some (if P x = true then .inr (ex k x) else .inl (st (k + 1)))) (he : step (st xs.length) = some (.inr en)) {s : σ} (h0 : s = st 0) : run step s = some (firstOr P ex en 0 xs):=by
  subst h0
  exact run_first_from st P ex en xs [] hs he
theorem firstOr_map {α β γ : Type} (f : β → γ) (P : α → Bool) (ex : Nat → α → β) (en : β) : ∀ (xs : List α) k,f (firstOr P ex en k xs) = firstOr P (fun k x=>f (ex k x)) (f en) k xs
  | [],_=>rfl
  | x :: t,k=>by
    unfold firstOr
    split
    · rfl
    · exact firstOr_map f P ex en t (k + 1)
theorem firstOr_all {α β : Type} (P : α → Bool) (c en : β) : ∀ (xs : List α) k,firstOr P (fun _ _=>c) en k xs = if (xs.all fun x=>!P x) = true then en else c
  | [],_=>rfl
  | x :: t,k=>by
    unfold firstOr
    rw [firstOr_all P c en t (k + 1)]
    cases h : P x<;>simp [h]
theorem bind_first {α σ ε β : Type} {step : σ → Option (σ ⊕ ε)} {s : σ} {F : ε → Option β} (st : Nat → σ) (P : α → Bool) (ex : Nat → α → ε) (en : ε) (xs : List α) (K : ε → β) (h0 : s = st 0) (hF : ∀ e, F e = some (K e)) (hs : ∀ (k : Nat) x, xs[k]? = some x → step (st k) = some (if P x = true then .inr (ex k x) else .inl (st (k + 1)))) (he : step (st xs.length) = some (.inr en)) :
    (run step s).bind F = some (firstOr P (fun k x=>K (ex k x)) (K en) 0 xs):=by
  rw [run_first st P ex en xs hs he h0,Option.bind_some,hF,firstOr_map K]
/-! ### numbers -/
theorem wneg {x : Int} (h : -9223372036854775807 ≤ x ∧ x ≤ 9223372036854775807) : IntKind.i64.wrap (0 - x) = -x:=by rw [w64 (by omega)];omega
theorem wsucc {k : Nat} {n : Nat} (h : k ≤ n) (hn : n ≤ 2 ^ 62) : IntKind.i64.wrap ((k : Int) + 1) = ((k + 1 : Nat) : Int):=by rw [w64 (by omega)];omega
end Go.Rex

open Go Go.Rex
namespace Go.Rex
/-! ### numbers -/
theorem within_eq (a b c : Int) : base_Within a b c = some (decide (b ≤ a ∧ a ≤ c)):=by
  unfold base_Within
  by_cases h1 : b ≤ a<;>by_cases h2 : a ≤ c<;>simp [h1,h2]
end Go.Rex

open Go Go.Rex
namespace Go.Rex
/-! ### which loops are right -/
theorem copyI {l : List Int} (h : l.length ≤ 1048576) : base_CopyInts l = some l:=by
  unfold base_CopyInts appI
  rw [if_pos (by simp;omega)]
  simp
theorem refuseR (b : Bool) (e : Int) : loop_refuse_c1_11f9 b e = some (if b = true then e else 0):=by
  unfold loop_refuse_c1_11f9;cases b<;>rfl
theorem withinR (n a b : Int) : loop_within n a b = some (decide (n < a ∨ n > b),2):=by
  unfold loop_within loop_refuse
  by_cases h : n < a
  · simp [h]
  · simp [h]
theorem countedR (n m : Int) : loop_counted_c1_b585 n m = some (if n = 0 then 10 else if n > m then 8 else 0):=by
  unfold loop_counted_c1_b585 loop_refuse loop_firstError_60c4
  simp only [Option.bind_some,refuseR]
  by_cases h1 : n = 0
  · simp [h1]
  · by_cases h2 : n > m<;>simp [h1,h2]
def badTap (a b : Int) (x : Int) : Bool:=decide (x < a ∨ x > b)
theorem eachR {l : List Int} (a b : Int) (h : l.length ≤ 1048576) : loop_each_c1_2344 (l.length : Int) l a b = some (if (l.all fun x=>!badTap a b x) = true then 0 else 2):=by
  unfold loop_each_c1_2344
  have hb : ∀ (k : Nat) x,l[k]? = some x → loop_each_c1_2344_l1 (l.length : Int) l a b (k : Int) = some (if badTap a b x = true then .inr (.inl 2) else .inl ((k + 1 : Nat) : Int)):=by
    intro k x hx
    have hk:=(List.getElem?_eq_some_iff.1 hx).1
    unfold loop_each_c1_2344_l1 loop_allWithin_c1_ea58
    have hg : getI l (k : Int) = some x:=by unfold getI;rw [if_pos (by omega)];exact hx
    rw [if_pos (by simp only [decide_eq_true_eq];omega)]
    simp only [hg,withinR,refuseR,Option.bind_some]
    by_cases hbad : x < a ∨ x > b
    · simp [hbad,badTap]
    · simp [hbad,badTap]
      exact wsucc (n:=l.length) (by omega) (by omega)
  refine (bind_first (s:=(0 : Int)) (fun k=>(k : Int)) (badTap a b) (fun _ _=>.inl 2) (.inr ()) l (fun e=>match e with|.inl v=>v|.inr _=>0) rfl (fun e=>by cases e<;>rfl) hb (by
    unfold loop_each_c1_2344_l1
    rw [if_neg (by simp)])).trans ?_
  exact congrArg some (firstOr_all (badTap a b) (2 : Int) 0 l 0)
end Go.Rex

open Go Go.Rex
namespace Go.Rex
/-- a loop over a list that gathers -/
theorem run_fold {α β σ ε : Type} {step : σ → Option (σ ⊕ ε)} (st : Nat → β → σ) (ex : β → ε) (f : β → α → β) (Inv : Nat → β → Prop) (l : List α)
    (hs : ∀ (k : Nat) (x : α) (b : β),l[k]? = some x → Inv k b → step (st k b) = some (.inl (st (k + 1) (f b x))) ∧ Inv (k + 1) (f b x)) (he : ∀ b,Inv l.length b → step (st l.length b) = some (.inr (ex b))) {b0 : β} (h0 : Inv 0 b0) :
    run step (st 0 b0) = some (ex (l.foldl f b0)) ∧ Inv l.length (l.foldl f b0):=by
  suffices H : ∀ (t : List α) (k : Nat) (b : β),l.drop k = t → k ≤ l.length → Inv k b → run step (st k b) = some (ex (t.foldl f b)) ∧ Inv l.length (t.foldl f b) from H l 0 b0 rfl (Nat.zero_le _) h0
  intro t
  induction t with
  | nil =>
    intro k b hk hkl hI
    have : k = l.length:=by
      have:=congrArg List.length hk
      simp at this
      omega
    subst this
    exact ⟨run_stop (he b hI),hI⟩
  | cons x t ih =>
    intro k b hk hkl hI
    have hx : l[k]? = some x:=by
      have:=congrArg (fun l=>l[0]?) hk
      simpa using this
    have hlt:=(List.getElem?_eq_some_iff.1 hx).1
    obtain ⟨h1,h2⟩:=hs k x b hx hI
    have ht : l.drop (k + 1) = t:=by
      have:=congrArg List.tail hk
      simpa using this
    obtain ⟨h3,h4⟩:=ih (k + 1) (f b x) ht (by omega) h2
    exact ⟨by rw [run_next h1,h3];rfl,h4⟩
theorem ints_refl {l : List Int} (h : l.length ≤ 1048576) : base_Ints l l = some true:=by
  unfold base_Ints
  rw [if_neg (by simp)]
  have:=run_fold (step:=base_Ints_l1 l l) (fun k (_ : Unit)=>(k : Int)) (fun _=>(.inr () : Unit ⊕ Unit)) (fun s _=>s) (fun _ _=>True) l (fun k x b hk _=>by
    have hlt:=(List.getElem?_eq_some_iff.1 hk).1
    refine ⟨?_,trivial⟩
    unfold base_Ints_l1
    have hg : getI l (k : Int) = some x:=by unfold getI;rw [if_pos (by omega)];exact hk
    rw [if_pos (by simp only [decide_eq_true_eq];omega),hg,Option.bind_some,Option.bind_some,if_neg (by simp),wsucc (n:=l.length) (by omega) (by omega)]) (fun b _=>by
    unfold base_Ints_l1
    rw [if_neg (by simp)]) (b0:=()) trivial
  show ((run (base_Ints_l1 l l) (((0 : Nat) : Int))).bind _) = _
  rw [this.1]
  rfl
theorem mul_le_nn {a b A B : Int} (ha : 0 ≤ a ∧ a ≤ A) (hb : 0 ≤ b ∧ b ≤ B) : 0 ≤ a * b ∧ a * b ≤ A * B:=⟨Int.mul_nonneg ha.1 hb.1,Int.mul_le_mul ha.2 hb.2 hb.1 (by omega)⟩
end Go.Rex

open Go Go.Rex
namespace Go.Rex
/-! ### unit numbers -/
def turn (d : Int × Int) : Int × Int:=(-d.2,d.1)
def turnN : Nat → Int × Int → Int × Int
  | 0,d=>d
  | k + 1,d=>turnN k (turn d)
def Sm (B : Int) (d : Int × Int) : Prop:=-B ≤ d.1 ∧ d.1 ≤ B ∧ -B ≤ d.2 ∧ d.2 ≤ B
theorem Sm.turn {B : Int} {d : Int × Int} (h : Sm B d) : Sm B (turn d):=by
  obtain ⟨h1,h2,h3,h4⟩:=h
  exact ⟨by simp only [Rex.turn];omega,by simp only [Rex.turn];omega,h1,h2⟩
theorem Sm.turnN {B : Int} : ∀ {k : Nat} {d : Int × Int},Sm B d → Sm B (turnN k d)
  | 0,d,h=>h
  | k + 1,d,h=>Sm.turnN (k:=k) (d:=Rex.turn d) (Sm.turn h)
end Go.Rex

open Go Go.Rex
namespace Go.Rex
set_option maxRecDepth 100000
end Go.Rex

open Go Go.Rex
namespace Go.Rex
set_option maxRecDepth 100000
/-! ### the table of the reference is the circle -/
end Go.Rex

open Go Go.Rex
namespace Go.Rex
set_option maxRecDepth 100000
end Go.Rex

open Go Go.Rex
namespace Go.Rex
set_option maxRecDepth 100000
/-! ### values -/
theorem mul_bd {a b A B : Int} (ha : -A ≤ a ∧ a ≤ A) (hb : -B ≤ b ∧ b ≤ B) : -(A * B) ≤ a * b ∧ a * b ≤ A * B:=by
  have h1:=Int.mul_nonneg (show 0 ≤ A - a by omega) (show 0 ≤ B + b by omega)
  have h2:=Int.mul_nonneg (show 0 ≤ A + a by omega) (show 0 ≤ B - b by omega)
  have h3:=Int.mul_nonneg (show 0 ≤ A - a by omega) (show 0 ≤ B - b by omega)
  have h4:=Int.mul_nonneg (show 0 ≤ A + a by omega) (show 0 ≤ B + b by omega)
  rw [Int.sub_mul,Int.mul_add,Int.mul_add] at h1
  rw [Int.add_mul,Int.mul_sub,Int.mul_sub] at h2
  rw [Int.sub_mul,Int.mul_sub,Int.mul_sub] at h3
  rw [Int.add_mul,Int.mul_add,Int.mul_add] at h4
  omega
end Go.Rex

open Go Go.Rex
namespace Go.Rex
/-! ### determinants -/
theorem foldl_snoc {α β : Type} (f : α → β) : ∀ (l : List α) (c : List β),l.foldl (fun a x=>a ++ [f x]) c = c ++ l.map f
  | [],c=>by simp
  | x :: t,c=>by rw [List.foldl_cons,foldl_snoc f t];simp
theorem grow_eq {n : Nat} (h : n ≤ 2000) : slices_Grow_int_int_3c69 (n : Int) = some (List.replicate n 0,0):=by
  unfold slices_Grow_int_int_3c69
  rw [if_neg (by simp only [decide_eq_true_eq];omega),w64 (x:=(n : Int) - 0) (by omega)]
  by_cases h0 : n = 0
  · subst h0;rfl
  · rw [if_pos (by simp only [decide_eq_true_eq];omega)]
    unfold mzI cutI
    rw [if_pos (by omega),Option.bind_some,if_pos (by simp;omega),Option.bind_some]
    simp
theorem concat_eq {a b : List Int} (ha : a.length ≤ 1000) (hb : b.length ≤ 1000) : ∃ v n,slices_Concat_int_int [a,b] = some (v,n) ∧ v.take n = a ++ b:=by
  have s1 : slices_Concat_int_int_l1 [a,b] (0,0) = some (.inl ((a.length : Int),1)):=by
    unfold slices_Concat_int_int_l1
    have : getI [a,b] 0 = some a:=rfl
    have w : IntKind.i64.wrap (0 + (a.length : Int)) = (a.length : Int):=by rw [w64 (by omega)];omega
    simp only [this,Option.bind_some,w]
    rw [if_pos (by simp),if_neg (by simp only [decide_eq_true_eq];omega)]
    rfl
  have s2 : slices_Concat_int_int_l1 [a,b] ((a.length : Int),1) = some (.inl (((a.length + b.length : Nat) : Int),2)):=by
    unfold slices_Concat_int_int_l1
    have : getI [a,b] 1 = some b:=rfl
    have w : IntKind.i64.wrap ((a.length : Int) + (b.length : Int)) = ((a.length + b.length : Nat) : Int):=by rw [w64 (by omega)];omega
    simp only [this,Option.bind_some,w]
    rw [if_pos (by simp),if_neg (by simp only [decide_eq_true_eq];omega)]
    rfl
  have s3 : slices_Concat_int_int_l1 [a,b] (((a.length + b.length : Nat) : Int),2) = some (.inr ((a.length + b.length : Nat) : Int)):=by
    unfold slices_Concat_int_int_l1
    simp
  have t1 : slices_Concat_int_int_l2 [a,b] (List.replicate (a.length + b.length) 0,0,0) = some (.inl (a ++ List.replicate b.length 0,a.length,1)):=by
    unfold slices_Concat_int_int_l2
    have : getI [a,b] 0 = some a:=rfl
    simp only [this,Option.bind_some]
    rw [if_pos (by simp)]
    unfold ainI
    rw [if_pos (by simp),Option.bind_some]
    simp
    rfl
  have t2 : slices_Concat_int_int_l2 [a,b] (a ++ List.replicate b.length 0,a.length,1) = some (.inl (a ++ b,a.length + b.length,2)):=by
    unfold slices_Concat_int_int_l2
    have : getI [a,b] 1 = some b:=rfl
    simp only [this,Option.bind_some]
    rw [if_pos (by simp)]
    unfold ainI
    rw [if_pos (by simp),Option.bind_some]
    simp
    rfl
  have t3 : slices_Concat_int_int_l2 [a,b] (a ++ b,a.length + b.length,2) = some (.inr (a ++ b,a.length + b.length)):=by
    unfold slices_Concat_int_int_l2
    simp
  refine ⟨a ++ b,a.length + b.length,?_,?_⟩
  · unfold slices_Concat_int_int
    rw [run_next s1,run_next s2,run_stop s3,Option.bind_some,grow_eq (by omega),Option.bind_some]
    show ((run (slices_Concat_int_int_l2 [a,b]) (List.replicate (a.length + b.length) 0,0,0)).bind _) = _
    rw [run_next t1,run_next t2,run_stop t3]
    rfl
  · rw [List.take_of_length_le (by simp)]
def cutP (j : Nat) (r : List Int) : List Int:=r.take j ++ r.drop (j + 1)
def restP (m : List (List Int)) (j : Nat) : List (List Int):=m.tail.map (cutP j)
theorem sub_rest {α : Type} {m : List α} {k : Nat} {a : Int} (ha : a = (k : Int)) (h : k ≤ m.length) : subI m a (m.length : Int) = some (m.drop k):=by
  subst ha
  unfold subI
  rw [if_pos (by omega),List.take_of_length_le (by simp)]
  simp
theorem sub_front {α : Type} {m : List α} {k : Nat} (h : k ≤ m.length) : subI m 0 (k : Int) = some (m.take k):=by
  unfold subI
  rw [if_pos (by omega)]
  simp
theorem rest_eq {m : List (List Int)} {n j : Nat} (hm : ∀ r ∈ m,r.length = n) (hn : n ≤ 100) (hj : j < n) (hl : m.length ≤ 100) (h0 : 1 ≤ m.length) : loop_matrix_rest m (j : Int) = some (restP m j):=by
  unfold loop_matrix_rest
  have e1 : subI m 1 (m.length : Int) = some (m.drop 1):=sub_rest (k:=1) rfl h0
  rw [e1,Option.bind_some,List.drop_one]
  have:=run_fold (step:=loop_matrix_rest_l1 (j : Int) m.tail) (fun k (b : List (List Int))=>(b,(k : Int))) (fun b=>b) (fun b r=>b ++ [cutP j r]) (fun k b=>b.length = k ∧ k ≤ 100) m.tail (fun k r b hk hI=>by
    have hlt:=(List.getElem?_eq_some_iff.1 hk).1
    have hr : r.length = n:=hm r (List.mem_of_mem_tail (List.mem_of_getElem? hk))
    have hlt2 : m.tail.length ≤ 99:=by simp;omega
    refine ⟨?_,by simp only [List.length_append,List.length_singleton];omega,by omega⟩
    unfold loop_matrix_rest_l1
    have hg : getI m.tail (k : Int) = some r:=by unfold getI;rw [if_pos (by omega)];exact hk
    simp only
    rw [if_pos (by simp only [decide_eq_true_eq];omega),hg,Option.bind_some,sub_front (by omega),Option.bind_some,wsucc (n:=n) (by omega) (by omega),sub_rest (k:=j + 1) rfl (by omega),Option.bind_some]
    obtain ⟨v,w,c1,c2⟩:=concat_eq (a:=r.take j) (b:=r.drop (j + 1)) (by simp;omega) (by simp;omega)
    rw [c1,Option.bind_some]
    simp only [c2]
    unfold appI
    rw [if_pos (by simp only [List.length_singleton];omega),Option.bind_some,wsucc (n:=m.tail.length) (by omega) (by omega)]
    rfl) (fun b hI=>by
    unfold loop_matrix_rest_l1
    simp only
    rw [if_neg (by simp)]) (b0:=[]) ⟨rfl,by omega⟩
  show ((run (loop_matrix_rest_l1 (j : Int) m.tail) ([],((0 : Nat) : Int))).bind _) = _
  rw [this.1,Option.bind_some,foldl_snoc]
  simp [restP]
theorem rrest_eq {m : List (List Int)} {n j : Nat} (hm : ∀ r ∈ m,r.length = n) (hn : n ≤ 100) (hj : j < n) (hl : m.length ≤ 100) (h0 : 1 ≤ m.length) : run (ref08_det_l2 m (j : Int)) ([],1) = some (restP m j):=by
  have:=run_fold (step:=ref08_det_l2 m (j : Int)) (fun k (b : List (List Int))=>(b,((k + 1 : Nat) : Int))) (fun b=>b) (fun b r=>b ++ [cutP j r]) (fun k b=>b.length = k ∧ k ≤ 100) m.tail (fun k r b hk hI=>by
    have hlt:=(List.getElem?_eq_some_iff.1 hk).1
    have hr : r.length = n:=hm r (List.mem_of_mem_tail (List.mem_of_getElem? hk))
    have hlt2 : m.tail.length = m.length - 1:=by simp
    refine ⟨?_,by simp only [List.length_append,List.length_singleton];omega,by omega⟩
    unfold ref08_det_l2
    have hg : getI m ((k + 1 : Nat) : Int) = some r:=by
      unfold getI
      rw [if_pos (by omega),Int.toNat_natCast]
      rw [List.getElem?_tail] at hk
      exact hk
    simp only
    rw [if_pos (by simp only [decide_eq_true_eq];omega),hg,Option.bind_some,sub_front (by omega),Option.bind_some,copyI (by simp;omega),Option.bind_some,wsucc (n:=n) (by omega) (by omega),sub_rest (k:=j + 1) rfl (by omega),Option.bind_some]
    unfold appI
    rw [if_pos (by simp;omega),Option.bind_some,if_pos (by simp only [List.length_singleton];omega),Option.bind_some,wsucc (n:=m.length) (by omega) (by omega)]
    rfl) (fun b hI=>by
    unfold ref08_det_l2
    simp only
    rw [if_neg (by simp only [decide_eq_true_eq,List.length_tail];omega)]) (b0:=[]) ⟨rfl,by omega⟩
  rw [show ((1 : Int)) = ((0 + 1 : Nat) : Int) from rfl,this.1,foldl_snoc]
  simp [restP]
noncomputable def detP : Nat → List (List Int) → Int
  | 0,_=>1
  | n + 1,m=>((m.headD []).foldl (fun (a : Int × Int × Nat) x=>(a.1 + a.2.1 * x * detP n (restP m a.2.2),-a.2.1,a.2.2 + 1)) (0,1,0)).1
def okM (n : Nat) (m : List (List Int)) : Prop:=m.length = n ∧ ∀ r ∈ m,r.length = n ∧ ∀ x ∈ r,-2000 ≤ x ∧ x ≤ 2000
theorem okM.rest {n : Nat} {m : List (List Int)} (h : okM (n + 1) m) {j : Nat} (hj : j < n + 1) : okM n (restP m j):=by
  refine ⟨by simp [restP,h.1],fun r hr=>?_⟩
  obtain ⟨q,hq,rfl⟩:=List.mem_map.1 hr
  obtain ⟨h1,h2⟩:=h.2 q (List.mem_of_mem_tail hq)
  refine ⟨by simp [cutP,h1];omega,fun x hx=>h2 x ?_⟩
  rcases List.mem_append.1 hx with hx|hx
  · exact List.mem_of_mem_take hx
  · exact List.mem_of_mem_drop hx
def bndM : Nat → Int
  | 0=>1
  | n + 1=>(n + 1) * (2000 * bndM n)
theorem bndM_bd : ∀ n,n ≤ 3 → 0 ≤ bndM n ∧ bndM n ≤ 48000000000:=by decide
theorem det_eq : ∀ n,n ≤ 4 → ∀ m,okM n m → ∀ e,loop_matrix_determinant_n (n + 1 + e) m = some (detP n m) ∧ ref08_det_n (n + 1 + e) m = some (detP n m) ∧ -(bndM n) ≤ detP n m ∧ detP n m ≤ bndM n
  | 0,_,m,hm,e=>by
    have : m = []:=List.length_eq_zero_iff.1 hm.1
    subst this
    rw [Nat.add_comm (0 + 1) e]
    refine ⟨rfl,rfl,by decide,by decide⟩
  | n + 1,hn,m,hm,e=>by
    have ih:=det_eq n (by omega)
    obtain ⟨r0,hr0⟩ : ∃ r,m[0]? = some r:=⟨m[0]'(by have:=hm.1;omega),List.getElem?_eq_getElem _⟩
    have hhd : m.headD [] = r0:=by
      cases m with
      | nil=>cases hr0
      | cons a t=>simpa using hr0
    obtain ⟨hr1,hr2⟩:=hm.2 r0 (List.mem_of_getElem? hr0)
    obtain ⟨c1,c2⟩:=bndM_bd n (by omega)
    have hg0 : getI m 0 = some r0:=by unfold getI;exact hr0
    have hml:=hm.1
    obtain ⟨C,hC⟩ : ∃ C,C = 2000 * bndM n:=⟨_,rfl⟩
    have kc : ∀ k : Nat,k ≤ 4 → 0 ≤ (k : Int) * C ∧ (k : Int) * C ≤ 4 * C:=fun k hk=>⟨Int.mul_nonneg (by omega) (by omega),Int.mul_le_mul_of_nonneg_right (by omega) (by omega)⟩
    have pre : ∀ (k : Nat) (x : Int) (b : Int × Int × Nat), r0[k]? = some x → (b.2.2 = k ∧ (b.2.1 = 1 ∨ b.2.1 = -1) ∧ -((k : Int) * C) ≤ b.1 ∧ b.1 ≤ (k : Int) * C) →
        k < n + 1 ∧ getI r0 (k : Int) = some x ∧ IntKind.i64.wrap (b.1 + IntKind.i64.wrap (IntKind.i64.wrap (b.2.1 * x) * detP n (restP m k))) = b.1 + b.2.1 * x * detP n (restP m b.2.2) ∧ IntKind.i64.wrap (0 - b.2.1) = -b.2.1 ∧
        (-(((k + 1 : Nat) : Int) * C) ≤ b.1 + b.2.1 * x * detP n (restP m b.2.2) ∧ b.1 + b.2.1 * x * detP n (restP m b.2.2) ≤ ((k + 1 : Nat) : Int) * C):=by
      intro k x b hk hI
      have hlt:=(List.getElem?_eq_some_iff.1 hk).1
      have hx:=hr2 x (List.mem_of_getElem? hk)
      obtain ⟨i1,i2,i3,i4⟩:=hI
      obtain ⟨_,_,d1,d2⟩:=ih (restP m k) (hm.rest (j:=k) (by omega)) 0
      have hs : -2000 ≤ b.2.1 * x ∧ b.2.1 * x ≤ 2000:=by rcases i2 with h|h<;>rw [h]<;>omega
      have hp:=mul_bd hs ⟨d1,d2⟩
      rw [← hC] at hp
      have hk1:=kc k (by omega)
      have e1 : ((k + 1 : Nat) : Int) * C = (k : Int) * C + C:=by rw [Int.natCast_add,Int.add_mul];simp
      refine ⟨by omega,by unfold getI;rw [if_pos (by omega)];exact hk,?_,by rw [w64 (by rcases i2 with h|h<;>rw [h]<;>omega)];omega,?_⟩
      · rw [w64 (x:=b.2.1 * x) (by omega),w64 (x:=b.2.1 * x * _) (by omega),w64 (by omega),i1]
      · rw [i1]
        omega
    have f1:=run_fold (step:=loop_matrix_determinant_l1 (loop_matrix_determinant_n (n + 1 + e)) m r0) (fun k (b : Int × Int × Nat)=>(b.1,b.2.1,(k : Int))) (fun b=>b.1) (fun a x=>(a.1 + a.2.1 * x * detP n (restP m a.2.2),-a.2.1,a.2.2 + 1)) (fun k b=>b.2.2 = k ∧ (b.2.1 = 1 ∨ b.2.1 = -1) ∧ -((k : Int) * C) ≤ b.1 ∧ b.1 ≤ (k : Int) * C) r0 (fun k x b hk hI=>by
      obtain ⟨p1,p2,p3,p4,p5⟩:=pre k x b hk hI
      refine ⟨?_,by simp only;omega,by simp only;rcases hI.2.1 with h|h<;>rw [h]<;>simp,p5⟩
      unfold loop_matrix_determinant_l1
      simp only
      rw [if_pos (by simp only [decide_eq_true_eq];omega),p2,Option.bind_some,rest_eq (n:=n + 1) (fun r hr=>(hm.2 r hr).1) (by omega) p1 (by omega) (by omega),Option.bind_some,(ih (restP m k) (hm.rest (j:=k) (by omega)) e).1,Option.bind_some,p3,p4,wsucc (n:=n + 1) (by omega) (by omega)]) (fun b hI=>by
      unfold loop_matrix_determinant_l1
      simp only
      rw [if_neg (by simp)]) (b0:=(0,1,0)) ⟨rfl,.inl rfl,by simp,by simp⟩
    have f2:=run_fold (step:=ref08_det_l1 (ref08_det_n (n + 1 + e)) m) (fun k (b : Int × Int × Nat)=>(b.1,b.2.1,(k : Int))) (fun b=>b.1) (fun a x=>(a.1 + a.2.1 * x * detP n (restP m a.2.2),-a.2.1,a.2.2 + 1)) (fun k b=>b.2.2 = k ∧ (b.2.1 = 1 ∨ b.2.1 = -1) ∧ -((k : Int) * C) ≤ b.1 ∧ b.1 ≤ (k : Int) * C) r0 (fun k x b hk hI=>by
      obtain ⟨p1,p2,p3,p4,p5⟩:=pre k x b hk hI
      refine ⟨?_,by simp only;omega,by simp only;rcases hI.2.1 with h|h<;>rw [h]<;>simp,p5⟩
      unfold ref08_det_l1
      simp only
      rw [if_pos (by simp only [decide_eq_true_eq];omega),rrest_eq (n:=n + 1) (fun r hr=>(hm.2 r hr).1) (by omega) p1 (by omega) (by omega),Option.bind_some,hg0,Option.bind_some,p2,Option.bind_some,(ih (restP m k) (hm.rest (j:=k) (by omega)) e).2.1,Option.bind_some,p3,p4,wsucc (n:=n + 1) (by omega) (by omega)]) (fun b hI=>by
      unfold ref08_det_l1
      simp only
      rw [if_neg (by simp only [decide_eq_true_eq];omega)]) (b0:=(0,1,0)) ⟨rfl,.inl rfl,by simp,by simp⟩
    have hd : detP (n + 1) m = (r0.foldl (fun (a : Int × Int × Nat) x=>(a.1 + a.2.1 * x * detP n (restP m a.2.2),-a.2.1,a.2.2 + 1)) (0,1,0)).1:=by
      rw [detP,hhd]
    have hb : bndM (n + 1) = (r0.length : Int) * C:=by rw [hr1,hC];rfl
    rw [hd,hb,Nat.add_right_comm (n + 1) 1 e]
    refine ⟨?_,?_,f1.2.2.2.1,f1.2.2.2.2⟩
    · show loop_matrix_determinant_b (loop_matrix_determinant_n (n + 1 + e)) m = _
      unfold loop_matrix_determinant_b
      rw [if_neg (by simp only [decide_eq_true_eq];omega),hg0,Option.bind_some]
      have:=f1.1
      simp only at this
      rw [show ((0 : Nat) : Int) = 0 from rfl] at this
      rw [this]
      rfl
    · show ref08_det_b (ref08_det_n (n + 1 + e)) m = _
      unfold ref08_det_b
      rw [if_neg (by simp only [decide_eq_true_eq];omega)]
      have:=f2.1
      simp only at this
      rw [show ((0 : Nat) : Int) = 0 from rfl] at this
      rw [this]
      rfl
end Go.Rex

open Go Go.Rex
namespace Go.Rex
/-! ### lines -/
theorem foldl_idx {α β : Type} (f : Nat → α → β) : ∀ (l : List α) (c : List β),l.foldl (fun acc r=>acc ++ [f acc.length r]) c = c ++ l.mapIdx (fun i r=>f (c.length + i) r)
  | [],c=>by simp
  | x :: t,c=>by
    rw [List.foldl_cons,foldl_idx f t,List.mapIdx_cons]
    simp [Nat.add_assoc,Nat.add_comm 1]
theorem small_eq (x : List (List Int)) : ∃ b,law08_Small x = some b ∧ (b = true → x.length ≤ 6 ∧ ∀ r ∈ x,r.length ≤ 6):=by
  unfold law08_Small
  by_cases h6 : x.length > 6
  · exact ⟨false,by rw [if_pos (by simp only [decide_eq_true_eq];omega)],by simp⟩
  · rw [if_neg (by simp only [decide_eq_true_eq];omega)]
    refine ⟨_,(bind_first (s:=(0 : Int)) (fun k=>(k : Int)) (fun r : List Int=>decide (r.length > 6)) (fun _ _=>.inl ()) (.inr ()) x (fun e=>match e with|.inl _=>false|.inr _=>true) rfl (fun e=>by cases e<;>rfl) (fun k r hk=>by
      have hlt:=(List.getElem?_eq_some_iff.1 hk).1
      unfold law08_Small_l1
      have hg : getI x (k : Int) = some r:=by unfold getI;rw [if_pos (by omega)];exact hk
      rw [if_pos (by simp only [decide_eq_true_eq];omega),hg,Option.bind_some]
      by_cases hr : r.length > 6
      · rw [if_pos (by simp only [decide_eq_true_eq];omega),if_pos (by simpa using hr)]
      · rw [if_neg (by simp only [decide_eq_true_eq];omega),if_neg (by simpa using hr),wsucc (n:=x.length) (by omega) (by omega)]) (by
      unfold law08_Small_l1
      rw [if_neg (by simp)])).trans (congrArg some (firstOr_all _ false true x 0)),fun h=>⟨by omega,fun r hr=>?_⟩⟩
    split at h
    · rename_i ha
      have:=List.all_eq_true.1 ha r hr
      simp only [Bool.not_eq_true',decide_eq_false_iff_not] at this
      omega
    · cases h
theorem copyLinesR {x : List (List Int)} (h1 : x.length ≤ 6) (h2 : ∀ r ∈ x,r.length ≤ 6) : ref08_CopyLines x = some x:=by
  unfold ref08_CopyLines base_CopyLists
  have:=run_fold (step:=base_CopyLists_l1 x) (fun k (b : List (List Int))=>(b,(k : Int))) (fun b=>b) (fun b r=>b ++ [id r]) (fun k b=>b.length = k) x (fun k r b hk hI=>by
    have hlt:=(List.getElem?_eq_some_iff.1 hk).1
    have:=h2 r (List.mem_of_getElem? hk)
    refine ⟨?_,by simp only [List.length_append,List.length_singleton];omega⟩
    unfold base_CopyLists_l1
    have hg : getI x (k : Int) = some r:=by unfold getI;rw [if_pos (by omega)];exact hk
    simp only
    rw [if_pos (by simp only [decide_eq_true_eq];omega),hg,Option.bind_some,copyI (by omega),Option.bind_some]
    unfold appI
    rw [if_pos (by simp only [List.length_singleton];omega),Option.bind_some,wsucc (n:=x.length) (by omega) (by omega)]
    rfl) (fun b hI=>by
    unfold base_CopyLists_l1
    simp only
    rw [if_neg (by simp)]) (b0:=[]) rfl
  have t:=this.1
  rw [foldl_snoc] at t
  simp only [List.map_id_fun,id,List.nil_append] at t
  show ((((run (base_CopyLists_l1 x) ([],((0 : Nat) : Int))).bind _)).bind _) = _
  rw [t]
  simp
def rowE (n : Nat) (r : List Int) : Int:=if r.length ≠ n then 10 else if (r.all fun x=>!badTap 0 2000 x) = true then 0 else 2
def chkX (x : List (List Int)) : Int:=if x.length = 0 then 10 else if x.length > 4 then 8 else firstOr (fun r=>decide (rowE x.length r ≠ 0)) (fun _ r=>rowE x.length r) 0 0 x
theorem rowR {x : List (List Int)} {k : Nat} {r : List Int} (hk : x[k]? = some r) (h2 : r.length ≤ 6) : loop_lines_check_c1_1897 (k : Int) x = some (rowE x.length r):=by
  have hlt:=(List.getElem?_eq_some_iff.1 hk).1
  unfold loop_lines_check_c1_1897
  have hg : getI x (k : Int) = some r:=by unfold getI;rw [if_pos (by omega)];exact hk
  rw [hg,Option.bind_some]
  unfold loop_refuse loop_allWithin loop_each_2037 loop_firstError_2b8f rowE
  simp only [Option.bind_some,refuseR,eachR 0 2000 (show r.length ≤ 1048576 by omega)]
  by_cases h : r.length = x.length
  · have e1 : ¬ ((r.length : Int) ≠ (x.length : Int)):=by omega
    by_cases ha : (r.all fun x=>!badTap 0 2000 x) = true
    · simp [h,ha]
    · simp [h,ha]
  · have e1 : ((r.length : Int) ≠ (x.length : Int)):=by omega
    simp [h,e1]
theorem chkXR {x : List (List Int)} (h1 : x.length ≤ 6) (h2 : ∀ r ∈ x,r.length ≤ 6) : loop_lines_check x = some (chkX x):=by
  unfold loop_lines_check loop_counted loop_each_76a3 loop_firstError_f586
  simp only [Option.bind_some,countedR]
  unfold chkX
  by_cases h0 : x.length = 0
  · simp [h0]
  · by_cases h4 : x.length > 4
    · have e1 : ¬ ((x.length : Int) = 0):=by omega
      have e2 : (x.length : Int) > 4:=by omega
      simp [h0,h4,e1,e2]
    · have e1 : ¬ ((x.length : Int) = 0):=by omega
      have e2 : ¬ (x.length : Int) > 4:=by omega
      simp only [h0,h4,e1,e2,if_false]
      rw [if_neg (by decide)]
      have e3 : loop_each_c1_544b (x.length : Int) x = some (firstOr (fun r=>decide (rowE x.length r ≠ 0)) (fun _ r=>rowE x.length r) 0 0 x):=by
        unfold loop_each_c1_544b
        refine (bind_first (ε:=Int ⊕ Unit) (s:=(0 : Int)) (fun k=>(k : Int)) (fun r=>decide (rowE x.length r ≠ 0)) (fun _ r=>.inl (rowE x.length r)) (.inr ()) x (fun e=>match e with|.inl v=>v|.inr _=>0) rfl (fun e=>by cases e<;>rfl) (fun k r hk=>?_) ?_).trans rfl
        · have hlt:=(List.getElem?_eq_some_iff.1 hk).1
          unfold loop_each_c1_544b_l1
          rw [if_pos (by simp only [decide_eq_true_eq];omega),rowR hk (h2 r (List.mem_of_getElem? hk)),Option.bind_some]
          by_cases hr : rowE x.length r = 0
          · simp [hr]
            exact wsucc (n:=x.length) (by omega) (by omega)
          · simp [hr]
        · unfold loop_each_c1_544b_l1
          rw [if_neg (by simp)]
      rw [e3,Option.bind_some]
      generalize firstOr (fun r=>decide (rowE x.length r ≠ 0)) (fun _ r=>rowE x.length r) 0 0 x = q
      by_cases hq : q = 0<;>simp [hq]
theorem rchkXR {x : List (List Int)} (h1 : x.length ≤ 6) (h2 : ∀ r ∈ x,r.length ≤ 6) : ref08_CheckLines x = some (chkX x):=by
  unfold ref08_CheckLines chkX
  by_cases h0 : x.length = 0
  · simp [h0]
  · by_cases h4 : x.length > 4
    · have e1 : ¬ ((x.length : Int) = 0):=by omega
      have e2 : (x.length : Int) > 4:=by omega
      simp [h0,h4,e1,e2]
    · have e1 : ¬ ((x.length : Int) = 0):=by omega
      have e2 : ¬ (x.length : Int) > 4:=by omega
      simp only [h0,h4,e1,e2,if_false,decide_false,Bool.false_eq_true]
      refine (bind_first (ε:=Int ⊕ Unit) (s:=(0 : Int)) (fun k=>(k : Int)) (fun r=>decide (rowE x.length r ≠ 0)) (fun _ r=>.inl (rowE x.length r)) (.inr ()) x (fun e=>match e with|.inl v=>v|.inr _=>0) rfl (fun e=>by cases e<;>rfl) (fun k r hk=>?_) ?_).trans rfl
      · have hlt:=(List.getElem?_eq_some_iff.1 hk).1
        have hrl:=h2 r (List.mem_of_getElem? hk)
        unfold ref08_CheckLines_l1
        have hg : getI x (k : Int) = some r:=by unfold getI;rw [if_pos (by omega)];exact hk
        rw [if_pos (by simp only [decide_eq_true_eq];omega),hg,Option.bind_some]
        by_cases h : r.length = x.length
        · rw [if_neg (by simp only [decide_eq_true_eq];omega)]
          have e4 : rowE x.length r = if (r.all fun x=>!badTap 0 2000 x) = true then 0 else 2:=by unfold rowE;rw [if_neg (by simpa using h)]
          have:=bind_first (s:=(0 : Int)) (step:=ref08_CheckLines_l2 r) (F:=fun v18=>(match v18 with
            | (.inl _)=>some (.inr (.inl 2))
            | (.inr _)=>some (.inl (IntKind.i64.wrap ((k : Int) + 1))) : Option (Int ⊕ (Int ⊕ Unit)))) (fun k=>(k : Int)) (badTap 0 2000) (fun _ _=>.inl ()) (.inr ()) r (fun e=>match e with|.inl _=>.inr (.inl 2)|.inr _=>.inl ((k + 1 : Nat) : Int)) rfl (fun e=>by
              cases e with
              | inl _=>rfl
              | inr _=>simp only [wsucc (n:=x.length) (show k ≤ x.length by omega) (by omega)]) (fun j y hj=>by
              have hlt2:=(List.getElem?_eq_some_iff.1 hj).1
              unfold ref08_CheckLines_l2
              have hg2 : getI r (j : Int) = some y:=by unfold getI;rw [if_pos (by omega)];exact hj
              rw [if_pos (by simp only [decide_eq_true_eq];omega),hg2,Option.bind_some,within_eq,Option.bind_some]
              by_cases hbad : y < 0 ∨ y > 2000
              · have : ¬ (0 ≤ y ∧ y ≤ 2000):=by omega
                simp [hbad,badTap,this]
              · have : 0 ≤ y ∧ y ≤ 2000:=by omega
                simp [hbad,badTap,this]
                exact wsucc (n:=r.length) (by omega) (by omega)) (by
              unfold ref08_CheckLines_l2
              rw [if_neg (by simp)])
          refine this.trans ?_
          rw [firstOr_all,e4]
          by_cases ha : (r.all fun x=>!badTap 0 2000 x) = true<;>simp [ha]
        · rw [if_pos (by simp only [decide_eq_true_eq];omega)]
          have e4 : rowE x.length r = 10:=by unfold rowE;rw [if_pos (by simpa using h)]
          simp [e4]
      · unfold ref08_CheckLines_l1
        rw [if_neg (by simp)]
theorem firstOr_zero {α : Type} (E : α → Int) : ∀ (xs : List α) k,firstOr (fun r=>decide (E r ≠ 0)) (fun _ r=>E r) 0 k xs = 0 → ∀ r ∈ xs,E r = 0
  | [],_,_,r,hr=>by simp at hr
  | y :: t,k,h,r,hr=>by
    unfold firstOr at h
    by_cases hy : E y = 0
    · rw [if_neg (by simpa using hy)] at h
      rcases List.mem_cons.1 hr with rfl|hr
      · exact hy
      · exact firstOr_zero E t (k + 1) h r hr
    · rw [if_pos (by simpa using hy)] at h
      exact absurd h hy
theorem chkX_parts {x : List (List Int)} (h : chkX x = 0) : 1 ≤ x.length ∧ x.length ≤ 4 ∧ ∀ r ∈ x,r.length = x.length ∧ ∀ y ∈ r,0 ≤ y ∧ y ≤ 2000:=by
  unfold chkX at h
  split at h
  · cases h
  · split at h
    · cases h
    · refine ⟨by omega,by omega,fun r hr=>?_⟩
      have:=firstOr_zero (rowE x.length) x 0 h r hr
      unfold rowE at this
      split at this
      · cases this
      · rename_i h3
        split at this
        · rename_i h4
          refine ⟨by omega,fun y hy=>?_⟩
          have:=List.all_eq_true.1 h4 y hy
          simp only [badTap,Bool.not_eq_true',decide_eq_false_iff_not] at this
          omega
        · cases this
end Go.Rex

namespace Go.Rex
/-! ### lines that fade -/
theorem np_nn {a b : Int} (ha : a ≤ 0) (hb : b ≤ 0) : 0 ≤ a * b:=by
  have:=Int.mul_nonneg (show 0 ≤ -a by omega) (show 0 ≤ -b by omega)
  rwa [Int.neg_mul_neg] at this
theorem pn_np {a b : Int} (ha : 0 ≤ a) (hb : b ≤ 0) : a * b ≤ 0:=Int.mul_nonpos_of_nonneg_of_nonpos ha hb
theorem np_np {a b : Int} (ha : a ≤ 0) (hb : 0 ≤ b) : a * b ≤ 0:=Int.mul_nonpos_of_nonpos_of_nonneg ha hb
theorem pos_of {a b : Int} (hb : 0 < b) (h : 0 < a * b) : 0 < a:=by
  rcases Int.lt_or_le 0 a with ha|ha
  · exact ha
  · have:=np_np ha (Int.le_of_lt hb)
    omega
theorem schur {a q R1 Ri : Int} (ha : 0 < a) (hq : q ≤ 0) (h1 : 0 < R1) (hi : 0 < Ri) : 0 < a * Ri - q * R1:=by
  have:=Int.mul_pos ha hi
  have:=np_np hq (Int.le_of_lt h1)
  omega
theorem offD {a x p q : Int} (ha : 0 < a) (hx : x ≤ 0) (hp : p ≤ 0) (hq : q ≤ 0) : a * x - p * q ≤ 0:=by
  have:=pn_np (Int.le_of_lt ha) hx
  have:=np_nn hp hq
  omega
theorem pos1 {a u : Int} (hu : 0 < u) (h1 : 0 < a * u) : 0 < a:=pos_of hu h1
theorem pos2 {a b c d u v : Int} (hb : b ≤ 0) (hc : c ≤ 0) (hu : 0 < u) (hv : 0 < v) (h1 : 0 < a * u + b * v) (h2 : 0 < c * u + d * v) : 0 < a * d - b * c:=by
  have hbv:=np_np hb (Int.le_of_lt hv)
  have ha : 0 < a:=pos_of hu (by omega)
  have:=schur ha hc h1 h2
  have e : a * (c * u + d * v) - c * (a * u + b * v) = (a * d - b * c) * v:=by grind
  exact pos_of hv (by omega)
theorem pos3 {a b c d e f g h i u v w : Int} (hb : b ≤ 0) (hc : c ≤ 0) (hd : d ≤ 0) (hf : f ≤ 0) (hg : g ≤ 0) (hh : h ≤ 0) (hu : 0 < u) (hv : 0 < v) (hw : 0 < w)
    (h1 : 0 < a * u + b * v + c * w) (h2 : 0 < d * u + e * v + f * w) (h3 : 0 < g * u + h * v + i * w) : 0 < a * (e * i - f * h) - b * (d * i - f * g) + c * (d * h - e * g):=by
  have hbv:=np_np hb (Int.le_of_lt hv)
  have hcw:=np_np hc (Int.le_of_lt hw)
  have ha : 0 < a:=pos_of hu (by omega)
  have s2:=schur ha hd h1 h2
  have s3:=schur ha hg h1 h3
  have e2 : a * (d * u + e * v + f * w) - d * (a * u + b * v + c * w) = (a * e - d * b) * v + (a * f - d * c) * w:=by grind
  have e3 : a * (g * u + h * v + i * w) - g * (a * u + b * v + c * w) = (a * h - g * b) * v + (a * i - g * c) * w:=by grind
  have:=pos2 (a:=a * e - d * b) (b:=a * f - d * c) (c:=a * h - g * b) (d:=a * i - g * c) (offD ha hf hd hc) (offD ha hh hg hb) hv hw (by omega) (by omega)
  have e4 : (a * e - d * b) * (a * i - g * c) - (a * f - d * c) * (a * h - g * b) = (a * (e * i - f * h) - b * (d * i - f * g) + c * (d * h - e * g)) * a:=by grind
  exact pos_of ha (by omega)
theorem pos4 {a b c d e f g h i j k l m n o p u v w z : Int} (hb : b ≤ 0) (hc : c ≤ 0) (hd : d ≤ 0) (he : e ≤ 0) (hg : g ≤ 0) (hh : h ≤ 0) (hi : i ≤ 0) (hj : j ≤ 0) (hl : l ≤ 0) (hm : m ≤ 0) (hn : n ≤ 0) (ho : o ≤ 0)
    (hu : 0 < u) (hv : 0 < v) (hw : 0 < w) (hz : 0 < z)
    (h1 : 0 < a * u + b * v + c * w + d * z) (h2 : 0 < e * u + f * v + g * w + h * z) (h3 : 0 < i * u + j * v + k * w + l * z) (h4 : 0 < m * u + n * v + o * w + p * z) :
    0 < a * (f * (k * p - l * o) - g * (j * p - l * n) + h * (j * o - k * n)) - b * (e * (k * p - l * o) - g * (i * p - l * m) + h * (i * o - k * m)) + c * (e * (j * p - l * n) - f * (i * p - l * m) + h * (i * n - j * m)) - d * (e * (j * o - k * n) - f * (i * o - k * m) + g * (i * n - j * m)):=by
  have hbv:=np_np hb (Int.le_of_lt hv)
  have hcw:=np_np hc (Int.le_of_lt hw)
  have hdz:=np_np hd (Int.le_of_lt hz)
  have ha : 0 < a:=pos_of hu (by omega)
  have s2:=schur ha he h1 h2
  have s3:=schur ha hi h1 h3
  have s4:=schur ha hm h1 h4
  have e2 : a * (e * u + f * v + g * w + h * z) - e * (a * u + b * v + c * w + d * z) = (a * f - e * b) * v + (a * g - e * c) * w + (a * h - e * d) * z:=by grind
  have e3 : a * (i * u + j * v + k * w + l * z) - i * (a * u + b * v + c * w + d * z) = (a * j - i * b) * v + (a * k - i * c) * w + (a * l - i * d) * z:=by grind
  have e4 : a * (m * u + n * v + o * w + p * z) - m * (a * u + b * v + c * w + d * z) = (a * n - m * b) * v + (a * o - m * c) * w + (a * p - m * d) * z:=by grind
  have:=pos3 (a:=a * f - e * b) (b:=a * g - e * c) (c:=a * h - e * d) (d:=a * j - i * b) (e:=a * k - i * c) (f:=a * l - i * d) (g:=a * n - m * b) (h:=a * o - m * c) (i:=a * p - m * d)
    (offD ha hg he hc) (offD ha hh he hd) (offD ha hj hi hb) (offD ha hl hi hd) (offD ha hn hm hb) (offD ha ho hm hc) hv hw hz (by omega) (by omega) (by omega)
  have e5 : (a * f - e * b) * ((a * k - i * c) * (a * p - m * d) - (a * l - i * d) * (a * o - m * c)) - (a * g - e * c) * ((a * j - i * b) * (a * p - m * d) - (a * l - i * d) * (a * n - m * b)) + (a * h - e * d) * ((a * j - i * b) * (a * o - m * c) - (a * k - i * c) * (a * n - m * b)) =
    (a * (f * (k * p - l * o) - g * (j * p - l * n) + h * (j * o - k * n)) - b * (e * (k * p - l * o) - g * (i * p - l * m) + h * (i * o - k * m)) + c * (e * (j * p - l * n) - f * (i * p - l * m) + h * (i * n - j * m)) - d * (e * (j * o - k * n) - f * (i * o - k * m) + g * (i * n - j * m))) * (a * a):=by grind
  exact pos_of (Int.mul_pos ha ha) (by omega)
end Go.Rex

open Go Go.Rex
namespace Go.Rex
/-! ### minors -/
def rowM (i : Nat) (r : List Int) : List Int:=(r.map fun a=>-a).set i (-(r.getD i 0) + 1000)
def matF (x : List (List Int)) : List (List Int):=x.mapIdx rowM
def leadP (m : List (List Int)) (k : Nat) : List (List Int):=(m.take k).map (List.take k)
noncomputable def minP (x : List (List Int)) : List Int:=x.mapIdx fun i _=>detP (i + 1) (leadP (matF x) (i + 1))
def okX (x : List (List Int)) : Prop:=1 ≤ x.length ∧ x.length ≤ 4 ∧ ∀ r ∈ x,r.length = x.length ∧ ∀ y ∈ r,0 ≤ y ∧ y ≤ 2000
theorem negs_run {r : List Int} (h1 : r.length ≤ 6) (h2 : ∀ y ∈ r,0 ≤ y ∧ y ≤ 2000) : run (loop_lines_matrix_l2 r) ([],0) = some (r.map fun a=>-a):=by
  have:=run_fold (step:=loop_lines_matrix_l2 r) (fun k (b : List Int)=>(b,(k : Int))) (fun b=>b) (fun b a=>b ++ [-a]) (fun k b=>b.length = k) r (fun k a b hk hI=>by
    have hlt:=(List.getElem?_eq_some_iff.1 hk).1
    have:=h2 a (List.mem_of_getElem? hk)
    refine ⟨?_,by simp only [List.length_append,List.length_singleton];omega⟩
    unfold loop_lines_matrix_l2
    have hg : getI r (k : Int) = some a:=by unfold getI;rw [if_pos (by omega)];exact hk
    simp only
    rw [if_pos (by simp only [decide_eq_true_eq];omega),hg,Option.bind_some,wneg (by omega)]
    unfold appI
    rw [if_pos (by simp only [List.length_singleton];omega),Option.bind_some,wsucc (n:=r.length) (by omega) (by omega)]) (fun b hI=>by
    unfold loop_lines_matrix_l2
    simp only
    rw [if_neg (by simp)]) (b0:=[]) rfl
  have t:=this.1
  rw [foldl_snoc] at t
  simpa using t
theorem matR {x : List (List Int)} (h : okX x) : loop_lines_matrix x = some (matF x):=by
  obtain ⟨h1,h2,h3⟩:=h
  unfold loop_lines_matrix
  have:=run_fold (step:=loop_lines_matrix_l1 x) (fun k (b : List (List Int))=>(b,(k : Int))) (fun b=>b) (fun b r=>b ++ [rowM b.length r]) (fun k b=>b.length = k) x (fun k r b hk hI=>by
    have hlt:=(List.getElem?_eq_some_iff.1 hk).1
    obtain ⟨r1,r2⟩:=h3 r (List.mem_of_getElem? hk)
    refine ⟨?_,by simp only [List.length_append,List.length_singleton];omega⟩
    unfold loop_lines_matrix_l1
    have hg : getI x (k : Int) = some r:=by unfold getI;rw [if_pos (by omega)];exact hk
    have hkr : k < r.length:=by omega
    have hd : r.getD k 0 = r[k]:=by rw [List.getD_eq_getElem?_getD,List.getElem?_eq_getElem hkr];rfl
    have hv:=r2 (r[k]) (List.getElem_mem hkr)
    have hg2 : getI (r.map fun a=>-a) (k : Int) = some (-(r.getD k 0)):=by
      unfold getI
      rw [if_pos (by omega),Int.toNat_natCast,List.getElem?_map,List.getElem?_eq_getElem hkr,hd]
      rfl
    simp only
    rw [if_pos (by simp only [decide_eq_true_eq];omega),hg,Option.bind_some,negs_run (by omega) r2,Option.bind_some,hg2,Option.bind_some,w64 (x:=_ + 1000) (by rw [hd];omega),Int.toNat_natCast]
    unfold appI
    rw [if_pos (by simp only [List.length_singleton];omega),Option.bind_some,wsucc (n:=x.length) (by omega) (by omega),hI]
    rfl) (fun b hI=>by
    unfold loop_lines_matrix_l1
    simp only
    rw [if_neg (by simp)]) (b0:=[]) rfl
  have t:=this.1
  rw [foldl_idx] at t
  show ((run (loop_lines_matrix_l1 x) ([],((0 : Nat) : Int))).bind _) = _
  rw [t]
  simp [matF]
theorem leadR {m : List (List Int)} {n k : Nat} (hm : ∀ r ∈ m,r.length = n) (hk : k ≤ n) (hl : m.length = n) (hn : n ≤ 4) : loop_matrix_leading m (k : Int) = some (leadP m k):=by
  unfold loop_matrix_leading
  rw [sub_front (by omega),Option.bind_some]
  have:=run_fold (step:=loop_matrix_leading_l1 (k : Int) (m.take k)) (fun j (b : List (List Int))=>(b,(j : Int))) (fun b=>b) (fun b r=>b ++ [r.take k]) (fun j b=>b.length = j) (m.take k) (fun j r b hj hI=>by
    have hlt:=(List.getElem?_eq_some_iff.1 hj).1
    have hr : r.length = n:=hm r (List.mem_of_mem_take (List.mem_of_getElem? hj))
    have hlt2 : (m.take k).length ≤ 4:=by simp;omega
    refine ⟨?_,by simp only [List.length_append,List.length_singleton];omega⟩
    unfold loop_matrix_leading_l1
    have hg : getI (m.take k) (j : Int) = some r:=by unfold getI;rw [if_pos (by omega)];exact hj
    simp only
    rw [if_pos (by simp only [decide_eq_true_eq];omega),hg,Option.bind_some,sub_front (by omega),Option.bind_some]
    unfold appI
    rw [if_pos (by simp only [List.length_singleton];omega),Option.bind_some,wsucc (n:=(m.take k).length) (by omega) (by omega)]) (fun b hI=>by
    unfold loop_matrix_leading_l1
    simp only
    rw [if_neg (by simp)]) (b0:=[]) rfl
  have t:=this.1
  rw [foldl_snoc] at t
  show ((run (loop_matrix_leading_l1 (k : Int) (m.take k)) ([],((0 : Nat) : Int))).bind _) = _
  rw [t]
  simp [leadP]
theorem rowM_len (i : Nat) (r : List Int) : (rowM i r).length = r.length:=by simp [rowM]
theorem rowM_bd {i : Nat} {r : List Int} (h : ∀ y ∈ r,0 ≤ y ∧ y ≤ 2000) : ∀ y ∈ rowM i r,-2000 ≤ y ∧ y ≤ 2000:=by
  intro y hy
  rcases List.mem_or_eq_of_mem_set hy with hy|rfl
  · obtain ⟨a,ha,rfl⟩:=List.mem_map.1 hy
    have:=h a ha
    omega
  · rw [List.getD_eq_getElem?_getD]
    cases hc : r[i]? with
    | none=>simp
    | some a =>
      have:=h a (List.mem_of_getElem? hc)
      simp only [Option.getD_some]
      omega
theorem matF_len (x : List (List Int)) : (matF x).length = x.length:=by simp [matF]
theorem matF_row {x : List (List Int)} {r : List Int} (h : r ∈ matF x) : ∃ i q,q ∈ x ∧ r = rowM i q:=by
  obtain ⟨i,hi,e⟩:=List.mem_iff_getElem.1 h
  simp only [matF,List.getElem_mapIdx] at e
  exact ⟨i,x[i]'(by simpa [matF] using hi),List.getElem_mem _,e.symm⟩
theorem lead_ok {x : List (List Int)} (h : okX x) {k : Nat} (hk : k ≤ x.length) : okM k (leadP (matF x) k):=by
  obtain ⟨h1,h2,h3⟩:=h
  refine ⟨by simp [leadP,matF_len];omega,fun r hr=>?_⟩
  obtain ⟨q,hq,rfl⟩:=List.mem_map.1 hr
  obtain ⟨i,p,hp,rfl⟩:=matF_row (List.mem_of_mem_take hq)
  obtain ⟨p1,p2⟩:=h3 p hp
  exact ⟨by simp [rowM_len];omega,fun y hy=>rowM_bd p2 y (List.mem_of_mem_take hy)⟩
theorem min_idx (x : List (List Int)) : (matF x).mapIdx (fun i _=>detP (i + 1) (leadP (matF x) (i + 1))) = minP x:=by
  unfold minP
  apply List.ext_getElem
  · simp [matF_len]
  · intro i h1 h2
    simp
theorem minR {x : List (List Int)} (h : okX x) : loop_lines_minors x = some (minP x):=by
  have h1:=h.2.1
  unfold loop_lines_minors
  rw [matR h,Option.bind_some]
  have hml:=matF_len x
  have:=run_fold (step:=loop_lines_minors_l1 (matF x)) (fun k (b : List Int)=>(b,(k : Int))) (fun b=>b) (fun b _=>b ++ [detP (b.length + 1) (leadP (matF x) (b.length + 1))]) (fun k b=>b.length = k) (matF x) (fun k r b hk hI=>by
    have hlt:=(List.getElem?_eq_some_iff.1 hk).1
    refine ⟨?_,by simp only [List.length_append,List.length_singleton];omega⟩
    unfold loop_lines_minors_l1
    simp only
    rw [if_pos (by simp only [decide_eq_true_eq];omega),wsucc (n:=x.length) (by omega) (by omega),leadR (n:=x.length) (fun r hr=>by obtain ⟨i,q,hq,rfl⟩:=matF_row hr;rw [rowM_len];exact (h.2.2 q hq).1) (by omega) hml h1,Option.bind_some]
    have hd:=(det_eq (k + 1) (by omega) _ (lead_ok h (k:=k + 1) (by omega)) (62 - k)).1
    rw [show k + 1 + 1 + (62 - k) = 64 by omega] at hd
    unfold loop_matrix_determinant
    rw [hd,Option.bind_some]
    unfold appI
    rw [if_pos (by simp only [List.length_singleton];omega),Option.bind_some,hI]) (fun b hI=>by
    unfold loop_lines_minors_l1
    simp only
    rw [if_neg (by simp)]) (b0:=[]) rfl
  have t:=this.1
  rw [foldl_idx (fun i _=>detP (i + 1) (leadP (matF x) (i + 1)))] at t
  show ((run (loop_lines_minors_l1 (matF x)) ([],((0 : Nat) : Int))).bind _) = _
  rw [t]
  simp only [List.length_nil,Nat.zero_add,List.nil_append,min_idx]
  rfl
theorem rrow_run {x : List (List Int)} (h : okX x) {n i : Nat} (hn : n ≤ x.length) (hi : i < n) {r : List Int} (hr : x[i]? = some r) : run (ref08_Minors_l3 x (n : Int) (i : Int)) ([],0) = some ((rowM i r).take n):=by
  obtain ⟨h1,h2,h3⟩:=h
  obtain ⟨r1,r2⟩:=h3 r (List.mem_of_getElem? hr)
  have hgr : getI x (i : Int) = some r:=by unfold getI;rw [if_pos (by omega)];exact hr
  have:=run_fold (step:=ref08_Minors_l3 x (n : Int) (i : Int)) (fun k (b : List Int)=>(b,(k : Int))) (fun b=>b) (fun b a=>b ++ [if i = b.length then -a + 1000 else -a]) (fun k b=>b.length = k) (r.take n) (fun k a b hk hI=>by
    have hlt:=(List.getElem?_eq_some_iff.1 hk).1
    have hlt2 : (r.take n).length = n:=by simp;omega
    have hk2 : r[k]? = some a:=by rw [List.getElem?_take] at hk;split at hk;exact hk;cases hk
    have hv:=r2 a (List.mem_of_getElem? hk2)
    refine ⟨?_,by simp only [List.length_append,List.length_singleton];omega⟩
    unfold ref08_Minors_l3
    have hg : getI r (k : Int) = some a:=by unfold getI;rw [if_pos (by omega)];exact hk2
    simp only
    rw [if_pos (by simp only [decide_eq_true_eq];omega),hgr,Option.bind_some,hg,Option.bind_some,wneg (by omega),w64 (x:=-a + 1000) (by omega),hI,wsucc (n:=n) (by omega) (by omega)]
    by_cases hik : i = k
    · rw [if_pos (by simp [hik]),if_pos hik]
      unfold appI
      rw [if_pos (by simp only [List.length_singleton];omega),Option.bind_some]
    · rw [if_neg (by simp only [decide_eq_true_eq];omega),if_neg hik]
      unfold appI
      rw [if_pos (by simp only [List.length_singleton];omega),Option.bind_some]) (fun b hI=>by
    have hlt2 : (r.take n).length = n:=by simp;omega
    unfold ref08_Minors_l3
    simp only
    rw [if_neg (by simp only [decide_eq_true_eq];omega)]) (b0:=[]) rfl
  have t:=this.1
  rw [foldl_idx (fun j a=>if i = j then -a + 1000 else -a)] at t
  rw [show ((0 : Int)) = ((0 : Nat) : Int) from rfl,t]
  congr 1
  apply List.ext_getElem
  · simp [rowM]
  · intro j g1 g2
    simp only [List.nil_append,List.length_nil,Nat.zero_add,List.getElem_mapIdx,List.getElem_take,rowM,List.getElem_set,List.getElem_map]
    by_cases hij : i = j
    · subst hij
      have : i < r.length:=by omega
      simp [this]
    · simp [hij]
theorem rmat_run {x : List (List Int)} (h : okX x) {n : Nat} (hn : n ≤ x.length) : run (ref08_Minors_l2 x (n : Int)) ([],0) = some (leadP (matF x) n):=by
  have h1:=h.2.1
  have hlt2 : (x.take n).length = n:=by simp;omega
  have:=run_fold (step:=ref08_Minors_l2 x (n : Int)) (fun k (b : List (List Int))=>(b,(k : Int))) (fun b=>b) (fun b r=>b ++ [(rowM b.length r).take n]) (fun k b=>b.length = k) (x.take n) (fun k r b hk hI=>by
    have hlt:=(List.getElem?_eq_some_iff.1 hk).1
    have hk2 : x[k]? = some r:=by rw [List.getElem?_take] at hk;split at hk;exact hk;cases hk
    refine ⟨?_,by simp only [List.length_append,List.length_singleton];omega⟩
    unfold ref08_Minors_l2
    simp only
    rw [if_pos (by simp only [decide_eq_true_eq];omega),rrow_run h hn (by omega) hk2,Option.bind_some]
    unfold appI
    rw [if_pos (by simp only [List.length_singleton];omega),Option.bind_some,hI,wsucc (n:=n) (by omega) (by omega)]) (fun b hI=>by
    unfold ref08_Minors_l2
    simp only
    rw [if_neg (by simp only [decide_eq_true_eq];omega)]) (b0:=[]) rfl
  have t:=this.1
  rw [foldl_idx (fun i r=>(rowM i r).take n)] at t
  rw [show ((0 : Int)) = ((0 : Nat) : Int) from rfl,t]
  congr 1
  apply List.ext_getElem
  · simp [leadP,matF_len]
  · intro j g1 g2
    simp [leadP,matF]
theorem rminR {x : List (List Int)} (h : okX x) : ref08_Minors x = some (minP x):=by
  have h1:=h.2.1
  unfold ref08_Minors
  have:=run_fold (step:=ref08_Minors_l1 x) (fun k (b : List Int)=>(b,((k + 1 : Nat) : Int))) (fun b=>b) (fun b _=>b ++ [detP (b.length + 1) (leadP (matF x) (b.length + 1))]) (fun k b=>b.length = k) x (fun k r b hk hI=>by
    have hlt:=(List.getElem?_eq_some_iff.1 hk).1
    refine ⟨?_,by simp only [List.length_append,List.length_singleton];omega⟩
    unfold ref08_Minors_l1
    simp only
    rw [if_pos (by simp only [decide_eq_true_eq];omega),rmat_run h (by omega),Option.bind_some]
    have hd:=(det_eq (k + 1) (by omega) _ (lead_ok h (k:=k + 1) (by omega)) (62 - k)).2.1
    rw [show k + 1 + 1 + (62 - k) = 64 by omega] at hd
    unfold ref08_det
    rw [hd,Option.bind_some]
    unfold appI
    rw [if_pos (by simp only [List.length_singleton];omega),Option.bind_some,hI,wsucc (n:=10) (by omega) (by omega)]) (fun b hI=>by
    unfold ref08_Minors_l1
    simp only
    rw [if_neg (by simp only [decide_eq_true_eq];omega)]) (b0:=[]) rfl
  have t:=this.1
  rw [foldl_idx (fun i _=>detP (i + 1) (leadP (matF x) (i + 1)))] at t
  rw [show ((1 : Int)) = ((0 + 1 : Nat) : Int) from rfl,t]
  simp [minP]
end Go.Rex

open Go Go.Rex
namespace Go.Rex
/-! ### weights that prove that lines fade -/
theorem det1 (a : Int) : detP 1 [[a]] = a:=by simp [detP,restP,cutP]
theorem det2 (a b c d : Int) : detP 2 [[a,b],[c,d]] = a * d - b * c:=by simp [detP,restP,cutP];try grind
theorem det3 (a b c d e f g h i : Int) : detP 3 [[a,b,c],[d,e,f],[g,h,i]] = a * (e * i - f * h) - b * (d * i - f * g) + c * (d * h - e * g):=by
  simp [detP,restP,cutP]
  grind
theorem det4 (a b c d e f g h i j k l m n o p : Int) : detP 4 [[a,b,c,d],[e,f,g,h],[i,j,k,l],[m,n,o,p]] = a * (f * (k * p - l * o) - g * (j * p - l * n) + h * (j * o - k * n)) - b * (e * (k * p - l * o) - g * (i * p - l * m) + h * (i * o - k * m)) + c * (e * (j * p - l * n) - f * (i * p - l * m) + h * (i * n - j * m)) - d * (e * (j * o - k * n) - f * (i * o - k * m) + g * (i * n - j * m)):=by
  simp [detP,restP,cutP]
  grind
theorem lenA1 {α : Type} {l : List α} (h : l.length = 1) : ∃ a,l = [a]:=by
  rcases l with _|⟨a,_|_⟩<;>simp_all
theorem lenA2 {α : Type} {l : List α} (h : l.length = 2) : ∃ a b,l = [a,b]:=by
  rcases l with _|⟨a,_|⟨b,_|_⟩⟩<;>simp_all
theorem lenA3 {α : Type} {l : List α} (h : l.length = 3) : ∃ a b c,l = [a,b,c]:=by
  rcases l with _|⟨a,_|⟨b,_|⟨c,_|_⟩⟩⟩<;>simp_all
theorem lenA4 {α : Type} {l : List α} (h : l.length = 4) : ∃ a b c d,l = [a,b,c,d]:=by
  rcases l with _|⟨a,_|⟨b,_|⟨c,_|⟨d,_|_⟩⟩⟩⟩<;>simp_all
def dotW (r w : List Int) : Int:=(r.zip w).foldl (fun s p=>s + p.1 * p.2) 0
theorem posN1 {x11 w1 : Int} (h11 : 0 ≤ x11) (v1 : 0 < w1) (r1 : x11 * w1 < 1000 * w1) : ∀ y ∈ minP [[x11]],0 < y:=by
  have e : minP [[x11]] = [detP 1 [[-x11 + 1000]]]:=by simp [minP,matF,rowM,leadP]
  have m11:=Int.mul_nonneg h11 (Int.le_of_lt v1)
  have s11 : 0 < (-x11 + 1000) * w1:=by
    have q : (-x11 + 1000) * w1 = 1000 * w1 - (x11 * w1):=by grind
    omega
  have p1:=pos1 v1 s11
  rw [← det1 (-x11 + 1000)] at p1
  rw [e]
  intro y hy
  simp only [List.mem_cons,List.not_mem_nil,or_false] at hy
  subst hy
  exact p1
theorem posN2 {x11 x12 x21 x22 w1 w2 : Int} (h11 : 0 ≤ x11) (h12 : 0 ≤ x12) (h21 : 0 ≤ x21) (h22 : 0 ≤ x22) (v1 : 0 < w1) (v2 : 0 < w2) (r1 : x11 * w1 + x12 * w2 < 1000 * w1) (r2 : x21 * w1 + x22 * w2 < 1000 * w2) : ∀ y ∈ minP [[x11,x12],[x21,x22]],0 < y:=by
  have e : minP [[x11,x12],[x21,x22]] = [detP 1 [[-x11 + 1000]],detP 2 [[-x11 + 1000,-x12],[-x21,-x22 + 1000]]]:=by simp [minP,matF,rowM,leadP]
  have m11:=Int.mul_nonneg h11 (Int.le_of_lt v1)
  have m12:=Int.mul_nonneg h12 (Int.le_of_lt v2)
  have m21:=Int.mul_nonneg h21 (Int.le_of_lt v1)
  have m22:=Int.mul_nonneg h22 (Int.le_of_lt v2)
  have s11 : 0 < (-x11 + 1000) * w1:=by
    have q : (-x11 + 1000) * w1 = 1000 * w1 - (x11 * w1):=by grind
    omega
  have p1:=pos1 v1 s11
  rw [← det1 (-x11 + 1000)] at p1
  have s21 : 0 < (-x11 + 1000) * w1 + (-x12) * w2:=by
    have q : (-x11 + 1000) * w1 + (-x12) * w2 = 1000 * w1 - (x11 * w1 + x12 * w2):=by grind
    omega
  have s22 : 0 < (-x21) * w1 + (-x22 + 1000) * w2:=by
    have q : (-x21) * w1 + (-x22 + 1000) * w2 = 1000 * w2 - (x21 * w1 + x22 * w2):=by grind
    omega
  have p2:=pos2 (by omega) (by omega) v1 v2 s21 s22
  rw [← det2] at p2
  rw [e]
  intro y hy
  simp only [List.mem_cons,List.not_mem_nil,or_false] at hy
  rcases hy with rfl|rfl
  · exact p1
  · exact p2
theorem posN3 {x11 x12 x13 x21 x22 x23 x31 x32 x33 w1 w2 w3 : Int} (h11 : 0 ≤ x11) (h12 : 0 ≤ x12) (h13 : 0 ≤ x13) (h21 : 0 ≤ x21) (h22 : 0 ≤ x22) (h23 : 0 ≤ x23) (h31 : 0 ≤ x31) (h32 : 0 ≤ x32) (h33 : 0 ≤ x33) (v1 : 0 < w1) (v2 : 0 < w2) (v3 : 0 < w3) (r1 : x11 * w1 + x12 * w2 + x13 * w3 < 1000 * w1) (r2 : x21 * w1 + x22 * w2 + x23 * w3 < 1000 * w2) (r3 : x31 * w1 + x32 * w2 + x33 * w3 < 1000 * w3) : ∀ y ∈ minP [[x11,x12,x13],[x21,x22,x23],[x31,x32,x33]],0 < y:=by
  have e : minP [[x11,x12,x13],[x21,x22,x23],[x31,x32,x33]] = [detP 1 [[-x11 + 1000]],detP 2 [[-x11 + 1000,-x12],[-x21,-x22 + 1000]],detP 3 [[-x11 + 1000,-x12,-x13],[-x21,-x22 + 1000,-x23],[-x31,-x32,-x33 + 1000]]]:=by simp [minP,matF,rowM,leadP]
  have m11:=Int.mul_nonneg h11 (Int.le_of_lt v1)
  have m12:=Int.mul_nonneg h12 (Int.le_of_lt v2)
  have m13:=Int.mul_nonneg h13 (Int.le_of_lt v3)
  have m21:=Int.mul_nonneg h21 (Int.le_of_lt v1)
  have m22:=Int.mul_nonneg h22 (Int.le_of_lt v2)
  have m23:=Int.mul_nonneg h23 (Int.le_of_lt v3)
  have m31:=Int.mul_nonneg h31 (Int.le_of_lt v1)
  have m32:=Int.mul_nonneg h32 (Int.le_of_lt v2)
  have m33:=Int.mul_nonneg h33 (Int.le_of_lt v3)
  have s11 : 0 < (-x11 + 1000) * w1:=by
    have q : (-x11 + 1000) * w1 = 1000 * w1 - (x11 * w1):=by grind
    omega
  have p1:=pos1 v1 s11
  rw [← det1 (-x11 + 1000)] at p1
  have s21 : 0 < (-x11 + 1000) * w1 + (-x12) * w2:=by
    have q : (-x11 + 1000) * w1 + (-x12) * w2 = 1000 * w1 - (x11 * w1 + x12 * w2):=by grind
    omega
  have s22 : 0 < (-x21) * w1 + (-x22 + 1000) * w2:=by
    have q : (-x21) * w1 + (-x22 + 1000) * w2 = 1000 * w2 - (x21 * w1 + x22 * w2):=by grind
    omega
  have p2:=pos2 (by omega) (by omega) v1 v2 s21 s22
  rw [← det2] at p2
  have s31 : 0 < (-x11 + 1000) * w1 + (-x12) * w2 + (-x13) * w3:=by
    have q : (-x11 + 1000) * w1 + (-x12) * w2 + (-x13) * w3 = 1000 * w1 - (x11 * w1 + x12 * w2 + x13 * w3):=by grind
    omega
  have s32 : 0 < (-x21) * w1 + (-x22 + 1000) * w2 + (-x23) * w3:=by
    have q : (-x21) * w1 + (-x22 + 1000) * w2 + (-x23) * w3 = 1000 * w2 - (x21 * w1 + x22 * w2 + x23 * w3):=by grind
    omega
  have s33 : 0 < (-x31) * w1 + (-x32) * w2 + (-x33 + 1000) * w3:=by
    have q : (-x31) * w1 + (-x32) * w2 + (-x33 + 1000) * w3 = 1000 * w3 - (x31 * w1 + x32 * w2 + x33 * w3):=by grind
    omega
  have p3:=pos3 (by omega) (by omega) (by omega) (by omega) (by omega) (by omega) v1 v2 v3 s31 s32 s33
  rw [← det3] at p3
  rw [e]
  intro y hy
  simp only [List.mem_cons,List.not_mem_nil,or_false] at hy
  rcases hy with rfl|rfl|rfl
  · exact p1
  · exact p2
  · exact p3
theorem posN4 {x11 x12 x13 x14 x21 x22 x23 x24 x31 x32 x33 x34 x41 x42 x43 x44 w1 w2 w3 w4 : Int} (h11 : 0 ≤ x11) (h12 : 0 ≤ x12) (h13 : 0 ≤ x13) (h14 : 0 ≤ x14) (h21 : 0 ≤ x21) (h22 : 0 ≤ x22) (h23 : 0 ≤ x23) (h24 : 0 ≤ x24) (h31 : 0 ≤ x31) (h32 : 0 ≤ x32) (h33 : 0 ≤ x33) (h34 : 0 ≤ x34) (h41 : 0 ≤ x41) (h42 : 0 ≤ x42) (h43 : 0 ≤ x43) (h44 : 0 ≤ x44) (v1 : 0 < w1) (v2 : 0 < w2) (v3 : 0 < w3) (v4 : 0 < w4) (r1 : x11 * w1 + x12 * w2 + x13 * w3 + x14 * w4 < 1000 * w1) (r2 : x21 * w1 + x22 * w2 + x23 * w3 + x24 * w4 < 1000 * w2) (r3 : x31 * w1 + x32 * w2 + x33 * w3 + x34 * w4 < 1000 * w3) (r4 : x41 * w1 + x42 * w2 + x43 * w3 + x44 * w4 < 1000 * w4) : ∀ y ∈ minP [[x11,x12,x13,x14],[x21,x22,x23,x24],[x31,x32,x33,x34],[x41,x42,x43,x44]],0 < y:=by
  have e : minP [[x11,x12,x13,x14],[x21,x22,x23,x24],[x31,x32,x33,x34],[x41,x42,x43,x44]] = [detP 1 [[-x11 + 1000]],detP 2 [[-x11 + 1000,-x12],[-x21,-x22 + 1000]],detP 3 [[-x11 + 1000,-x12,-x13],[-x21,-x22 + 1000,-x23],[-x31,-x32,-x33 + 1000]],detP 4 [[-x11 + 1000,-x12,-x13,-x14],[-x21,-x22 + 1000,-x23,-x24],[-x31,-x32,-x33 + 1000,-x34],[-x41,-x42,-x43,-x44 + 1000]]]:=by simp [minP,matF,rowM,leadP]
  have m11:=Int.mul_nonneg h11 (Int.le_of_lt v1)
  have m12:=Int.mul_nonneg h12 (Int.le_of_lt v2)
  have m13:=Int.mul_nonneg h13 (Int.le_of_lt v3)
  have m14:=Int.mul_nonneg h14 (Int.le_of_lt v4)
  have m21:=Int.mul_nonneg h21 (Int.le_of_lt v1)
  have m22:=Int.mul_nonneg h22 (Int.le_of_lt v2)
  have m23:=Int.mul_nonneg h23 (Int.le_of_lt v3)
  have m24:=Int.mul_nonneg h24 (Int.le_of_lt v4)
  have m31:=Int.mul_nonneg h31 (Int.le_of_lt v1)
  have m32:=Int.mul_nonneg h32 (Int.le_of_lt v2)
  have m33:=Int.mul_nonneg h33 (Int.le_of_lt v3)
  have m34:=Int.mul_nonneg h34 (Int.le_of_lt v4)
  have m41:=Int.mul_nonneg h41 (Int.le_of_lt v1)
  have m42:=Int.mul_nonneg h42 (Int.le_of_lt v2)
  have m43:=Int.mul_nonneg h43 (Int.le_of_lt v3)
  have m44:=Int.mul_nonneg h44 (Int.le_of_lt v4)
  have s11 : 0 < (-x11 + 1000) * w1:=by
    have q : (-x11 + 1000) * w1 = 1000 * w1 - (x11 * w1):=by grind
    omega
  have p1:=pos1 v1 s11
  rw [← det1 (-x11 + 1000)] at p1
  have s21 : 0 < (-x11 + 1000) * w1 + (-x12) * w2:=by
    have q : (-x11 + 1000) * w1 + (-x12) * w2 = 1000 * w1 - (x11 * w1 + x12 * w2):=by grind
    omega
  have s22 : 0 < (-x21) * w1 + (-x22 + 1000) * w2:=by
    have q : (-x21) * w1 + (-x22 + 1000) * w2 = 1000 * w2 - (x21 * w1 + x22 * w2):=by grind
    omega
  have p2:=pos2 (by omega) (by omega) v1 v2 s21 s22
  rw [← det2] at p2
  have s31 : 0 < (-x11 + 1000) * w1 + (-x12) * w2 + (-x13) * w3:=by
    have q : (-x11 + 1000) * w1 + (-x12) * w2 + (-x13) * w3 = 1000 * w1 - (x11 * w1 + x12 * w2 + x13 * w3):=by grind
    omega
  have s32 : 0 < (-x21) * w1 + (-x22 + 1000) * w2 + (-x23) * w3:=by
    have q : (-x21) * w1 + (-x22 + 1000) * w2 + (-x23) * w3 = 1000 * w2 - (x21 * w1 + x22 * w2 + x23 * w3):=by grind
    omega
  have s33 : 0 < (-x31) * w1 + (-x32) * w2 + (-x33 + 1000) * w3:=by
    have q : (-x31) * w1 + (-x32) * w2 + (-x33 + 1000) * w3 = 1000 * w3 - (x31 * w1 + x32 * w2 + x33 * w3):=by grind
    omega
  have p3:=pos3 (by omega) (by omega) (by omega) (by omega) (by omega) (by omega) v1 v2 v3 s31 s32 s33
  rw [← det3] at p3
  have s41 : 0 < (-x11 + 1000) * w1 + (-x12) * w2 + (-x13) * w3 + (-x14) * w4:=by
    have q : (-x11 + 1000) * w1 + (-x12) * w2 + (-x13) * w3 + (-x14) * w4 = 1000 * w1 - (x11 * w1 + x12 * w2 + x13 * w3 + x14 * w4):=by grind
    omega
  have s42 : 0 < (-x21) * w1 + (-x22 + 1000) * w2 + (-x23) * w3 + (-x24) * w4:=by
    have q : (-x21) * w1 + (-x22 + 1000) * w2 + (-x23) * w3 + (-x24) * w4 = 1000 * w2 - (x21 * w1 + x22 * w2 + x23 * w3 + x24 * w4):=by grind
    omega
  have s43 : 0 < (-x31) * w1 + (-x32) * w2 + (-x33 + 1000) * w3 + (-x34) * w4:=by
    have q : (-x31) * w1 + (-x32) * w2 + (-x33 + 1000) * w3 + (-x34) * w4 = 1000 * w3 - (x31 * w1 + x32 * w2 + x33 * w3 + x34 * w4):=by grind
    omega
  have s44 : 0 < (-x41) * w1 + (-x42) * w2 + (-x43) * w3 + (-x44 + 1000) * w4:=by
    have q : (-x41) * w1 + (-x42) * w2 + (-x43) * w3 + (-x44 + 1000) * w4 = 1000 * w4 - (x41 * w1 + x42 * w2 + x43 * w3 + x44 * w4):=by grind
    omega
  have p4:=pos4 (by omega) (by omega) (by omega) (by omega) (by omega) (by omega) (by omega) (by omega) (by omega) (by omega) (by omega) (by omega) v1 v2 v3 v4 s41 s42 s43 s44
  rw [← det4] at p4
  rw [e]
  intro y hy
  simp only [List.mem_cons,List.not_mem_nil,or_false] at hy
  rcases hy with rfl|rfl|rfl|rfl
  · exact p1
  · exact p2
  · exact p3
  · exact p4
theorem fade_w {x : List (List Int)} {w : List Int} (h : okX x) (hl : w.length = x.length) (hw : ∀ y ∈ w,0 < y) (hd : ∀ p ∈ x.zip w,dotW p.1 w < 1000 * p.2) : ∀ y ∈ minP x,0 < y:=by
  obtain ⟨n1,n2,h3⟩:=h
  rcases (show x.length = 1 ∨ x.length = 2 ∨ x.length = 3 ∨ x.length = 4 by omega) with hn|hn|hn|hn
  · obtain ⟨q1,rfl⟩:=lenA1 hn
    obtain ⟨w1,rfl⟩:=lenA1 (hl.trans hn)
    obtain ⟨l1,b1⟩:=h3 q1 (by simp)
    obtain ⟨x11,rfl⟩:=lenA1 (l1.trans hn)
    simp only [List.mem_cons,List.not_mem_nil,or_false,forall_eq_or_imp,forall_eq,List.zip_cons_cons,List.zip_nil_left,dotW,List.foldl_cons,List.foldl_nil,Int.zero_add] at hw hd b1
    exact posN1 (b1).1 (hw) (hd)
  · obtain ⟨q1,q2,rfl⟩:=lenA2 hn
    obtain ⟨w1,w2,rfl⟩:=lenA2 (hl.trans hn)
    obtain ⟨l1,b1⟩:=h3 q1 (by simp)
    obtain ⟨l2,b2⟩:=h3 q2 (by simp)
    obtain ⟨x11,x12,rfl⟩:=lenA2 (l1.trans hn)
    obtain ⟨x21,x22,rfl⟩:=lenA2 (l2.trans hn)
    simp only [List.mem_cons,List.not_mem_nil,or_false,forall_eq_or_imp,forall_eq,List.zip_cons_cons,List.zip_nil_left,dotW,List.foldl_cons,List.foldl_nil,Int.zero_add] at hw hd b1 b2
    exact posN2 (b1.1).1 (b1.2).1 (b2.1).1 (b2.2).1 (hw.1) (hw.2) (hd.1) (hd.2)
  · obtain ⟨q1,q2,q3,rfl⟩:=lenA3 hn
    obtain ⟨w1,w2,w3,rfl⟩:=lenA3 (hl.trans hn)
    obtain ⟨l1,b1⟩:=h3 q1 (by simp)
    obtain ⟨l2,b2⟩:=h3 q2 (by simp)
    obtain ⟨l3,b3⟩:=h3 q3 (by simp)
    obtain ⟨x11,x12,x13,rfl⟩:=lenA3 (l1.trans hn)
    obtain ⟨x21,x22,x23,rfl⟩:=lenA3 (l2.trans hn)
    obtain ⟨x31,x32,x33,rfl⟩:=lenA3 (l3.trans hn)
    simp only [List.mem_cons,List.not_mem_nil,or_false,forall_eq_or_imp,forall_eq,List.zip_cons_cons,List.zip_nil_left,dotW,List.foldl_cons,List.foldl_nil,Int.zero_add] at hw hd b1 b2 b3
    exact posN3 (b1.1).1 (b1.2.1).1 (b1.2.2).1 (b2.1).1 (b2.2.1).1 (b2.2.2).1 (b3.1).1 (b3.2.1).1 (b3.2.2).1 (hw.1) (hw.2.1) (hw.2.2) (hd.1) (hd.2.1) (hd.2.2)
  · obtain ⟨q1,q2,q3,q4,rfl⟩:=lenA4 hn
    obtain ⟨w1,w2,w3,w4,rfl⟩:=lenA4 (hl.trans hn)
    obtain ⟨l1,b1⟩:=h3 q1 (by simp)
    obtain ⟨l2,b2⟩:=h3 q2 (by simp)
    obtain ⟨l3,b3⟩:=h3 q3 (by simp)
    obtain ⟨l4,b4⟩:=h3 q4 (by simp)
    obtain ⟨x11,x12,x13,x14,rfl⟩:=lenA4 (l1.trans hn)
    obtain ⟨x21,x22,x23,x24,rfl⟩:=lenA4 (l2.trans hn)
    obtain ⟨x31,x32,x33,x34,rfl⟩:=lenA4 (l3.trans hn)
    obtain ⟨x41,x42,x43,x44,rfl⟩:=lenA4 (l4.trans hn)
    simp only [List.mem_cons,List.not_mem_nil,or_false,forall_eq_or_imp,forall_eq,List.zip_cons_cons,List.zip_nil_left,dotW,List.foldl_cons,List.foldl_nil,Int.zero_add] at hw hd b1 b2 b3 b4
    exact posN4 (b1.1).1 (b1.2.1).1 (b1.2.2.1).1 (b1.2.2.2).1 (b2.1).1 (b2.2.1).1 (b2.2.2.1).1 (b2.2.2.2).1 (b3.1).1 (b3.2.1).1 (b3.2.2.1).1 (b3.2.2.2).1 (b4.1).1 (b4.2.1).1 (b4.2.2.1).1 (b4.2.2.2).1 (hw.1) (hw.2.1) (hw.2.2.1) (hw.2.2.2) (hd.1) (hd.2.1) (hd.2.2.1) (hd.2.2.2)
end Go.Rex

open Go Go.Rex
namespace Go.Rex
/-! ### the statement of minors -/
def allPos (l : List Int) : Bool:=l.all fun x=>!decide (x ≤ 0)
theorem foldMin (t : List Int) : ∀ h : Int,decide (t.foldl (fun m x=>if x < m then x else m) h > 0) = (!decide (h ≤ 0) && allPos t):=by
  unfold allPos
  induction t with
  | nil=>intro h;by_cases hh : h ≤ 0<;>simp [hh]<;>omega
  | cons x t ih =>
    intro h
    rw [List.foldl_cons,ih,List.all_cons]
    by_cases h1 : x < h
    · rw [if_pos h1]
      by_cases h2 : x ≤ 0
      · simp [h2]
      · have : ¬ h ≤ 0:=by omega
        simp [h2,this]
    · rw [if_neg h1]
      by_cases h2 : h ≤ 0
      · simp [h2]
      · have : ¬ x ≤ 0:=by omega
        simp [h2,this]
theorem minsR {l : List Int} (h0 : 1 ≤ l.length) (hl : l.length ≤ 4) : ∃ m,slices_Min_int_int l = some m ∧ decide (m > 0) = allPos l:=by
  obtain ⟨x,t,rfl⟩ : ∃ x t,l = x :: t:=by
    cases l with
    | nil=>simp at h0
    | cons x t=>exact ⟨x,t,rfl⟩
  simp only [List.length_cons] at hl
  have:=run_fold (step:=slices_Min_int_int_l1 (x :: t)) (fun k (b : Int)=>(b,((k + 1 : Nat) : Int))) (fun b=>b) (fun m y=>if y < m then y else m) (fun _ _=>True) t (fun k y b hk _=>by
    have hlt:=(List.getElem?_eq_some_iff.1 hk).1
    refine ⟨?_,trivial⟩
    unfold slices_Min_int_int_l1
    have hg : getI (x :: t) ((k + 1 : Nat) : Int) = some y:=by unfold getI;rw [if_pos (by omega),Int.toNat_natCast,List.getElem?_cons_succ];exact hk
    simp only
    rw [if_pos (by simp only [decide_eq_true_eq,List.length_cons];omega),hg,Option.bind_some,wsucc (n:=10) (by omega) (by omega)]) (fun b _=>by
    unfold slices_Min_int_int_l1
    simp only
    rw [if_neg (by simp)]) (b0:=x) trivial
  refine ⟨_,?_,(foldMin t x)⟩
  unfold slices_Min_int_int
  rw [if_neg (by simp only [decide_eq_true_eq,List.length_cons];omega)]
  have hg : getI (x :: t) 0 = some x:=rfl
  rw [hg,Option.bind_some]
  show ((run (slices_Min_int_int_l1 (x :: t)) (x,((0 + 1 : Nat) : Int))).bind _) = _
  rw [this.1]
  rfl
theorem minP_len (x : List (List Int)) : (minP x).length = x.length:=by simp [minP]
theorem fadeR {x : List (List Int)} (h : okX x) : loop_lines_fade x = some (allPos (minP x)):=by
  unfold loop_lines_fade
  obtain ⟨m,m1,m2⟩:=minsR (l:=minP x) (by rw [minP_len];exact h.1) (by rw [minP_len];exact h.2.1)
  rw [minR h,Option.bind_some,m1,Option.bind_some,m2]
theorem rfadeR {x : List (List Int)} (h : okX x) : ref08_Fades x = some (allPos (minP x)):=by
  have h2:=h.2.1
  unfold ref08_Fades
  rw [rminR h,Option.bind_some]
  have hlen:=minP_len x
  refine (bind_first (ε:=Unit ⊕ Unit) (s:=(0 : Int)) (fun k=>(k : Int)) (fun y=>decide (y ≤ 0)) (fun _ _=>.inl ()) (.inr ()) (minP x) (fun e=>match e with|.inl _=>false|.inr _=>true) rfl (fun e=>by cases e<;>rfl) (fun k y hk=>?_) ?_).trans ?_
  · have hlt:=(List.getElem?_eq_some_iff.1 hk).1
    unfold ref08_Fades_l1
    have hg : getI (minP x) (k : Int) = some y:=by unfold getI;rw [if_pos (by omega)];exact hk
    rw [if_pos (by simp only [decide_eq_true_eq];omega),hg,Option.bind_some]
    by_cases hy : y ≤ 0
    · simp [hy]
    · simp [hy]
      exact wsucc (n:=10) (by omega) (by omega)
  · unfold ref08_Fades_l1
    rw [if_neg (by simp)]
  · rw [firstOr_all _ false true]
    unfold allPos
    by_cases hh : ((minP x).all fun x=>!decide (x ≤ 0)) = true
    · simp [hh]
    · simp [hh]
theorem dot_both {r w : List Int} {x : List (List Int)} {i : Nat} (hl : w.length = r.length) (hr : r.length ≤ 4) (h1 : ∀ y ∈ r, 0 ≤ y ∧ y ≤ 2000) (h2 : ∀ y ∈ w, 1 ≤ y ∧ y ≤ 1000000000000) (hx : getI x (i : Int) = some r) :
    loop_products r w = some (dotW r w) ∧ run (ref08_CheckWeights_l3 x w (i : Int)) (0,0) = some (dotW r w) ∧ 0 ≤ dotW r w ∧ dotW r w ≤ 8000000000000000:=by
  have hz : (r.zip w).length = r.length:=by simp [List.length_zip];omega
  have pre : ∀ (k : Nat) (p : Int × Int) (b : Int),(r.zip w)[k]? = some p → (0 ≤ b ∧ b ≤ 2000000000000000 * (k : Int)) → k < r.length ∧ getI r (k : Int) = some p.1 ∧ getI w (k : Int) = some p.2 ∧ IntKind.i64.wrap (b + IntKind.i64.wrap (p.1 * p.2)) = b + p.1 * p.2 ∧ 0 ≤ b + p.1 * p.2 ∧ b + p.1 * p.2 ≤ 2000000000000000 * ((k + 1 : Nat) : Int):=by
    intro k p b hk hI
    have hlt:=(List.getElem?_eq_some_iff.1 hk).1
    have hp:=List.getElem?_zip_eq_some.1 hk
    have m1:=mul_le_nn (h1 p.1 (List.mem_of_getElem? hp.1)) (show 0 ≤ p.2 ∧ p.2 ≤ 1000000000000 by have:=h2 p.2 (List.mem_of_getElem? hp.2);omega)
    refine ⟨by omega,by unfold getI;rw [if_pos (by omega)];exact hp.1,by unfold getI;rw [if_pos (by omega)];exact hp.2,?_,by omega,by omega⟩
    rw [w64 (x:=p.1 * p.2) (by omega),w64 (by omega)]
  have f1:=run_fold (step:=loop_products_l1 r w) (fun k (b : Int)=>(b,(k : Int))) (fun b=>b) (fun s p=>s + p.1 * p.2) (fun k b=>0 ≤ b ∧ b ≤ 2000000000000000 * (k : Int)) (r.zip w) (fun k p b hk hI=>by
    obtain ⟨p1,p2,p3,p4,p5⟩:=pre k p b hk hI
    refine ⟨?_,p5⟩
    unfold loop_products_l1
    simp only
    rw [if_pos (by simp only [decide_eq_true_eq];omega),p2,Option.bind_some,p3,Option.bind_some,p4,wsucc (n:=10) (by omega) (by omega)]) (fun b hI=>by
    unfold loop_products_l1
    simp only
    rw [if_neg (by rw [hz];simp)]) (b0:=0) ⟨by omega,by simp⟩
  have f2:=run_fold (step:=ref08_CheckWeights_l3 x w (i : Int)) (fun k (b : Int)=>(b,(k : Int))) (fun b=>b) (fun s p=>s + p.1 * p.2) (fun k b=>0 ≤ b ∧ b ≤ 2000000000000000 * (k : Int)) (r.zip w) (fun k p b hk hI=>by
    obtain ⟨p1,p2,p3,p4,p5⟩:=pre k p b hk hI
    refine ⟨?_,p5⟩
    unfold ref08_CheckWeights_l3
    simp only
    rw [if_pos (by simp only [decide_eq_true_eq];omega),hx,Option.bind_some,p2,Option.bind_some,p3,Option.bind_some,p4,wsucc (n:=10) (by omega) (by omega)]) (fun b hI=>by
    unfold ref08_CheckWeights_l3
    simp only
    rw [if_neg (by rw [hz,hl];simp)]) (b0:=0) ⟨by omega,by simp⟩
  refine ⟨?_,f2.1,f1.2.1,?_⟩
  · unfold loop_products
    show ((run (loop_products_l1 r w) (0,((0 : Nat) : Int))).bind _) = _
    rw [f1.1]
    rfl
  · have:=f1.2.2
    rw [hz] at this
    show List.foldl _ _ _ ≤ _
    omega
def badW (w : List Int) (p : List Int × Int) : Bool:=decide (dotW p.1 w ≥ 1000 * p.2)
def chkW (x : List (List Int)) (w : List Int) : Int:=if w.length ≠ x.length then 10 else if (w.all fun y=>!badTap 1 1000000000000 y) = true then (if ((x.zip w).all fun p=>!badW w p) = true then 0 else 20) else 2
theorem w_parts {w : List Int} (h : (w.all fun y=>!badTap 1 1000000000000 y) = true) : ∀ y ∈ w,1 ≤ y ∧ y ≤ 1000000000000:=by
  intro y hy
  have:=List.all_eq_true.1 h y hy
  simp only [badTap,Bool.not_eq_true',decide_eq_false_iff_not] at this
  omega
theorem weighR {x : List (List Int)} {w : List Int} (h : okX x) (hw8 : w.length ≤ 8) : loop_lines_weigh_c1_e435 w x = some (chkW x w) ∧ ref08_CheckWeights x w = some (chkW x w):=by
  obtain ⟨n1,n2,h3⟩:=h
  constructor
  · unfold loop_lines_weigh_c1_e435 loop_refuse loop_allWithin loop_each_2037 loop_each_4cef loop_firstError_053c chkW
    simp only [Option.bind_some,refuseR,eachR 1 1000000000000 (show w.length ≤ 1048576 by omega)]
    by_cases hl : w.length = x.length
    · have e1 : ¬ ((w.length : Int) ≠ (x.length : Int)):=by omega
      by_cases ha : (w.all fun y=>!badTap 1 1000000000000 y) = true
      · have hwp:=w_parts ha
        have hz : (x.zip w).length = w.length:=by simp [List.length_zip];omega
        have e3 : loop_each_c1_5172 (w.length : Int) x w = some (if ((x.zip w).all fun p=>!badW w p) = true then 0 else 20):=by
          unfold loop_each_c1_5172
          refine (bind_first (ε:=Int ⊕ Unit) (s:=(0 : Int)) (fun k=>(k : Int)) (badW w) (fun _ _=>.inl 20) (.inr ()) (x.zip w) (fun e=>match e with|.inl v=>v|.inr _=>0) rfl (fun e=>by cases e<;>rfl) (fun k p hk=>?_) ?_).trans (congrArg some (firstOr_all (badW w) (20 : Int) 0 (x.zip w) 0))
          · have hlt:=(List.getElem?_eq_some_iff.1 hk).1
            have hp:=List.getElem?_zip_eq_some.1 hk
            obtain ⟨q1,q2⟩:=h3 p.1 (List.mem_of_getElem? hp.1)
            have hg : getI x (k : Int) = some p.1:=by unfold getI;rw [if_pos (by omega)];exact hp.1
            have hgw : getI w (k : Int) = some p.2:=by unfold getI;rw [if_pos (by omega)];exact hp.2
            obtain ⟨d1,_,d3,d4⟩:=dot_both (r:=p.1) (w:=w) (by omega) (by omega) q2 hwp hg
            have hp2:=hwp p.2 (List.mem_of_getElem? hp.2)
            unfold loop_each_c1_5172_l1 loop_lines_weigh_c1_c1_b422 loop_refuse
            rw [if_pos (by simp only [decide_eq_true_eq];omega)]
            simp only [hg,hgw,d1,Option.bind_some,refuseR]
            rw [w64 (x:=1000 * p.2) (by omega)]
            by_cases hb : dotW p.1 w ≥ 1000 * p.2
            · simp [badW,hb]
            · simp [badW,hb]
              exact wsucc (n:=10) (by omega) (by omega)
          · unfold loop_each_c1_5172_l1
            rw [if_neg (by rw [hz];simp)]
        simp only [hl,ha,e1,if_true,e3,Option.bind_some]
        rw [← hl]
        simp only [e3,Option.bind_some]
        by_cases hb : ((x.zip w).all fun p=>!badW w p) = true
        · simp [hb]
        · simp [hb]
      · simp [hl,ha]
    · have e1 : ((w.length : Int) ≠ (x.length : Int)):=by omega
      simp [hl,e1]
  · unfold ref08_CheckWeights chkW
    by_cases hl : w.length = x.length
    · rw [if_neg (by simp only [decide_eq_true_eq];omega),if_neg (by simpa using hl)]
      have f1 : run (ref08_CheckWeights_l1 w) 0 = some (if (w.all fun y=>!badTap 1 1000000000000 y) = true then .inr () else .inl ()):=by
        have:=run_first (ε:=Unit ⊕ Unit) (step:=ref08_CheckWeights_l1 w) (s:=(0 : Int)) (fun k=>(k : Int)) (badTap 1 1000000000000) (fun _ _=>.inl ()) (.inr ()) w (fun k y hk=>by
          have hlt:=(List.getElem?_eq_some_iff.1 hk).1
          unfold ref08_CheckWeights_l1
          have hg : getI w (k : Int) = some y:=by unfold getI;rw [if_pos (by omega)];exact hk
          rw [if_pos (by simp only [decide_eq_true_eq];omega),hg,Option.bind_some,within_eq,Option.bind_some]
          by_cases hbad : y < 1 ∨ y > 1000000000000
          · have : ¬ (1 ≤ y ∧ y ≤ 1000000000000):=by omega
            simp [hbad,badTap,this]
          · have : 1 ≤ y ∧ y ≤ 1000000000000:=by omega
            simp [hbad,badTap,this]
            exact wsucc (n:=w.length) (by omega) (by omega)) (by
          unfold ref08_CheckWeights_l1
          rw [if_neg (by simp)]) rfl
        rw [this,firstOr_all]
      rw [f1,Option.bind_some]
      by_cases ha : (w.all fun y=>!badTap 1 1000000000000 y) = true
      · have hwp:=w_parts ha
        have hz : (x.zip w).length = w.length:=by simp [List.length_zip];omega
        rw [if_pos ha,if_pos ha]
        refine (bind_first (ε:=Unit ⊕ Unit) (s:=(0 : Int)) (fun k=>(k : Int)) (badW w) (fun _ _=>.inl ()) (.inr ()) (x.zip w) (fun e=>match e with|.inl _=>20|.inr _=>0) rfl (fun e=>by cases e<;>rfl) (fun k p hk=>?_) ?_).trans (congrArg some (firstOr_all (badW w) (20 : Int) 0 (x.zip w) 0))
        · have hlt:=(List.getElem?_eq_some_iff.1 hk).1
          have hp:=List.getElem?_zip_eq_some.1 hk
          obtain ⟨q1,q2⟩:=h3 p.1 (List.mem_of_getElem? hp.1)
          have hg : getI x (k : Int) = some p.1:=by unfold getI;rw [if_pos (by omega)];exact hp.1
          have hgw : getI w (k : Int) = some p.2:=by unfold getI;rw [if_pos (by omega)];exact hp.2
          obtain ⟨_,d2,d3,d4⟩:=dot_both (r:=p.1) (w:=w) (by omega) (by omega) q2 hwp hg
          have hp2:=hwp p.2 (List.mem_of_getElem? hp.2)
          unfold ref08_CheckWeights_l2
          rw [if_pos (by simp only [decide_eq_true_eq];omega),d2,Option.bind_some,hgw,Option.bind_some,w64 (x:=1000 * p.2) (by omega)]
          by_cases hb : dotW p.1 w ≥ 1000 * p.2
          · simp [badW,hb]
          · simp [badW,hb]
            exact wsucc (n:=10) (by omega) (by omega)
        · unfold ref08_CheckWeights_l2
          rw [if_neg (by rw [hz];simp)]
      · rw [if_neg ha,if_neg ha]
    · rw [if_pos (by simp only [decide_eq_true_eq];omega),if_pos (by simpa using hl)]
theorem weigh_fade {x : List (List Int)} {w : List Int} (h : okX x) (hc : chkW x w = 0) : allPos (minP x) = true:=by
  unfold chkW at hc
  split at hc
  · cases hc
  · rename_i hl
    split at hc
    · rename_i ha
      split at hc
      · rename_i hb
        have hf:=fade_w h (by simpa using hl) (fun y hy=>by have:=w_parts ha y hy;omega) (fun p hp=>by
          have:=List.all_eq_true.1 hb p hp
          simp only [badW,Bool.not_eq_true',decide_eq_false_iff_not] at this
          omega)
        unfold allPos
        rw [List.all_eq_true]
        intro y hy
        have:=hf y hy
        simp only [Bool.not_eq_true',decide_eq_false_iff_not]
        omega
      · cases hc
    · cases hc
theorem minors_true (x : List (List Int)) (w : List Int) : law08_LoopMinors x w = some true:=by
  unfold law08_LoopMinors
  obtain ⟨b,b1,b2⟩:=small_eq x
  rw [b1,Option.bind_some]
  by_cases hb : b = true
  · obtain ⟨h1,h2⟩:=b2 hb
    rw [if_pos hb]
    by_cases hw : w.length > 8
    · rw [if_pos (by simp only [decide_eq_true_eq];omega)]
    · rw [if_neg (by simp only [decide_eq_true_eq];omega)]
      unfold loop_Minors loop_Fades loop_CheckWeights loop_CheckLines loop_lines_weigh loop_firstError_2803
      simp only [copyLinesR h1 h2,copyI (show w.length ≤ 1048576 by omega),chkXR h1 h2,rchkXR h1 h2,Option.bind_some]
      by_cases hc : chkX x = 0
      · have ok : okX x:=chkX_parts hc
        obtain ⟨k1,k2⟩:=weighR ok (show w.length ≤ 8 by omega)
        have hm:=ints_refl (l:=minP x) (by rw [minP_len];omega)
        simp only [hc,minR ok,rminR ok,fadeR ok,rfadeR ok,k1,k2,hm,Option.bind_some]
        by_cases hk : chkW x w = 0
        · have:=weigh_fade ok hk
          simp [hk,this,hm]
        · simp [hk,hm]
      · simp [hc]
  · rw [if_neg hb]
end Go.Rex

namespace Go.Rex
open Go Go.ChangeShapes Go.WideShapes Go.ChangeAt Go.RowKit Go.Joins Go.Proofs
/-! ### arguments: what they are as trees,and the names of their blocks -/
structure Arg (W : World) (v' : Value) (p : TV) (bs : List Blk) (is : List Info) (av : Nat → Value) : Prop where
  vr : ∀ (D : Nat → Prop) (m : NMap) n,(∀ j,j < bs.length → D (n + j)) → (∀ (j : Nat) i,is[j]? = some i → m (n + j) = i) → VR D m (av n) v'
  vl : ∀ (Fz : Nat → Prop) (h : List Blk) n,(∀ j,j < bs.length → Fz (n + j)) → (∀ (j : Nat) b,bs[j]? = some b → h[n + j]? = some b) → VL Fz h noL p (av n)
  ok : ∀ (D : Nat → Prop) (m : NMap) n,(∀ j,j < bs.length → D (n + j)) → (∀ (j : Nat) i,is[j]? = some i → m (n + j) = i) → ∀ (j : Nat) b,bs[j]? = some b → BlkOk D m W (n + j) b
  lt : ∀ (j : Nat) b i,bs[j]? = some b → is[j]? = some i → b ≠ .dead → i.block < W.heap.size
  len : is.length = bs.length
structure Args (W : World) (vs' : List Value) (ps : List TV) (bs : List Blk) (is : List Info) (av : Nat → List Value) : Prop where
  vr : ∀ (D : Nat → Prop) (m : NMap) n,(∀ j,j < bs.length → D (n + j)) → (∀ (j : Nat) i,is[j]? = some i → m (n + j) = i) → VRs D m (av n) vs'
  vl : ∀ (Fz : Nat → Prop) (h : List Blk) n,(∀ j,j < bs.length → Fz (n + j)) → (∀ (j : Nat) b,bs[j]? = some b → h[n + j]? = some b) → VLs Fz h noL ps (av n)
  ok : ∀ (D : Nat → Prop) (m : NMap) n,(∀ j,j < bs.length → D (n + j)) → (∀ (j : Nat) i,is[j]? = some i → m (n + j) = i) → ∀ (j : Nat) b,bs[j]? = some b → BlkOk D m W (n + j) b
  lt : ∀ (j : Nat) b i,bs[j]? = some b → is[j]? = some i → b ≠ .dead → i.block < W.heap.size
  len : is.length = bs.length
theorem Args.nil (W : World) : Args W [] [] [] [] (fun _=>[]) :=
  ⟨fun _ _ _ _ _=>⟨rfl,fun i a a' h=>by simp at h⟩,fun _ _ _ _ _=>.nil,fun _ _ _ _ _ j b h=>by simp at h,fun j b i h=>by simp at h,rfl⟩
theorem Args.cons {W : World} {v' : Value} {p : TV} {bs bs2 : List Blk} {is is2 : List Info} {av : Nat → Value} {vs' : List Value} {ps : List TV} {avs : Nat → List Value}
    (a : Arg W v' p bs is av) (as : Args W vs' ps bs2 is2 avs) : Args W (v' :: vs') (p :: ps) (bs ++ bs2) (is ++ is2) (fun n=>av n :: avs (n + bs.length)):=by
  have cD : ∀ (D : Nat → Prop) n,(∀ j,j < (bs ++ bs2).length → D (n + j)) → (∀ j,j < bs.length → D (n + j)) ∧ (∀ j,j < bs2.length → D (n + bs.length + j)):=by
    intro D n h
    refine ⟨fun j hj=>h j (by simp;omega),fun j hj=>?_⟩
    have:=h (bs.length + j) (by simp;omega)
    rwa [← Nat.add_assoc] at this
  have cI : ∀ (m : NMap) n,(∀ (j : Nat) i,(is ++ is2)[j]? = some i → m (n + j) = i) → (∀ (j : Nat) i,is[j]? = some i → m (n + j) = i) ∧ (∀ (j : Nat) i,is2[j]? = some i → m (n + bs.length + j) = i):=by
    intro m n h
    refine ⟨fun j i hj=>h j i (by rw [List.getElem?_append_left (List.getElem?_eq_some_iff.1 hj).1];exact hj),fun j i hj=>?_⟩
    have:=h (bs.length + j) i (by rw [List.getElem?_append_right (by rw [a.len];omega),a.len,Nat.add_sub_cancel_left];exact hj)
    rwa [← Nat.add_assoc] at this
  refine ⟨fun D m n hD hm=>?_,fun Fz h n hF hh=>?_,fun D m n hD hm j b hb=>?_,fun j b i hb hi hd=>?_,by simp [a.len,as.len]⟩
  · have h1:=a.vr D m n (cD D n hD).1 (cI m n hm).1
    have h2:=as.vr D m (n + bs.length) (cD D n hD).2 (cI m n hm).2
    refine ⟨by simp [h2.len],fun i x x' hx hx'=>?_⟩
    cases i with
    | zero=>simp at hx hx';subst hx hx';exact h1
    | succ i=>simp at hx hx';exact h2.at' i x x' hx hx'
  · refine .cons (a.vl Fz h n (cD Fz n hF).1 fun j b hb=>hh j b (by rw [List.getElem?_append_left (List.getElem?_eq_some_iff.1 hb).1];exact hb)) (as.vl Fz h (n + bs.length) (cD Fz n hF).2 fun j b hb=>?_)
    have:=hh (bs.length + j) b (by rw [List.getElem?_append_right (by omega),Nat.add_sub_cancel_left];exact hb)
    rwa [← Nat.add_assoc] at this
  · rcases Nat.lt_or_ge j bs.length with hj|hj
    · rw [List.getElem?_append_left hj] at hb
      exact a.ok D m n (cD D n hD).1 (cI m n hm).1 j b hb
    · rw [List.getElem?_append_right hj] at hb
      have:=as.ok D m (n + bs.length) (cD D n hD).2 (cI m n hm).2 _ b hb
      rwa [show n + bs.length + (j - bs.length) = n + j by omega] at this
  · rcases Nat.lt_or_ge j bs.length with hj|hj
    · rw [List.getElem?_append_left hj] at hb
      rw [List.getElem?_append_left (by rw [a.len];exact hj)] at hi
      exact a.lt j b i hb hi hd
    · rw [List.getElem?_append_right hj] at hb
      rw [List.getElem?_append_right (by rw [a.len];exact hj),a.len] at hi
      exact as.lt _ b i hb hi hd
/-- the names of the arguments -/
def nm (is : List Info) : NMap:=fun n=>is.getD n ⟨0,0,0,0⟩
theorem nm_at {is : List Info} {j : Nat} {i : Info} (h : is[j]? = some i) : nm is (0 + j) = i:=by
  unfold nm
  rw [Nat.zero_add,List.getD_eq_getElem?_getD,h]
  rfl
section
variable {W : World} {vs' : List Value} {ps : List TV} {bs : List Blk} {is : List Info} {av : Nat → List Value}
theorem Args.rel (a : Args W vs' ps bs is av) : Rel W.heap.size bs.length (fun k=>k < bs.length) (nm is) bs W:=by
  refine ⟨Nat.le_refl _,fun _ h=>h,fun n b hn hb=>?_,fun n b hn hb hd=>?_,fun n b hD hl=>absurd hD (by omega),fun n b hn _ hb hd=>?_,fun n b hD hl=>absurd hD (by omega),fun n n' b b' hD _ hl=>absurd hD (by omega)⟩
  · have:=a.ok (fun k=>k < bs.length) (nm is) 0 (fun j hj=>by omega) (fun j i hi=>nm_at hi) n b hb
    rwa [Nat.zero_add] at this
  all_goals
    have hi : n < is.length:=by rw [a.len];exact hn
    have e:=nm_at (List.getElem?_eq_getElem hi)
    rw [Nat.zero_add] at e
    rw [e]
    exact a.lt n b _ hb (List.getElem?_eq_getElem hi) hd
theorem Args.vls (a : Args W vs' ps bs is av) : VLs (fun k=>k < bs.length) bs noL ps (av 0):=a.vl _ _ 0 (fun j hj=>by omega) (fun j b hb=>by rw [Nat.zero_add];exact hb)
theorem Args.vrs (a : Args W vs' ps bs is av) : VRs (fun k=>k < bs.length) (nm is) (av 0) vs':=a.vr _ _ 0 (fun j hj=>by omega) (fun j i hi=>nm_at hi)
end
theorem len1 {α : Type} {l : List α} (h : l.length = 1) : ∃ x0,l = [x0]:=by
  match l,h with
  | [x0],_=>exact ⟨_,rfl⟩
/-! ### arguments without names -/
def AtomV (c : Value) : Prop:=isAtom c = true ∧ ∀ D m,VR D m c c
theorem atomV_int (k : IntKind) (n : Int) : AtomV (.int k n):=⟨rfl,fun _ _=>.int _ _⟩
theorem Arg.atom {W : World} {v : Value} (h : AtomV v) : Arg W v (.v v) [] [] (fun _=>v) :=
  ⟨fun _ _ _ _ _=>h.2 _ _,fun _ _ _ _ _=>.v _ _ h.1,fun _ _ _ _ _ j b h=>by simp at h,fun j b i h=>by simp at h,rfl⟩
theorem Arg.agg {W : World} {l : List Value} (h : ∀ c ∈ l,AtomV c) : Arg W (.agg ⟨l⟩) (.agg (l.map .v)) [] [] (fun _=>.agg ⟨l⟩):=by
  refine ⟨fun _ _ _ _ _=>.agg _ _ rfl fun i v v' hv hv'=>?_,fun _ _ _ _ _=>.agg _ _ _ (by simp) fun i p x hp hx=>?_,fun _ _ _ _ _ j b h=>by simp at h,fun j b i h=>by simp at h,rfl⟩
  · obtain rfl : v = v':=Option.some.inj (hv.symm.trans hv')
    exact (h v (List.mem_of_getElem? hv)).2 _ _
  · rw [List.getElem?_map,hx] at hp
    obtain rfl:=Option.some.inj hp
    exact .v _ _ (h x (List.mem_of_getElem? hx)).1
/-! ### a slice of rows -/
theorem flatMap_at {α β : Type} {g : α → List β} {es : Nat} (hg : ∀ x,(g x).length = es) (he : 0 < es) : ∀ (xs : List α) i,(xs.flatMap g)[i]? = (xs[i / es]?).bind fun x=>(g x)[i % es]?
  | [],i=>by simp
  | x :: t,i=>by
    rw [List.flatMap_cons]
    rcases Nat.lt_or_ge i es with h|h
    · rw [List.getElem?_append_left (by rw [hg];exact h),Nat.div_eq_of_lt h,Nat.mod_eq_of_lt h]
      rfl
    · rw [List.getElem?_append_right (by rw [hg];exact h),hg,flatMap_at hg he t (i - es)]
      have e1 : i / es = (i - es) / es + 1:=by rw [Nat.div_eq_sub_div he h]
      have e2 : i % es = (i - es) % es:=Nat.mod_eq_sub_mod h
      rw [e1,e2]
      rfl
theorem flatMap_len {α β : Type} {g : α → List β} {es : Nat} (hg : ∀ x,(g x).length = es) : ∀ (xs : List α),(xs.flatMap g).length = xs.length * es
  | []=>by simp
  | x :: t=>by rw [List.flatMap_cons,List.length_append,hg,flatMap_len hg t,List.length_cons,Nat.add_mul];omega
theorem flatMap_map {α : Type} {f : α → List TV} {g : α → List Value} (hf : ∀ x,f x = (g x).map .v) : ∀ (xs : List α),(xs.map f).flatten = (xs.flatMap g).map .v
  | []=>rfl
  | x :: t=>by rw [List.map_cons,List.flatten_cons,flatMap_map hf t,List.flatMap_cons,List.map_append,hf]
theorem choose_list {α : Type} {Q : Nat → α → Prop} : ∀ n,(∀ i,i < n → ∃ x,Q i x) → ∃ xs : List α,xs.length = n ∧ ∀ (i : Nat) x,xs[i]? = some x → Q i x
  | 0,_=>⟨[],rfl,fun i x h=>by simp at h⟩
  | n + 1,h=>by
    obtain ⟨xs,hl,hq⟩:=choose_list n (fun i hi=>h i (by omega))
    obtain ⟨x,hx⟩:=h n (by omega)
    refine ⟨xs ++ [x],by simp [hl],fun i y hy=>?_⟩
    rcases Nat.lt_or_ge i n with hi|hi
    · rw [List.getElem?_append_left (by omega)] at hy
      exact hq i y hy
    · rw [List.getElem?_append_right (by omega),hl] at hy
      have : i = n:=by
        rcases Nat.lt_or_ge 0 (i - n) with g|g
        · rw [List.getElem?_eq_none (by simp;omega)] at hy;cases hy
        · omega
      subst this
      simp at hy
      subst hy
      exact hx
section
variable {H : Type} {enc : TypeId × Value → H} {W : World} {base : Nat} {spare : Nat → Bool} {held : Bool}
theorem open_rowsC {α : Type} {f : α → List TV} {g : α → List Value} {es : Nat} (he : 0 < es) (hf : ∀ x, f x = (g x).map .v) (hg : ∀ x, (g x).length = es) (hat : ∀ x, ∀ c ∈ g x, AtomV c)
    {P : Program} {t te : TypeId} (ht : P.underlying t = some (.slice te)) (hC : P.cellsOf te = es) {r : Reach} {b0 : Nat} {v' : Value} (hval : Cell.okWide P W r b0 t v')
    (elem : ∀ n cs y,DataW.trod enc P W base spare held n te cs = some y → cs.length = es → ∃ x : α,cs = g x)
    {fuel : Nat} {x : DataW H × List MemPlace} (h : DataW.trod enc P W base spare held fuel t [v'] = some x) : ∃ (xs : List α) (bs : List Blk) (is : List Info) (av : Nat → Value),Arg W v' (.list es (xs.map f)) bs is av:=by
  rcases DataW.trod_slice ht h with ⟨hv,_⟩|⟨a,len,cap,elems,rest,n,_,hv,_,hb,hlc,hcm,hel,hel2,_,_⟩
  · obtain rfl : v' = .slice none 0 0:=by simpa using hv
    exact ⟨[],[],[],fun _=>.slice none 0 0,fun _ _ _ _ _=>.nilSlice 0 0,fun _ _ _ _ _=>.nillist _ _,fun _ _ _ _ _ j b h=>by simp at h,fun j b i h=>by simp at h,rfl⟩
  · obtain rfl : v' = .slice (some a) len cap:=by simpa using hv
    have hok : len ≤ cap ∧ (cap : Int) ≤ IntKind.i64.max ∧ W.has P r b0 a te cap:=by
      unfold Cell.okWide at hval
      simp only [ht] at hval
      unfold Cell.ok at hval
      simpa only [ht] using hval
    obtain ⟨gb,o,s⟩:=a
    obtain ⟨_,_,_,hs,row,cells,hsh,_⟩:=hok
    simp only at hs hsh
    subst hs
    have hgb : gb < W.heap.size:=by
      unfold World.shape? at hsh
      rcases Nat.lt_or_ge gb W.heap.size with hg|hg
      · exact hg
      · rw [Array.getElem?_eq_none hg] at hsh
        simp at hsh
    have key : ∀ i,i < len → ∃ x : α,∀ j,j < es → W.cell? ⟨gb,o + i * es + j,none⟩ = (g x)[j]?:=fun i hi=>by
      have h1:=hel2 i hi
      rw [List.getElem?_eq_getElem (by omega),Option.bind_eq_some_iff] at h1
      obtain ⟨cs,hcs,htr⟩:=h1
      rw [hC] at hcs
      unfold World.cells? at hcs
      split at hcs
      · have hlen:=mapM_some_length hcs
        simp at hlen
        obtain ⟨x,rfl⟩:=elem n cs _ htr hlen
        refine ⟨x,fun j hj=>?_⟩
        have:=mapM_some_get hcs j j (by simp [hj])
        have e : ((⟨gb,o,none⟩ : Addr).add (i * es)).add j = ⟨gb,o + i * es + j,none⟩:=by
          unfold Addr.add
          split<;>split<;>simp_all
        rw [← e]
        exact this
      · cases hcs
    obtain ⟨xs,hl,hq⟩:=choose_list len key
    subst hl
    have hlen:=flatMap_len hg xs
    have hfl:=flatMap_map hf xs
    refine ⟨xs,[.cells es (xs.flatMap g)],[⟨gb,o,cap * es,es⟩],fun n=>.slice (some ⟨n,0,none⟩) xs.length xs.length,fun D m n hD hm=>?_,fun Fz h n hF hh=>?_,fun D m n hD hm j b hb=>?_,fun j b i hb hi hd=>?_,rfl⟩
    · have e:=hm 0 _ rfl
      rw [Nat.add_zero] at e
      have:=VR.slice (D:=D) (m:=m) n 0 xs.length xs.length cap (hD 0 (by simp)) (Nat.le_refl _) hlc (.inr (by rw [e];simp))
      rw [e] at this
      exact this
    · have hw : ∀ r ∈ xs.map f,r.length = es:=fun r hr=>by obtain ⟨x,_,rfl⟩:=List.mem_map.1 hr;rw [hf,List.length_map,hg]
      have:=VL.list (Fz:=Fz) (h:=h) noL es (xs.map f) n 0 xs.length (xs.flatMap g) es (hF 0 (by simp)) (hh 0 _ rfl) (.inl rfl) hw (by simp) (by rw [List.length_map,hlen];omega) (fun j p x hp hx=>by
        rw [hfl,List.getElem?_map,Option.map_eq_some_iff] at hp
        rw [Nat.zero_add] at hx
        obtain ⟨y,h1,rfl⟩:=hp
        obtain rfl : y = x:=Option.some.inj (h1.symm.trans hx)
        obtain ⟨z,_,hz⟩:=List.mem_flatMap.1 (List.mem_of_getElem? hx)
        exact .v _ _ (hat z y hz).1)
      rw [List.length_map] at this
      exact this
    · match j,hb with
      | 0,hb =>
        obtain rfl:=Option.some.inj hb
        have e:=hm 0 _ rfl
        rw [Nat.add_zero] at e ⊢
        refine ⟨by rw [e],fun i v hv=>⟨v,?_,?_⟩⟩
        · rw [flatMap_at hg he,Option.bind_eq_some_iff] at hv
          obtain ⟨x,hx,hv⟩:=hv
          rw [e]
          have:=hq _ x hx (i % es) (Nat.mod_lt _ he)
          rw [Nat.add_assoc,Nat.mul_comm,Nat.div_add_mod] at this
          rw [this]
          exact hv
        · obtain ⟨z,_,hz⟩:=List.mem_flatMap.1 (List.mem_of_getElem? hv)
          exact (hat z v hz).2 _ _
      | j + 1,hb=>simp at hb
    · match j,hb,hi with
      | 0, hb, hi => obtain rfl := Option.some.inj hi
                     exact hgb
      | j + 1,hb,hi=>simp at hb
theorem open_rows {α : Type} {f : α → List TV} {g : α → List Value} {es : Nat} (he : 0 < es) (hf : ∀ x, f x = (g x).map .v) (hg : ∀ x, (g x).length = es) (hat : ∀ x, ∀ c ∈ g x, AtomV c)
    {P : Program} {t te : TypeId} (ht : P.underlying t = some (.slice te)) (hC : P.cellsOf te = es) {r : Reach} {b0 : Nat} {v' : Value} (hval : Value.okWide P W r b0 t v')
    (elem : ∀ n cs y,DataW.trod enc P W base spare held n te cs = some y → cs.length = es → ∃ x : α,cs = g x)
    {fuel : Nat} {x : DataW H × List MemPlace} (h : DataW.trod enc P W base spare held fuel t [v'] = some x) : ∃ (xs : List α) (bs : List Blk) (is : List Info) (av : Nat → Value),Arg W v' (.list es (xs.map f)) bs is av:=by
  refine open_rowsC he hf hg hat ht hC (r:=r) (b0:=b0) ?_ elem h
  unfold Value.okWide at hval
  simpa only [ht] using hval
/-! ### aggregates of ints -/
def AI (cs : List Value) : Prop:=∀ c ∈ cs,∃ n : Int,c = .int .i64 n
theorem AI.list {cs : List Value} (h : AI cs) : ∃ l : List Int,cs = l.map (.int .i64):=by
  induction cs with
  | nil=>exact ⟨[],rfl⟩
  | cons c t ih =>
    obtain ⟨n,rfl⟩:=h c (by simp)
    obtain ⟨l,rfl⟩:=ih fun c hc=>h c (by simp [hc])
    exact ⟨n :: l,rfl⟩
variable {P : Program}
theorem ai_int {te : TypeId} (ht : P.underlying te = some (.int .i64)) {fuel : Nat} {cs : List Value} {x : DataW H × List MemPlace} (h : DataW.trod enc P W base spare held fuel te cs = some x) : AI cs:=by
  obtain ⟨n,rfl,_⟩:=DataW.trod_int ht h
  exact fun c hc=>⟨n,by simpa using hc⟩
theorem Arg.ofArgs {cs : List Value} {ps : List TV} {bs : List Blk} {is : List Info} {av : Nat → List Value} (a : Args W cs ps bs is av) : Arg W (.agg ⟨cs⟩) (.agg ps) bs is (fun n=>.agg ⟨av n⟩) :=
  ⟨fun D m n hD hm=>.agg' (a.vr D m n hD hm),fun Fz h n hF hh=>.agg' (a.vl Fz h n hF hh),a.ok,a.lt,a.len⟩
theorem open_cells {t : TypeId} {fs : Array Field} {ts : List TypeId} (ht : P.underlying t = some (.struct fs)) (hct : P.cellTypes P.depth t = some ts) (hn : P.cellsOf t = ts.length) {r : Reach} {b : Nat} {v : Value} (w : Value.okWide P W r b t v) :
    ∃ cs : List Value,v = .agg ⟨cs⟩ ∧ cs.length = ts.length ∧ ∀ (j : Nat) c u,cs[j]? = some c → ts[j]? = some u → Cell.okWide P W r b u c:=by
  unfold Value.okWide at w
  simp only [ht] at w
  obtain ⟨cs,rfl,hs,ts',hts,_,hc⟩:=w
  rw [hct] at hts
  obtain rfl:=Option.some.inj hts
  obtain ⟨l⟩:=cs
  have hl : l.length = ts.length:=by simpa [hn] using hs
  refine ⟨l,rfl,hl,fun j c u hj hu=>?_⟩
  obtain ⟨u',hu',hok⟩:=hc j c (by simpa using hj)
  rw [Nat.mod_eq_of_lt (by have:=(List.getElem?_eq_some_iff.1 hj).1;omega)] at hu'
  obtain rfl:=Option.some.inj (hu.symm.trans hu')
  exact hok
theorem st_field {t : TypeId} {fs : Array Field} {i : Nat} {f : Field} (ht : P.underlying t = some (.struct fs)) (hf : fs[i]? = some f) {fuel : Nat} {cs : List Value} {x : DataW H × List MemPlace} (h : DataW.trod enc P W base spare held fuel t cs = some x) :
    ∃ n y,DataW.trod enc P W base spare held n f.type ((cs.drop f.offset).take (P.cellsOf f.type)) = some y:=by
  obtain ⟨xs,n,_,_,hl,hx,hi⟩:=DataW.trod_struct ht h
  have:=hi i f hf
  have hil : i < fs.size:=(Array.getElem?_eq_some_iff.1 hf).1
  rw [List.getElem?_eq_getElem (by omega)] at this
  exact ⟨n,_,this⟩
end
end Go.Rex

namespace Go.Rex
open Go Go.ChangeShapes Go.WideShapes Go.ChangeAt Go.RowKit Go.Joins Go.Proofs
/-! ### arguments whose blocks name one another: lists of lists -/
structure NArg (W : World) (v' : Value) (p : TV) (bs : Nat → List Blk) (is : List Info) (av : Nat → Value) : Prop where
  vr : ∀ (D : Nat → Prop) (m : NMap) n,(∀ j,j < is.length → D (n + j)) → (∀ (j : Nat) i,is[j]? = some i → m (n + j) = i) → VR D m (av n) v'
  vl : ∀ (Fz : Nat → Prop) (h : List Blk) n,(∀ j,j < is.length → Fz (n + j)) → (∀ (j : Nat) b,(bs n)[j]? = some b → h[n + j]? = some b) → VL Fz h noL p (av n)
  ok : ∀ (D : Nat → Prop) (m : NMap) n,(∀ j,j < is.length → D (n + j)) → (∀ (j : Nat) i,is[j]? = some i → m (n + j) = i) → ∀ (j : Nat) b,(bs n)[j]? = some b → BlkOk D m W (n + j) b
  lt : ∀ n (j : Nat) b i,(bs n)[j]? = some b → is[j]? = some i → b ≠ .dead → i.block < W.heap.size
  len : ∀ n,(bs n).length = is.length
structure NArgs (W : World) (vs' : List Value) (ps : List TV) (bs : Nat → List Blk) (is : List Info) (av : Nat → List Value) : Prop where
  vr : ∀ (D : Nat → Prop) (m : NMap) n,(∀ j,j < is.length → D (n + j)) → (∀ (j : Nat) i,is[j]? = some i → m (n + j) = i) → VRs D m (av n) vs'
  vl : ∀ (Fz : Nat → Prop) (h : List Blk) n,(∀ j,j < is.length → Fz (n + j)) → (∀ (j : Nat) b,(bs n)[j]? = some b → h[n + j]? = some b) → VLs Fz h noL ps (av n)
  ok : ∀ (D : Nat → Prop) (m : NMap) n,(∀ j,j < is.length → D (n + j)) → (∀ (j : Nat) i,is[j]? = some i → m (n + j) = i) → ∀ (j : Nat) b,(bs n)[j]? = some b → BlkOk D m W (n + j) b
  lt : ∀ n (j : Nat) b i,(bs n)[j]? = some b → is[j]? = some i → b ≠ .dead → i.block < W.heap.size
  len : ∀ n,(bs n).length = is.length
theorem Arg.n {W : World} {v' : Value} {p : TV} {bs : List Blk} {is : List Info} {av : Nat → Value} (a : Arg W v' p bs is av) : NArg W v' p (fun _=>bs) is av :=
  ⟨fun D m n hD hm=>a.vr D m n (by rw [← a.len];exact hD) hm,fun Fz h n hF hh=>a.vl Fz h n (by rw [← a.len];exact hF) hh,fun D m n hD hm=>a.ok D m n (by rw [← a.len];exact hD) hm,fun _=>a.lt,fun _=>a.len.symm⟩
theorem NArgs.nil (W : World) : NArgs W [] [] (fun _=>[]) [] (fun _=>[]) :=
  ⟨fun _ _ _ _ _=>⟨rfl,fun i a a' h=>by simp at h⟩,fun _ _ _ _ _=>.nil,fun _ _ _ _ _ j b h=>by simp at h,fun _ j b i h=>by simp at h,fun _=>rfl⟩
theorem NArgs.cons {W : World} {v' : Value} {p : TV} {bs bs2 : Nat → List Blk} {is is2 : List Info} {av : Nat → Value} {vs' : List Value} {ps : List TV} {avs : Nat → List Value}
    (a : NArg W v' p bs is av) (as : NArgs W vs' ps bs2 is2 avs) : NArgs W (v' :: vs') (p :: ps) (fun n=>bs n ++ bs2 (n + is.length)) (is ++ is2) (fun n=>av n :: avs (n + is.length)):=by
  have cD : ∀ (D : Nat → Prop) n,(∀ j,j < (is ++ is2).length → D (n + j)) → (∀ j,j < is.length → D (n + j)) ∧ (∀ j,j < is2.length → D (n + is.length + j)):=by
    intro D n h
    refine ⟨fun j hj=>h j (by simp;omega),fun j hj=>?_⟩
    have:=h (is.length + j) (by simp;omega)
    rwa [← Nat.add_assoc] at this
  have cI : ∀ (m : NMap) n,(∀ (j : Nat) i,(is ++ is2)[j]? = some i → m (n + j) = i) → (∀ (j : Nat) i,is[j]? = some i → m (n + j) = i) ∧ (∀ (j : Nat) i,is2[j]? = some i → m (n + is.length + j) = i):=by
    intro m n h
    refine ⟨fun j i hj=>h j i (by rw [List.getElem?_append_left (List.getElem?_eq_some_iff.1 hj).1];exact hj),fun j i hj=>?_⟩
    have:=h (is.length + j) i (by rw [List.getElem?_append_right (by omega),Nat.add_sub_cancel_left];exact hj)
    rwa [← Nat.add_assoc] at this
  refine ⟨fun D m n hD hm=>?_,fun Fz h n hF hh=>?_,fun D m n hD hm j b hb=>?_,fun n j b i hb hi hd=>?_,fun n=>by simp [a.len,as.len]⟩
  · have h1:=a.vr D m n (cD D n hD).1 (cI m n hm).1
    have h2:=as.vr D m (n + is.length) (cD D n hD).2 (cI m n hm).2
    refine ⟨by simp [h2.len],fun i x x' hx hx'=>?_⟩
    cases i with
    | zero=>simp at hx hx';subst hx hx';exact h1
    | succ i=>simp at hx hx';exact h2.at' i x x' hx hx'
  · refine .cons (a.vl Fz h n (cD Fz n hF).1 fun j b hb=>hh j b (by rw [List.getElem?_append_left (List.getElem?_eq_some_iff.1 hb).1];exact hb)) (as.vl Fz h (n + is.length) (cD Fz n hF).2 fun j b hb=>?_)
    have:=hh (is.length + j) b (by rw [List.getElem?_append_right (by rw [a.len];omega),a.len,Nat.add_sub_cancel_left];exact hb)
    rwa [← Nat.add_assoc] at this
  · rcases Nat.lt_or_ge j is.length with hj|hj
    · rw [List.getElem?_append_left (by rw [a.len];exact hj)] at hb
      exact a.ok D m n (cD D n hD).1 (cI m n hm).1 j b hb
    · rw [List.getElem?_append_right (by rw [a.len];exact hj),a.len] at hb
      have:=as.ok D m (n + is.length) (cD D n hD).2 (cI m n hm).2 _ b hb
      rwa [show n + is.length + (j - is.length) = n + j by omega] at this
  · rcases Nat.lt_or_ge j is.length with hj|hj
    · rw [List.getElem?_append_left (by rw [a.len];exact hj)] at hb
      rw [List.getElem?_append_left hj] at hi
      exact a.lt n j b i hb hi hd
    · rw [List.getElem?_append_right (by rw [a.len];exact hj),a.len] at hb
      rw [List.getElem?_append_right hj] at hi
      exact as.lt _ _ b i hb hi hd
section
variable {W : World} {vs' : List Value} {ps : List TV} {bs : Nat → List Blk} {is : List Info} {av : Nat → List Value}
theorem NArgs.rel (a : NArgs W vs' ps bs is av) : Rel W.heap.size (bs 0).length (fun k=>k < (bs 0).length) (nm is) (bs 0) W:=by
  have hl:=a.len 0
  refine ⟨Nat.le_refl _,fun _ h=>h,fun n b hn hb=>?_,fun n b hn hb hd=>?_,fun n b hD hl=>absurd hD (by omega),fun n b hn _ hb hd=>?_,fun n b hD hl=>absurd hD (by omega),fun n n' b b' hD _ hl=>absurd hD (by omega)⟩
  · have:=a.ok (fun k=>k < (bs 0).length) (nm is) 0 (fun j hj=>by omega) (fun j i hi=>nm_at hi) n b hb
    rwa [Nat.zero_add] at this
  all_goals
    have hi : n < is.length:=by omega
    have e:=nm_at (List.getElem?_eq_getElem hi)
    rw [Nat.zero_add] at e
    rw [e]
    exact a.lt 0 n b _ hb (List.getElem?_eq_getElem hi) hd
theorem NArgs.vls (a : NArgs W vs' ps bs is av) : VLs (fun k=>k < (bs 0).length) (bs 0) noL ps (av 0):=a.vl _ _ 0 (fun j hj=>by have:=a.len 0;omega) (fun j b hb=>by rw [Nat.zero_add];exact hb)
theorem NArgs.vrs (a : NArgs W vs' ps bs is av) : VRs (fun k=>k < (bs 0).length) (nm is) (av 0) vs':=a.vr _ _ 0 (fun j hj=>by have:=a.len 0;omega) (fun j i hi=>nm_at hi)
theorem NArg.ofArgs (a : NArgs W vs' ps bs is av) : NArg W (.agg ⟨vs'⟩) (.agg ps) bs is (fun n=>.agg ⟨av n⟩) :=
  ⟨fun D m n hD hm=>.agg' (a.vr D m n hD hm),fun Fz h n hF hh=>.agg' (a.vl Fz h n hF hh),a.ok,a.lt,a.len⟩
/-- many arguments of a kind -/
theorem nargs_list {α : Type} {F : α → TV} : ∀ (vs' : List Value), (∀ c ∈ vs', ∃ (x : α) (bs : Nat → List Blk) (is : List Info) (av : Nat → Value), NArg W c (F x) bs is av) →
    ∃ (xs : List α) (bs : Nat → List Blk) (is : List Info) (av : Nat → List Value),xs.length = vs'.length ∧ NArgs W vs' (xs.map F) bs is av
  | [],_=>⟨[],_,_,_,rfl,NArgs.nil W⟩
  | c :: t,h=>by
    obtain ⟨xs,_,_,_,hl,a⟩:=nargs_list t (fun c hc=>h c (by simp [hc]))
    obtain ⟨x,_,_,_,b⟩:=h c (by simp)
    exact ⟨x :: xs,_,_,_,by simp [hl],NArgs.cons b a⟩
end
section
variable {H : Type} {enc : TypeId × Value → H} {W : World} {base : Nat} {spare : Nat → Bool} {held : Bool}
theorem cells_spot {gb : Nat} {o : Nat} {s : Option Nat} {k : Nat} {v : Value} (h : W.cell? ⟨gb,o + k,s⟩ = some v) : s = none ∧ gb < W.heap.size:=by
  unfold World.cell? at h
  split at h
  · rename_i hb
    refine ⟨?_,?_⟩
    · cases s with
      | none=>rfl
      | some s=>simp at h
    · rcases Nat.lt_or_ge gb W.heap.size with hg|hg
      · exact hg
      · rw [Array.getElem?_eq_none hg] at hb
        cases hb
  · cases h
/-- a slice that can be read: a row of values that can be read -/
theorem open_any {P : Program} {t te : TypeId} (ht : P.underlying t = some (.slice te)) {es : Nat} (he : 0 < es) (hC : P.cellsOf te = es) {v' : Value} {fuel : Nat} {x : DataW H × List MemPlace} (h : DataW.trod enc P W base spare held fuel t [v'] = some x) :
    v' = .slice none 0 0 ∨ (∃ a c,v' = .slice (some a) 0 c) ∨ ∃ gb o len cap n,v' = .slice (some ⟨gb,o,none⟩) len cap ∧ 0 < len ∧ len ≤ cap ∧ gb < W.heap.size ∧
      ∀ i,i < len → ∃ cs y,cs.length = es ∧ DataW.trod enc P W base spare held n te cs = some y ∧ ∀ j,j < es → W.cell? ⟨gb,o + i * es + j,none⟩ = cs[j]?:=by
  rcases DataW.trod_slice ht h with ⟨hv,_⟩|⟨a,len,cap,elems,rest,n,_,hv,_,hb,hlc,hcm,hel,hel2,_,_⟩
  · exact .inl (by simpa using hv)
  · obtain rfl : v' = .slice (some a) len cap:=by simpa using hv
    rcases Nat.eq_zero_or_pos len with h0|h0
    · subst h0
      exact .inr (.inl ⟨a,cap,rfl⟩)
    · obtain ⟨gb,o,s⟩:=a
      have first : s = none ∧ gb < W.heap.size:=by
        have h1:=hel2 0 h0
        rw [List.getElem?_eq_getElem (by omega),Option.bind_eq_some_iff] at h1
        obtain ⟨cs,hcs,htr⟩:=h1
        rw [hC] at hcs
        unfold World.cells? at hcs
        split at hcs
        · have hlen:=mapM_some_length hcs
          simp at hlen
          have h2:=mapM_some_get hcs 0 0 (by simp [he])
          have e : ((⟨gb,o,s⟩ : Addr).add (0 * es)).add 0 = ⟨gb,o + 0,s⟩:=by simp [Addr.add]
          rw [e] at h2
          exact cells_spot (h2.trans (List.getElem?_eq_getElem (by omega)))
        · cases hcs
      obtain ⟨rfl,hgb⟩:=first
      refine .inr (.inr ⟨gb,o,len,cap,n,rfl,h0,hlc,hgb,fun i hi=>?_⟩)
      have h1:=hel2 i hi
      rw [List.getElem?_eq_getElem (by omega),Option.bind_eq_some_iff] at h1
      obtain ⟨cs,hcs,htr⟩:=h1
      rw [hC] at hcs
      unfold World.cells? at hcs
      split at hcs
      · have hlen:=mapM_some_length hcs
        simp at hlen
        refine ⟨cs,_,hlen,htr,fun j hj=>?_⟩
        have:=mapM_some_get hcs j j (by simp [hj])
        have e : ((⟨gb,o,none⟩ : Addr).add (i * es)).add j = ⟨gb,o + i * es + j,none⟩:=by
          unfold Addr.add
          split<;>split<;>simp_all
        rw [← e]
        exact this
      · cases hcs
/-- a slice of what can be read as trees -/
theorem open_lists {α : Type} {F : α → TV} {P : Program} {t te : TypeId} (ht : P.underlying t = some (.slice te)) (hC : P.cellsOf te = 1)
    (elem : ∀ n c y,DataW.trod enc P W base spare held n te [c] = some y → ∃ (x : α) (bs : Nat → List Blk) (is : List Info) (av : Nat → Value),NArg W c (F x) bs is av)
    {v' : Value} {fuel : Nat} {x : DataW H × List MemPlace} (h : DataW.trod enc P W base spare held fuel t [v'] = some x) : ∃ (xs : List α) (bs : Nat → List Blk) (is : List Info) (av : Nat → Value),NArg W v' (.list 1 (xs.map fun x=>[F x])) bs is av:=by
  rcases open_any ht (by decide) hC h with rfl|⟨a,c,rfl⟩|⟨gb,o,len,cap,n,rfl,h0,hlc,hgb,key⟩
  · exact ⟨[],fun _=>[],[],fun _=>.slice none 0 0,fun _ _ _ _ _=>.nilSlice 0 0,fun _ _ _ _ _=>.nillist _ _,fun _ _ _ _ _ j b h=>by simp at h,fun _ j b i h=>by simp at h,fun _=>rfl⟩
  · exact ⟨[],fun _=>[],[],fun _=>vag,fun _ _ _ _ _=>.vague a c,fun _ _ _ _ _=>.vague _ _,fun _ _ _ _ _ j b h=>by simp at h,fun _ j b i h=>by simp at h,fun _=>rfl⟩
  · have key2 : ∀ i, i < len → ∃ c : Value, W.cell? ⟨gb, o + i, none⟩ = some c ∧ ∃ y, DataW.trod enc P W base spare held n te [c] = some y := fun i hi => by
      obtain ⟨cs,y,hl,htr,hcell⟩:=key i hi
      obtain ⟨c,rfl⟩:=len1 hl
      refine ⟨c,?_,y,htr⟩
      have:=hcell 0 (by decide)
      simpa using this
    obtain ⟨cs,hcl,hq⟩:=choose_list len key2
    obtain ⟨xs,bs,is,avs,hxl,as⟩:=nargs_list (W:=W) (F:=F) cs (fun c hc=>by
      obtain ⟨i,hi,rfl⟩:=List.mem_iff_getElem.1 hc
      obtain ⟨_,y,hy⟩:=hq i _ (List.getElem?_eq_getElem hi)
      exact elem n _ y hy)
    subst hcl
    have sD : ∀ (D : Nat → Prop) n,(∀ j,j < is.length + 1 → D (n + j)) → D n ∧ ∀ j,j < is.length → D (n + 1 + j):=by
      intro D n hD
      refine ⟨by simpa using hD 0 (by omega),fun j hj=>?_⟩
      have:=hD (j + 1) (by omega)
      rwa [show n + 1 + j = n + (j + 1) by omega]
    have sI : ∀ (m : NMap) n,(∀ (j : Nat) i,((⟨gb,o,cap * 1,1⟩ : Info) :: is)[j]? = some i → m (n + j) = i) → m n = ⟨gb,o,cap * 1,1⟩ ∧ ∀ (j : Nat) i,is[j]? = some i → m (n + 1 + j) = i:=by
      intro m n hm
      refine ⟨by simpa using hm 0 _ rfl,fun j i hi=>?_⟩
      have:=hm (j + 1) i (by simpa using hi)
      rwa [show n + 1 + j = n + (j + 1) by omega]
    refine ⟨xs,fun n=>.cells 1 (avs (n + 1)) :: bs (n + 1),⟨gb,o,cap * 1,1⟩ :: is,fun n=>.slice (some ⟨n,0,none⟩) xs.length xs.length,fun D m n hD hm=>?_,fun Fz h n hF hh=>?_,fun D m n hD hm j b hb=>?_,fun n j b i hb hi hd=>?_,fun n=>by simp [as.len]⟩
    · have e:=(sI m n hm).1
      have:=VR.slice (D:=D) (m:=m) n 0 xs.length xs.length cap (sD D n (by simpa using hD)).1 (Nat.le_refl _) (by omega) (.inr (by rw [e];simp))
      rw [e] at this
      rw [hxl] at this ⊢
      exact this
    · have hs := as.vl Fz h (n + 1) (sD Fz n (by simpa using hF)).2 (fun j b hb => by
        have:=hh (j + 1) b (by simpa using hb)
        rwa [show n + 1 + j = n + (j + 1) by omega])
      have hlen:=hs.len
      have hflat : (xs.map fun x=>[F x]).flatten = xs.map F:=by
        clear hlen hs as hxl
        induction xs with
        | nil=>rfl
        | cons a t ih=>simp [ih]
      have h0':=hh 0 (.cells 1 (avs (n + 1))) rfl
      have:=VL.list (Fz:=Fz) (h:=h) noL 1 (xs.map fun x=>[F x]) n 0 xs.length (avs (n + 1)) 1 (sD Fz n (by simpa using hF)).1 h0' (.inl rfl) (fun r hr=>by obtain ⟨x,_,rfl⟩:=List.mem_map.1 hr;rfl) (by simp) (by simp only [List.length_map] at hlen ⊢;omega) (fun j p x hp hx=>by
        rw [hflat] at hp
        rw [Nat.zero_add] at hx
        exact hs.at' j p x hp hx)
      rw [List.length_map] at this
      exact this
    · cases j with
      | zero =>
        obtain rfl:=Option.some.inj hb
        have e:=(sI m n hm).1
        have hv:=as.vr D m (n + 1) (sD D n (by simpa using hD)).2 (sI m n hm).2
        rw [Nat.add_zero]
        refine ⟨by rw [e],fun i v hi=>?_⟩
        obtain ⟨v',h1,h2⟩:=hv.at hi
        refine ⟨v',?_,h2⟩
        rw [e]
        exact (hq i v' h1).1
      | succ j =>
        have:=as.ok D m (n + 1) (sD D n (by simpa using hD)).2 (sI m n hm).2 j b (by simpa using hb)
        rwa [show n + 1 + j = n + (j + 1) by omega] at this
    · cases j with
      | zero =>
        obtain rfl:=Option.some.inj hi
        exact hgb
      | succ j=>exact as.lt _ j b i (by simpa using hb) (by simpa using hi) hd
/-- a slice of ints that can be read -/
theorem open_ints {P : Program} {t te : TypeId} (ht : P.underlying t = some (.slice te)) (hte : P.underlying te = some (.int .i64)) (hC : P.cellsOf te = 1) {f : Int → List TV} (hf : ∀ x, f x = [.v (.int .i64 x)])
    {v' : Value} {fuel : Nat} {x : DataW H × List MemPlace} (h : DataW.trod enc P W base spare held fuel t [v'] = some x) : ∃ (xs : List Int) (bs : Nat → List Blk) (is : List Info) (av : Nat → Value),NArg W v' (.list 1 (xs.map f)) bs is av:=by
  obtain rfl : f = fun x=>[.v (.int .i64 x)]:=funext hf
  exact open_lists (F:=fun x : Int=>.v (.int .i64 x)) ht hC (fun n c y hy=>by
    obtain ⟨z,hz,_⟩:=DataW.trod_int hte hy
    obtain rfl : c = .int .i64 z:=by simpa using hz
    exact ⟨z,_,_,_,(Arg.atom (atomV_int .i64 z)).n⟩) h
end
end Go.Rex
