/- What these functions return: facts on lists and numbers. -/
import Derived.Test.YtllnpjkkpebplaaRexG8
import Derived.Test.YtllnpjkkpebplaaS
import Derived.Test.YtllnpjkkpebplaaRexG7
import Derived.ProofKit
import Derived.OpenShut
import Derived.ShutString
import Derived.ChangeOld
import Derived.Below
import Derived.Lib.SmallJoins
import Derived.ChangeShapes
import Derived.ChangeArms
import Derived.WideShapes
set_option linter.unusedSimpArgs false
set_option linter.unusedVariables false
set_option linter.defProp false
namespace Go.Rex
/-! ### loops that are run,by fuel -/
def runF {σ ε : Type} (step : σ → Option (σ ⊕ ε)) : Nat → σ → Option ε
  | 0,_=>none
  | k + 1,s=>match step s with
    | some (.inl s')=>runF step k s'
    | some (.inr e)=>some e
    | none=>none
/-- what the first one yields the second one yields -/
def Le {α : Type} (a b : Option α) : Prop:=∀ r,a = some r → b = some r
theorem Le.refl {α : Type} (a : Option α) : Le a a:=fun _ h=>h
theorem Le.bind {α β : Type} {a a' : Option α} {f f' : α → Option β} (h : Le a a') (hf : ∀ x,Le (f x) (f' x)) : Le (a.bind f) (a'.bind f'):=by
  intro r hr
  obtain ⟨x,h1,h2⟩:=Option.bind_eq_some_iff.1 hr
  exact Option.bind_eq_some_iff.2 ⟨x,h x h1,hf x r h2⟩
theorem Le.ite {α : Type} {c : Prop} [Decidable c] {a a' b b' : Option α} (h1 : Le a a') (h2 : Le b b') : Le (if c then a else b) (if c then a' else b'):=by
  split
  · exact h1
  · exact h2
theorem Le.run {σ ε : Type} {stepF step : σ → Option (σ ⊕ ε)} {k : Nat} {s : σ} (h : ∀ s,Le (stepF s) (step s)) : Le (runF stepF k s) (run step s):=by
  intro r hr
  induction k generalizing s with
  | zero=>cases hr
  | succ k ih =>
    unfold runF at hr
    cases hs : stepF s with
    | none=>rw [hs] at hr;cases hr
    | some x =>
      rw [hs] at hr
      cases x with
      | inl s'=>rw [run_iff];exact .next (h s _ hs) (run_iff.1 (ih hr))
      | inr e=>obtain rfl:=Option.some.inj hr;rw [run_iff];exact .stop (h s _ hs)
end Go.Rex

open Go Go.Rex
namespace Go.Rex
set_option maxRecDepth 100000
def math_bits_Len64F (v1 : Int) : Option (Int) :=
  if (decide (v1 ≥ 4294967296)) = true then
    ((shI .shr .u64 v1 32).bind fun v3 =>
    if (decide (v3 ≥ 65536)) = true then
      ((shI .shr .u64 v3 16).bind fun v4 =>
      if (decide (v4 ≥ 256)) = true then
        ((shI .shr .u64 v4 8).bind fun v5 =>
        (strI txt_c95356 (IntKind.u8.wrap v5)).bind fun v6 =>
        some ((IntKind.i64.wrap (56 + (IntKind.i64.wrap v6)))))
      else
        ((strI txt_c95356 (IntKind.u8.wrap v4)).bind fun v7 =>
        some ((IntKind.i64.wrap (48 + (IntKind.i64.wrap v7))))))
    else
      (if (decide (v3 ≥ 256)) = true then
        ((shI .shr .u64 v3 8).bind fun v8 =>
        (strI txt_c95356 (IntKind.u8.wrap v8)).bind fun v9 =>
        some ((IntKind.i64.wrap (40 + (IntKind.i64.wrap v9)))))
      else
        ((strI txt_c95356 (IntKind.u8.wrap v3)).bind fun v10 =>
        some ((IntKind.i64.wrap (32 + (IntKind.i64.wrap v10)))))))
  else
    (if (decide (v1 ≥ 65536)) = true then
      ((shI .shr .u64 v1 16).bind fun v11 =>
      if (decide (v11 ≥ 256)) = true then
        ((shI .shr .u64 v11 8).bind fun v12 =>
        (strI txt_c95356 (IntKind.u8.wrap v12)).bind fun v13 =>
        some ((IntKind.i64.wrap (24 + (IntKind.i64.wrap v13)))))
      else
        ((strI txt_c95356 (IntKind.u8.wrap v11)).bind fun v14 =>
        some ((IntKind.i64.wrap (16 + (IntKind.i64.wrap v14))))))
    else
      (if (decide (v1 ≥ 256)) = true then
        ((shI .shr .u64 v1 8).bind fun v15 =>
        (strI txt_c95356 (IntKind.u8.wrap v15)).bind fun v16 =>
        some ((IntKind.i64.wrap (8 + (IntKind.i64.wrap v16)))))
      else
        ((strI txt_c95356 (IntKind.u8.wrap v1)).bind fun v17 =>
        some ((IntKind.i64.wrap (0 + (IntKind.i64.wrap v17)))))))
theorem math_bits_Len64_le (v1 : Int) : Le (math_bits_Len64F v1) (math_bits_Len64 v1):=by
  unfold math_bits_Len64F math_bits_Len64
  refine Le.ite ?_ ?_
  refine Le.bind ?_ ?_
  exact Le.refl _
  intro v3
  try dsimp only
  refine Le.ite ?_ ?_
  refine Le.bind ?_ ?_
  exact Le.refl _
  intro v4
  try dsimp only
  refine Le.ite ?_ ?_
  refine Le.bind ?_ ?_
  exact Le.refl _
  intro v5
  try dsimp only
  refine Le.bind ?_ ?_
  exact Le.refl _
  intro v6
  try dsimp only
  exact Le.refl _
  refine Le.bind ?_ ?_
  exact Le.refl _
  intro v7
  try dsimp only
  exact Le.refl _
  refine Le.ite ?_ ?_
  refine Le.bind ?_ ?_
  exact Le.refl _
  intro v8
  try dsimp only
  refine Le.bind ?_ ?_
  exact Le.refl _
  intro v9
  try dsimp only
  exact Le.refl _
  refine Le.bind ?_ ?_
  exact Le.refl _
  intro v10
  try dsimp only
  exact Le.refl _
  refine Le.ite ?_ ?_
  refine Le.bind ?_ ?_
  exact Le.refl _
  intro v11
  try dsimp only
  refine Le.ite ?_ ?_
  refine Le.bind ?_ ?_
  exact Le.refl _
  intro v12
  try dsimp only
  refine Le.bind ?_ ?_
  exact Le.refl _
  intro v13
  try dsimp only
  exact Le.refl _
  refine Le.bind ?_ ?_
  exact Le.refl _
  intro v14
  try dsimp only
  exact Le.refl _
  refine Le.ite ?_ ?_
  refine Le.bind ?_ ?_
  exact Le.refl _
  intro v15
  try dsimp only
  refine Le.bind ?_ ?_
  exact Le.refl _
  intro v16
  try dsimp only
  exact Le.refl _
  refine Le.bind ?_ ?_
  exact Le.refl _
  intro v17
  try dsimp only
  exact Le.refl _
def math_bits_LenF (v1 : Int) : Option (Int) :=
  (math_bits_Len64F v1).bind fun v3 =>
  some (v3)
theorem math_bits_Len_le (v1 : Int) : Le (math_bits_LenF v1) (math_bits_Len v1):=by
  unfold math_bits_LenF math_bits_Len
  refine Le.bind ?_ ?_
  (first|(apply math_bits_Len64_le)|exact Le.refl _)
  intro v3
  try dsimp only
  exact Le.refl _
def loop_root_l1F (v1 : Int) : (Int) → Option ((Int) ⊕ ((Int))):=fun v5 =>
  if v5 = 0 then none else
  (if (decide ((IntKind.i64.wrap ((IntKind.i64.wrap (v5 + (IntKind.i64.wrap (v1.tdiv v5)))).tdiv 2)) ≥ v5)) = true then
    (some (.inr v5))
  else
    (some (.inl (IntKind.i64.wrap ((IntKind.i64.wrap (v5 + (IntKind.i64.wrap (v1.tdiv v5)))).tdiv 2)))))
theorem loop_root_l1_le (v1 : Int) : ∀ s,Le (loop_root_l1F v1 s) (loop_root_l1 v1 s):=by
  intro s
  revert s;intro v5
  unfold loop_root_l1F loop_root_l1
  try dsimp only
  refine Le.ite (Le.refl _) ?_
  refine Le.ite ?_ ?_
  exact Le.refl _
  exact Le.refl _
def loop_rootF (v1 : Int) : Option (Int) :=
  (math_bits_LenF (IntKind.u64.wrap v1)).bind fun v3 =>
  (shI .shl .i64 1 (IntKind.i64.wrap ((IntKind.i64.wrap (v3 + 1)).tdiv 2))).bind fun v4 =>
  (runF (loop_root_l1F v1) 100000 v4).bind fun v7 =>
  some (v7)
theorem loop_root_le (v1 : Int) : Le (loop_rootF v1) (loop_root v1):=by
  unfold loop_rootF loop_root
  refine Le.bind ?_ ?_
  (first|(apply math_bits_Len_le)|exact Le.refl _)
  intro v3
  try dsimp only
  refine Le.bind ?_ ?_
  exact Le.refl _
  intro v4
  try dsimp only
  refine Le.bind ?_ ?_
  (first|(refine Le.run ?_;intro s;apply loop_root_l1_le)|exact Le.refl _)
  intro v7
  try dsimp only
  exact Le.refl _
def loop_moduloF (v1 : Int) (v2 : Int) : Option (Int) :=
  if v2 = 0 then none else
  (some (((IntKind.i64.wrap ((v1.tmod v2) + v2)).tmod v2)))
theorem loop_modulo_le (v1 : Int) (v2 : Int) : Le (loop_moduloF v1 v2) (loop_modulo v1 v2):=by
  unfold loop_moduloF loop_modulo
  refine Le.ite (Le.refl _) ?_
  exact Le.refl _
def loop_floorF (v1 : Int) (v2 : Int) : Option (Int) :=
  (loop_moduloF v1 v2).bind fun v4 =>
  if v2 = 0 then none else
  (some ((IntKind.i64.wrap ((IntKind.i64.wrap (v1 - v4)).tdiv v2))))
theorem loop_floor_le (v1 : Int) (v2 : Int) : Le (loop_floorF v1 v2) (loop_floor v1 v2):=by
  unfold loop_floorF loop_floor
  refine Le.bind ?_ ?_
  (first|(apply loop_modulo_le)|exact Le.refl _)
  intro v4
  try dsimp only
  refine Le.ite (Le.refl _) ?_
  exact Le.refl _
def loop_nearestF (v1 : Int) (v2 : Int) : Option (Int) :=
  (loop_floorF (IntKind.i64.wrap (v1 + (IntKind.i64.wrap (v2.tdiv 2)))) v2).bind fun v4 =>
  some (v4)
theorem loop_nearest_le (v1 : Int) (v2 : Int) : Le (loop_nearestF v1 v2) (loop_nearest v1 v2):=by
  unfold loop_nearestF loop_nearest
  refine Le.bind ?_ ?_
  (first|(apply loop_floor_le)|exact Le.refl _)
  intro v4
  try dsimp only
  exact Le.refl _
def loop_middleF (v1 : Int) (v2 : Int) (v3 : Int) (v4 : Int) : Option (Int × Int) :=
  (loop_rootF (IntKind.i64.wrap ((IntKind.i64.wrap ((IntKind.i64.wrap (v1 + v3)) * (IntKind.i64.wrap (v1 + v3)))) + (IntKind.i64.wrap ((IntKind.i64.wrap (v2 + v4)) * (IntKind.i64.wrap (v2 + v4))))))).bind fun v7 =>
  (loop_nearestF (IntKind.i64.wrap ((IntKind.i64.wrap (v1 + v3)) * 67108864)) v7).bind fun v8 =>
  (loop_nearestF (IntKind.i64.wrap ((IntKind.i64.wrap (v2 + v4)) * 67108864)) v7).bind fun v9 =>
  some (v8,v9)
theorem loop_middle_le (v1 : Int) (v2 : Int) (v3 : Int) (v4 : Int) : Le (loop_middleF v1 v2 v3 v4) (loop_middle v1 v2 v3 v4):=by
  unfold loop_middleF loop_middle
  refine Le.bind ?_ ?_
  (first|(apply loop_root_le)|exact Le.refl _)
  intro v7
  try dsimp only
  refine Le.bind ?_ ?_
  (first|(apply loop_nearest_le)|exact Le.refl _)
  intro v8
  try dsimp only
  refine Le.bind ?_ ?_
  (first|(apply loop_nearest_le)|exact Le.refl _)
  intro v9
  try dsimp only
  exact Le.refl _
end Go.Rex

namespace Go.Rex
/-! ### plain facts for shallow functions -/
theorem w64 {x : Int} (h : -9223372036854775808 ≤ x ∧ x ≤ 9223372036854775807) : IntKind.i64.wrap x = x:=IntWalk.i64_in x (by omega)
/-- a loop that counts -/
theorem run_count {σ ε : Type} {step : σ → Option (σ ⊕ ε)} (f : Nat → σ) {n : Nat} {e : ε} (h : ∀ k,k < n → step (f k) = some (.inl (f (k + 1)))) (hn : step (f n) = some (.inr e)) : run step (f 0) = some e:=by
  suffices H : ∀ j k,n - k = j → k ≤ n → run step (f k) = some e from H n 0 (by omega) (Nat.zero_le _)
  intro j
  induction j with
  | zero => intro k hj hk; obtain rfl : k = n := by omega
            exact run_stop hn
  | succ j ih=>intro k hj hk;rw [run_next (h k (by omega))];exact ih (k + 1) (by omega) (by omega)
end Go.Rex

open Go Go.Rex
namespace Go.Rex
/-! ### a table that is filled from far to near -/
abbrev Pt:=Int × Int
noncomputable def stepG (mid : Pt → Pt → Option Pt) (a : Int) : (List Pt × Int) → Option ((List Pt × Int) ⊕ List Pt):=fun (v,m) =>
  if decide (m < 1024) = true then
    (getI v (IntKind.i64.wrap (m - a))).bind fun p=>(getI v (IntKind.i64.wrap (m + a))).bind fun q=>(mid p q).bind fun r=>(getI v m).bind fun _=>some (.inl (v.set m.toNat r,IntKind.i64.wrap (m + IntKind.i64.wrap (2 * a))))
  else some (.inr v)
theorem getI_cast {α : Type} {xs : List α} {i : Nat} {e : Int} (h : e = (i : Int)) : getI xs e = xs[i]?:=by
  subst h;unfold getI;rw [if_pos (by omega)];rfl
theorem level {mid : Pt → Pt → Option Pt} {a n : Nat} (ha : 0 < a) (hn : 2 * a * n = 1024) {L M : List Pt} (hM : ∀ i, i < n → ∃ p q r, L[i]? = some p ∧ L[i + 1]? = some q ∧ mid p q = some r ∧ M[i]? = some r) :
    ∀ (k j : Nat) (v : List Pt),n - j = k → j ≤ n → v.length = 1025 → (∀ i,i ≤ n → v[i * (2 * a)]? = L[i]?) → (∀ i,i < j → v[(2 * i + 1) * a]? = M[i]?) →
      ∃ v',run (stepG mid a) (v,(((2 * j + 1) * a : Nat) : Int)) = some v' ∧ v'.length = 1025 ∧ (∀ i,i ≤ n → v'[i * (2 * a)]? = L[i]?) ∧ (∀ i,i < n → v'[(2 * i + 1) * a]? = M[i]?):=by
  intro k
  induction k with
  | zero =>
    intro j v hk hj hv hL hM'
    obtain rfl : j = n:=by omega
    refine ⟨v,run_stop ?_,hv,hL,hM'⟩
    have h1 : (2 * j + 1) * a = 1024 + a:=by rw [Nat.add_mul,Nat.one_mul,← hn,Nat.mul_right_comm]
    simp only [stepG]
    rw [if_neg]
    simp only [decide_eq_true_eq]
    omega
  | succ k ih =>
    intro j v hk hj hv hL hM'
    obtain ⟨p,q,r,hp,hq,hr,hMr⟩:=hM j (by omega)
    have hmul : 2 * a * (j + 1) ≤ 1024:=by rw [← hn];exact Nat.mul_le_mul_left _ (by omega)
    have e1 : (2 * j + 1) * a = 2 * a * j + a:=by rw [Nat.add_mul,Nat.one_mul,Nat.mul_right_comm]
    have e2 : 2 * a * (j + 1) = 2 * a * j + 2 * a:=by rw [Nat.mul_add,Nat.mul_one]
    have hlt : (2 * j + 1) * a < 1024:=by omega
    have w1 : IntKind.i64.wrap ((((2 * j + 1) * a : Nat) : Int) - (a : Int)) = ((j * (2 * a) : Nat) : Int):=by
      rw [w64 (by omega),show j * (2 * a) = 2 * a * j from Nat.mul_comm _ _];omega
    have w2 : IntKind.i64.wrap ((((2 * j + 1) * a : Nat) : Int) + (a : Int)) = (((j + 1) * (2 * a) : Nat) : Int):=by
      rw [w64 (by omega),show (j + 1) * (2 * a) = 2 * a * (j + 1) from Nat.mul_comm _ _];omega
    have w3 : IntKind.i64.wrap ((((2 * j + 1) * a : Nat) : Int) + IntKind.i64.wrap (2 * (a : Int))) = (((2 * (j + 1) + 1) * a : Nat) : Int):=by
      have e3 : (2 * (j + 1) + 1) * a = (2 * j + 1) * a + 2 * a:=by rw [← Nat.add_mul];congr 1
      rw [w64 (x:=2 * (a : Int)) (by omega),w64 (by omega),e3];omega
    obtain ⟨x,hx⟩ : ∃ x,v[(2 * j + 1) * a]? = some x:=⟨_,List.getElem?_eq_getElem (by omega)⟩
    have hstep : stepG mid a (v,(((2 * j + 1) * a : Nat) : Int)) = some (.inl (v.set ((2 * j + 1) * a) r,(((2 * (j + 1) + 1) * a : Nat) : Int))):=by
      simp only [stepG]
      rw [if_pos (by simp only [decide_eq_true_eq];omega),getI_cast w1,hL j (by omega),hp,Option.bind_some,getI_cast w2,hL (j + 1) (by omega),hq,Option.bind_some,hr,Option.bind_some,getI_cast rfl,hx,Option.bind_some,w3]
      rfl
    rw [run_next hstep]
    refine ih (j + 1) _ (by omega) (by omega) (by simpa using hv) (fun i hi=>?_) (fun i hi=>?_)
    · rw [List.getElem?_set_ne,hL i hi]
      intro he
      have : (2 * j + 1) * a = (2 * i) * a:=by rw [he,← Nat.mul_assoc,Nat.mul_comm i 2]
      have:=Nat.eq_of_mul_eq_mul_right ha this
      omega
    · by_cases e : i = j
      · subst e
        rw [List.getElem?_set_self (by omega),hMr]
      · rw [List.getElem?_set_ne,hM' i (by omega)]
        intro he
        have:=Nat.eq_of_mul_eq_mul_right ha he
        omega
def mids (mid : Pt → Pt → Option Pt) : List Pt → Option (List Pt)
  | []=>some []
  | p :: t=>match t with
    | []=>some []
    | q :: t'=>(mid p q).bind fun r=>(mids mid (q :: t')).bind fun s=>some (r :: s)
def weave : List Pt → List Pt → List Pt
  | [],_=>[]
  | p :: t,s=>match s with
    | []=>[p]
    | r :: s'=>p :: r :: weave t s'
theorem mids_at {mid : Pt → Pt → Option Pt} : ∀ {L M : List Pt},mids mid L = some M → M.length + 1 = max L.length 1 ∧ ∀ i,i + 1 < L.length → ∃ p q r,L[i]? = some p ∧ L[i + 1]? = some q ∧ mid p q = some r ∧ M[i]? = some r
  | [],M,h=>by simp [mids] at h;subst h;exact ⟨rfl,fun i hi=>by simp at hi⟩
  | [p],M,h=>by simp [mids] at h;subst h;exact ⟨rfl,fun i hi=>by simp at hi⟩
  | p :: q :: t,M,h=>by
    simp only [mids] at h
    obtain ⟨r,hr,h⟩:=Option.bind_eq_some_iff.1 h
    obtain ⟨s,hs,h⟩:=Option.bind_eq_some_iff.1 h
    obtain rfl:=Option.some.inj h
    obtain ⟨h1,h2⟩:=mids_at hs
    refine ⟨by simp at h1 ⊢;omega,fun i hi=>?_⟩
    cases i with
    | zero=>exact ⟨p,q,r,rfl,rfl,hr,rfl⟩
    | succ i=>simpa using h2 i (by simpa using hi)
theorem weave_at : ∀ {L M : List Pt},M.length + 1 = L.length → (weave L M).length = L.length + M.length ∧ (∀ i,i < L.length → (weave L M)[2 * i]? = L[i]?) ∧ (∀ i,i < M.length → (weave L M)[2 * i + 1]? = M[i]?)
  | [],M,h=>by simp at h
  | [p],[],h=>by simp [weave]
  | [p],_ :: _,h=>by simp at h
  | p :: q :: t,[],h=>by simp at h
  | p :: q :: t,r :: s,h=>by
    obtain ⟨h1,h2,h3⟩:=weave_at (L:=q :: t) (M:=s) (by simpa using h)
    refine ⟨by simp [weave] at h1 ⊢;omega,fun i hi=>?_,fun i hi=>?_⟩
    · cases i with
      | zero=>rfl
      | succ i =>
        have:=h2 i (by simpa using hi)
        show (p :: r :: weave (q :: t) s)[2 * i + 2]? = _
        simpa using this
    · cases i with
      | zero=>rfl
      | succ i =>
        have:=h3 i (by simpa using hi)
        show (p :: r :: weave (q :: t) s)[2 * i + 3]? = _
        simpa using this
/-- so many times twice as near -/
def upN (mid : Pt → Pt → Option Pt) : Nat → List Pt → Option (List Pt)
  | 0,L=>some L
  | k + 1,L=>(mids mid L).bind fun M=>upN mid k (weave L M)
theorem mids_le {mid mid' : Pt → Pt → Option Pt} (h : ∀ p q,Le (mid p q) (mid' p q)) : ∀ L,Le (mids mid L) (mids mid' L)
  | []=>Le.refl _
  | [p]=>Le.refl _
  | p :: q :: t=>by
    simp only [mids]
    exact Le.bind (h p q) fun r=>Le.bind (mids_le h (q :: t)) fun s=>Le.refl _
theorem upN_le {mid mid' : Pt → Pt → Option Pt} (h : ∀ p q,Le (mid p q) (mid' p q)) : ∀ k L,Le (upN mid k L) (upN mid' k L)
  | 0,L=>Le.refl _
  | k + 1,L=>Le.bind (mids_le h L) fun M=>upN_le h k _
noncomputable def step1 (mid : Pt → Pt → Option Pt) : (List Pt × Int) → Option ((List Pt × Int) ⊕ List Pt):=fun (v,a) =>
  if decide (a > 0) = true then (run (stepG mid a) (v,a)).bind fun v'=>some (.inl (v',IntKind.i64.wrap (a.tdiv 2)))
  else some (.inr v)
theorem levels {mid : Pt → Pt → Option Pt} {T : List Pt} : ∀ (k n : Nat) (v L : List Pt),k ≤ 9 → 2 * 2 ^ k * n = 1024 → v.length = 1025 → L.length = n + 1 → (∀ i,i ≤ n → v[i * (2 * 2 ^ k)]? = L[i]?) → upN mid (k + 1) L = some T → run (step1 mid) (v,((2 ^ k : Nat) : Int)) = some T:=by
  intro k
  induction k with
  | zero =>
    intro n v L hk hn hv hLl hL hT
    simp only [upN] at hT
    obtain ⟨M,hM,hT⟩:=Option.bind_eq_some_iff.1 hT
    obtain rfl:=Option.some.inj hT
    obtain ⟨m1,m2⟩:=mids_at hM
    obtain ⟨v',r1,r2,r3,r4⟩:=level (a:=2 ^ 0) (mid:=mid) (n:=n) (by omega) hn (fun i hi=>m2 i (by omega)) n 0 v (by omega) (by omega) hv hL (fun i hi=>by omega)
    have hs : step1 mid (v,((2 ^ 0 : Nat) : Int)) = some (.inl (v',0)):=by
      simp only [step1]
      rw [if_pos (by simp)]
      rw [show (((2 ^ 0 : Nat) : Int)) = (((2 * 0 + 1) * 2 ^ 0 : Nat) : Int) from rfl]
      rw [show stepG mid (((2 * 0 + 1) * 2 ^ 0 : Nat) : Int) = stepG mid ((2 ^ 0 : Nat) : Int) from rfl,r1]
      rfl
    have he : v' = weave L M:=by
      obtain ⟨w1,w2,w3⟩:=weave_at (L:=L) (M:=M) (by omega)
      apply List.ext_getElem?
      intro i
      by_cases hi : i < 1025
      · rcases Nat.mod_two_eq_zero_or_one i with h|h
        · have e : i = 2 * (i / 2):=by omega
          have h1:=w2 (i / 2) (by omega)
          have h2:=r3 (i / 2) (by omega)
          rw [← e] at h1
          rw [h1,← h2]
          congr 1
          omega
        · have e : i = 2 * (i / 2) + 1:=by omega
          have h1:=w3 (i / 2) (by omega)
          have h2:=r4 (i / 2) (by omega)
          rw [← e] at h1
          rw [h1,← h2]
          congr 1
          omega
      · rw [List.getElem?_eq_none (by omega),List.getElem?_eq_none (by omega)]
    rw [run_next hs]
    refine run_stop ?_
    simp only [step1]
    rw [if_neg (by simp),he]
  | succ k ih =>
    intro n v L hk hn hv hLl hL hT
    unfold upN at hT
    obtain ⟨M,hM,hT⟩:=Option.bind_eq_some_iff.1 hT
    obtain ⟨m1,m2⟩:=mids_at hM
    have hpos : 0 < 2 ^ (k + 1):=Nat.two_pow_pos _
    have hp : 2 ^ (k + 1) = 2 * 2 ^ k:=by rw [Nat.pow_succ,Nat.mul_comm]
    have hbig : 2 ^ (k + 1) ≤ 2 ^ 9:=Nat.pow_le_pow_right (by omega) hk
    obtain ⟨v',r1,r2,r3,r4⟩:=level (a:=2 ^ (k + 1)) (mid:=mid) (n:=n) hpos hn (fun i hi=>m2 i (by omega)) n 0 v (by omega) (by omega) hv hL (fun i hi=>by omega)
    have hs : step1 mid (v,((2 ^ (k + 1) : Nat) : Int)) = some (.inl (v',((2 ^ k : Nat) : Int))):=by
      simp only [step1]
      rw [if_pos (by simp only [decide_eq_true_eq];omega)]
      rw [show (2 * 0 + 1) * 2 ^ (k + 1) = 2 ^ (k + 1) by omega] at r1
      rw [r1,Option.bind_some]
      have : (((2 ^ (k + 1) : Nat) : Int)).tdiv 2 = ((2 ^ k : Nat) : Int):=by
        rw [hp,Int.natCast_mul]
        exact Int.mul_tdiv_cancel_left _ (by decide)
      rw [this,w64 (by omega)]
    rw [run_next hs]
    obtain ⟨w1,w2,w3⟩:=weave_at (L:=L) (M:=M) (by omega)
    have hML : M.length = n:=by omega
    refine ih (2 * n) v' (weave L M) (by omega) (by rw [hp] at hn;rw [← hn,Nat.mul_left_comm,← Nat.mul_assoc]) r2 (by omega) (fun i hi=>?_) hT
    rw [← hp]
    rcases Nat.mod_two_eq_zero_or_one i with h|h
    · have e : i = 2 * (i / 2):=by omega
      have h1:=w2 (i / 2) (by omega)
      have h2:=r3 (i / 2) (by omega)
      rw [← e] at h1
      rw [h1,← h2]
      congr 1
      rw [← Nat.mul_assoc,Nat.mul_comm (i / 2) 2,← e]
    · have e : i = 2 * (i / 2) + 1:=by omega
      have h1:=w3 (i / 2) (by omega)
      have h2:=r4 (i / 2) (by omega)
      rw [← e] at h1 h2
      rw [h1,← h2]
def circ0 : List Pt:=[(67108864,0),(47453132,47453132),(0,67108864)]
theorem circ_start {mid : Pt → Pt → Option Pt} {T Z : List Pt} (hZ : Z.length = 1025) (h : upN mid 9 circ0 = some T) : run (step1 mid) ((((Z.set 0 (67108864,0)).set 512 (47453132,47453132)).set 1024 (0,67108864)),256) = some T:=by
  refine levels 8 2 _ circ0 (by omega) (by rfl) (by simp only [List.length_set];exact hZ) rfl (fun i hi=>?_) h
  have : i = 0 ∨ i = 1 ∨ i = 2:=by omega
  rcases this with rfl|rfl|rfl
  · rw [List.getElem?_set_ne (by decide),List.getElem?_set_ne (by decide),show 0 * (2 * 2 ^ 8) = 0 from rfl,List.getElem?_set_self (by omega)];rfl
  · rw [List.getElem?_set_ne (by decide),show 1 * (2 * 2 ^ 8) = 512 from rfl,List.getElem?_set_self (by rw [List.length_set];omega)];rfl
  · rw [show 2 * (2 * 2 ^ 8) = 1024 from rfl,List.getElem?_set_self (by rw [List.length_set,List.length_set];omega)];rfl
theorem zeros : ∃ Z : List Pt,mkI 16 1025 ((0,0) : Pt) = some Z ∧ Z.length = 1025:=by
  refine ⟨List.replicate (1025 : Int).toNat (0,0),?_,by rw [List.length_replicate];rfl⟩
  unfold mkI;rw [if_pos (by decide)]
theorem some_at {Z : List Pt} {i : Nat} (h : i < Z.length) : ∃ p q,Z[i]? = some (p,q):=⟨Z[i].1,Z[i].2,List.getElem?_eq_getElem h⟩
noncomputable def midL (p q : Pt) : Option Pt:=loop_middle p.1 p.2 q.1 q.2
theorem newCircle_l1 : loop_newCircle_l1 = step1 midL:=rfl
theorem newCircle_eq {T : List Pt} (h : upN midL 9 circ0 = some T) : loop_newCircle = some T:=by
  unfold loop_newCircle
  obtain ⟨Z,h0,hZ⟩:=zeros
  rw [h0,Option.bind_some]
  obtain ⟨p1,q1,e1⟩:=some_at (Z:=Z) (i:=0) (by omega)
  have g1 : getI Z 0 = some (p1,q1):=(getI_cast (i:=0) rfl).trans e1
  obtain ⟨p2,q2,e2⟩:=some_at (Z:=Z.set 0 (67108864,0)) (i:=512) (by rw [List.length_set];omega)
  have g2 : getI (Z.set (0 : Int).toNat (67108864,0)) 512 = some (p2,q2):=(getI_cast (i:=512) rfl).trans e2
  have g3 : getI ((Z.set (0 : Int).toNat (67108864,0)).set (512 : Int).toNat (47453132,47453132)) 0 = some (67108864,0):=by
    refine (getI_cast (i:=0) rfl).trans ?_
    show ((Z.set 0 (67108864,0)).set 512 (47453132,47453132))[0]? = _
    rw [List.getElem?_set_ne (by decide),List.getElem?_set_self (by omega)]
  obtain ⟨p4,q4,e4⟩:=some_at (Z:=(Z.set 0 (67108864,0)).set 512 (47453132,47453132)) (i:=1024) (by rw [List.length_set,List.length_set];omega)
  have g4 : getI ((Z.set (0 : Int).toNat (67108864,0)).set (512 : Int).toNat (47453132,47453132)) 1024 = some (p4,q4):=(getI_cast (i:=1024) rfl).trans e4
  have g5 : loop_direction_turned 67108864 0 = some (0,67108864):=by
    unfold loop_direction_turned
    rw [w64 (by omega)]
    rfl
  have:=circ_start hZ h
  simp only [g1,g2,g3,g5,Option.bind_some,g4,newCircle_l1]
  show (run (step1 midL) ((((Z.set 0 (67108864,0)).set 512 (47453132,47453132)).set 1024 (0,67108864)),256)).bind _ = _
  rw [this]
  rfl
end Go.Rex

open Go Go.Rex
namespace Go.Rex
set_option maxRecDepth 100000
def midF (p q : Pt) : Option Pt:=loop_middleF p.1 p.2 q.1 q.2
theorem midF_le (p q : Pt) : Le (midF p q) (midL p q):=loop_middle_le _ _ _ _
def circT : List Pt:=(upN midF 9 circ0).getD []
theorem circ_isSome : (upN midF 9 circ0).isSome = true:=by decide +kernel
theorem circ_some : upN midF 9 circ0 = some circT:=by
  obtain ⟨T,hT⟩:=Option.isSome_iff_exists.1 circ_isSome
  unfold circT
  rw [hT]
  rfl
theorem circ_len : circT.length = 1025:=by decide +kernel
theorem newCircle_T : loop_newCircle = some circT:=newCircle_eq (upN_le midF_le 9 circ0 _ circ_some)
end Go.Rex
namespace Go.Rex
end Go.Rex

namespace Go.Rex
/-! ### loops that look for the first one of a list -/
def firstOr {α ε : Type} (P : α → Bool) (ex : Nat → α → ε) (en : ε) : Nat → List α → ε
  | _,[]=>en
  | k,x :: t=>if P x = true then ex k x else firstOr P ex en (k + 1) t
theorem run_first_from {α σ ε : Type} {step : σ → Option (σ ⊕ ε)} (st : Nat → σ) (P : α → Bool) (ex : Nat → α → ε) (en : ε) :
    ∀ (xs ys : List α),(∀ (k : Nat) x,(ys ++ xs)[k]? = some x → step (st k) = some (if P x = true then .inr (ex k x) else .inl (st (k + 1)))) → step (st (ys ++ xs).length) = some (.inr en) → run step (st ys.length) = some (firstOr P ex en ys.length xs)
  | [],ys,_,he=>by rw [List.append_nil] at he;exact run_stop he
  | x :: t,ys,hs,he=>by
    have h1:=hs ys.length x (by simp)
    by_cases hp : P x = true
    · rw [if_pos hp] at h1
      rw [run_stop h1,firstOr,if_pos hp]
    · rw [if_neg hp] at h1
      rw [run_next h1,firstOr,if_neg hp]
      have:=run_first_from st P ex en t (ys ++ [x]) (fun k y hk=>hs k y (by simpa using hk)) (by simpa using he)
      simpa using this
theorem run_first {α σ ε : Type} {step : σ → Option (σ ⊕ ε)} (st : Nat → σ) (P : α → Bool) (ex : Nat → α → ε) (en : ε) (xs : List α) (hs : ∀ (k : Nat) x,xs[k]? = some x → step (st k) = some (if P x = true then .inr (ex k x) else .inl (st (k + 1)))) (he : step (st xs.length) = some (.inr en)) {s : σ} (h0 : s = st 0) : run step s = some (firstOr P ex en 0 xs):=by
  subst h0
  exact run_first_from st P ex en xs [] hs he
theorem firstOr_map {α β γ : Type} (f : β → γ) (P : α → Bool) (ex : Nat → α → β) (en : β) : ∀ (xs : List α) k,f (firstOr P ex en k xs) = firstOr P (fun k x=>f (ex k x)) (f en) k xs
  | [],_=>rfl
  | x :: t,k=>by
    unfold firstOr
    split
    · rfl
    · exact firstOr_map f P ex en t (k + 1)
theorem firstOr_all {α β : Type} (P : α → Bool) (c en : β) : ∀ (xs : List α) k,firstOr P (fun _ _=>c) en k xs = if (xs.all fun x=>!P x) = true then en else c
  | [],_=>rfl
  | x :: t,k=>by
    unfold firstOr
    rw [firstOr_all P c en t (k + 1)]
    cases h : P x<;>simp [h]
theorem bind_first {α σ ε β : Type} {step : σ → Option (σ ⊕ ε)} {s : σ} {F : ε → Option β} (st : Nat → σ) (P : α → Bool) (ex : Nat → α → ε) (en : ε) (xs : List α) (K : ε → β) (h0 : s = st 0) (hF : ∀ e, F e = some (K e)) (hs : ∀ (k : Nat) x, xs[k]? = some x → step (st k) = some (if P x = true then .inr (ex k x) else .inl (st (k + 1)))) (he : step (st xs.length) = some (.inr en)) :
    (run step s).bind F = some (firstOr P (fun k x=>K (ex k x)) (K en) 0 xs):=by
  rw [run_first st P ex en xs hs he h0,Option.bind_some,hF,firstOr_map K]
/-! ### numbers -/
theorem wsucc {k : Nat} {n : Nat} (h : k ≤ n) (hn : n ≤ 2 ^ 62) : IntKind.i64.wrap ((k : Int) + 1) = ((k + 1 : Nat) : Int):=by rw [w64 (by omega)];omega
theorem tmod_emod {x y : Int} (hy : 0 < y) : x.tmod y = if x.tmod y < 0 then x % y - y else x % y:=by
  have h1:=Int.tmod_lt_of_pos x hy
  have h2 : -y < x.tmod y:=by
    have h3:=Int.natAbs_tmod x y
    have h4 : (x.tmod y).natAbs < y.natAbs:=by rw [h3];exact Nat.mod_lt _ (by omega)
    omega
  have hdm:=Int.tmod_add_mul_tdiv x y
  split
  · have : x % y = x.tmod y + y := by
      have e : x = (x.tmod y + y) + y * (x.tdiv y - 1):=by rw [Int.mul_sub,Int.mul_one];omega
      rw [e,Int.add_mul_emod_self_left,Int.emod_eq_of_lt (by omega) (by omega)]
      rw [← e]
    omega
  · have : x % y = x.tmod y := by
      conv=>lhs;rw [← hdm]
      rw [Int.add_mul_emod_self_left,Int.emod_eq_of_lt (by omega) (by omega)]
    omega
theorem ediv_le {x y b : Int} (hy : 0 < y) (hb : 0 ≤ b) (h : -b ≤ x ∧ x ≤ b) : -b ≤ x / y ∧ x / y ≤ b:=by
  have h1:=Int.emod_add_mul_ediv x y
  have h2:=Int.emod_nonneg x (show y ≠ 0 by omega)
  have h3:=Int.emod_lt_of_pos x hy
  constructor
  · refine Int.le_ediv_of_mul_le hy ?_
    have : -b * y ≤ -b * 1:=Int.mul_le_mul_of_nonpos_left (by omega) (by omega)
    omega
  · refine Int.ediv_le_of_le_mul hy ?_
    have : b * 1 ≤ b * y:=Int.mul_le_mul_of_nonneg_left (by omega) hb
    omega
theorem tdiv_ediv {x y : Int} (hy : 0 < y) : x.tdiv y = if x.tmod y < 0 then x / y + 1 else x / y:=by
  have hdm:=Int.tmod_add_mul_tdiv x y
  have h1:=Int.emod_add_mul_ediv x y
  have h2:=tmod_emod (x:=x) hy
  refine Int.eq_of_mul_eq_mul_left (show y ≠ 0 by omega) ?_
  split
  · rename_i h
    rw [if_pos h] at h2
    rw [Int.mul_add,Int.mul_one]
    omega
  · rename_i h
    rw [if_neg h] at h2
    omega
end Go.Rex

open Go Go.Rex
namespace Go.Rex
/-! ### numbers -/
theorem lmod_eq {x y : Int} (hy : 0 < y) (hy2 : y ≤ 4611686018427387904) : loop_modulo x y = some (x % y):=by
  unfold loop_modulo
  rw [if_neg (by omega)]
  have hm:=tmod_emod (x:=x) hy
  have h2:=Int.emod_nonneg x (show y ≠ 0 by omega)
  have h3:=Int.emod_lt_of_pos x hy
  have e : (IntKind.i64.wrap (x.tmod y + y)).tmod y = x % y:=by
    rw [w64 (by split at hm<;>omega)]
    rw [Int.tmod_eq_emod_of_nonneg (by split at hm<;>omega)]
    split at hm
    · rw [hm,Int.sub_add_cancel,Int.emod_emod_of_dvd _ (Int.dvd_refl y)]
    · rw [hm,Int.add_emod_right,Int.emod_emod_of_dvd _ (Int.dvd_refl y)]
  rw [e]
theorem lfloor_eq {x y : Int} (hy : 0 < y) (hy2 : y ≤ 4611686018427387904) (hx : -4611686018427387904 ≤ x ∧ x ≤ 9223372036854775807) : loop_floor x y = some (x / y):=by
  unfold loop_floor
  rw [lmod_eq hy hy2,Option.bind_some,if_neg (by omega)]
  have h2:=Int.emod_nonneg x (show y ≠ 0 by omega)
  have h3:=Int.emod_lt_of_pos x hy
  have h4:=Int.emod_add_mul_ediv x y
  rw [w64 (x:=x - x % y) (by omega),show x - x % y = y * (x / y) by omega,Int.mul_tdiv_cancel_left _ (by omega)]
  have:=ediv_le (x:=x) (b:=9223372036854775807) hy (by omega) (by omega)
  rw [w64 (by omega)]
theorem bfloor_eq {x y : Int} (hy : 0 < y) (hx : -9223372036854775807 ≤ x ∧ x ≤ 9223372036854775807) : base_Floor x y = some (x / y):=by
  unfold base_Floor
  rw [if_neg (by omega)]
  have hb:=ediv_le (x:=x) (b:=9223372036854775807) hy (by omega) (by omega)
  have ht:=tdiv_ediv (x:=x) hy
  by_cases h : x.tmod y < 0
  · rw [if_pos h] at ht
    have hb2 : x < 0:=by
      rcases Int.lt_or_le x 0 with hx|hx
      · exact hx
      · have:=Int.tmod_nonneg y hx;omega
    have hb3 : x / y < 0:=Int.ediv_neg_of_neg_of_pos hb2 hy
    rw [if_pos (by simpa using h),ht,w64 (x:=x / y + 1) (by omega),w64 (by omega)]
    congr 1
    omega
  · rw [if_neg h] at ht
    rw [if_neg (by simpa using h),ht,w64 (by omega)]
theorem half_eq {y : Int} (hy : 0 < y) (hy2 : y ≤ 4611686018427387904) : IntKind.i64.wrap (y.tdiv 2) = y / 2:=by
  have : y.tdiv 2 = y / 2:=Int.tdiv_eq_ediv_of_nonneg (by omega)
  rw [this,w64 (by omega)]
theorem lceil_eq {x y : Int} (hy : 0 < y) (hy2 : y ≤ 1152921504606846976) (hx : -2305843009213693952 ≤ x ∧ x ≤ 2305843009213693952) : loop_ceiling x y = some (-((-x) / y)):=by
  unfold loop_ceiling
  have:=ediv_le (x:=-x) (b:=2305843009213693952) hy (by omega) (by omega)
  rw [w64 (x:=0 - x) (by omega),Int.zero_sub,lfloor_eq hy (by omega) (by omega),Option.bind_some,w64 (by omega),Int.zero_sub]
theorem bceil_eq {x y : Int} (hy : 0 < y) (hy2 : y ≤ 1152921504606846976) (hx : -2305843009213693952 ≤ x ∧ x ≤ 2305843009213693952) : base_Ceil x y = some (-((-x) / y)):=by
  unfold base_Ceil
  have:=ediv_le (x:=-x) (b:=2305843009213693952) hy (by omega) (by omega)
  rw [w64 (x:=0 - x) (by omega),Int.zero_sub,bfloor_eq hy (by omega),Option.bind_some,w64 (by omega),Int.zero_sub]
def absI (x : Int) : Int:=if -x > x then -x else x
theorem lsize_eq {x : Int} (hx : -9223372036854775807 ≤ x ∧ x ≤ 9223372036854775807) : loop_size x = some (absI x):=by
  unfold loop_size absI
  rw [w64 (x:=0 - x) (by omega),Int.zero_sub]
theorem bsize_eq {x : Int} (hx : -9223372036854775807 ≤ x ∧ x ≤ 9223372036854775807) : base_Size x = some (absI x):=by
  unfold base_Size absI
  rw [w64 (x:=0 - x) (by omega),Int.zero_sub]
theorem within_eq (a b c : Int) : base_Within a b c = some (decide (b ≤ a ∧ a ≤ c)):=by
  unfold base_Within
  by_cases h1 : b ≤ a<;>by_cases h2 : a ≤ c<;>simp [h1,h2]
end Go.Rex

open Go Go.Rex
namespace Go.Rex
/-! ### which loops are right -/
theorem copyI {l : List Int} (h : l.length ≤ 1048576) : base_CopyInts l = some l:=by
  unfold base_CopyInts appI
  rw [if_pos (by simp;omega)]
  simp
theorem copyL {l : List Int} (g : Int) (h : l.length ≤ 1048576) : ref08_Copy l g = some (l,g):=by
  unfold ref08_Copy;rw [copyI h];rfl
theorem refuseR (b : Bool) (e : Int) : loop_refuse_c1_11f9 b e = some (if b = true then e else 0):=by
  unfold loop_refuse_c1_11f9;cases b<;>rfl
theorem withinR (n a b : Int) : loop_within n a b = some (decide (n < a ∨ n > b),2):=by
  unfold loop_within loop_refuse
  by_cases h : n < a
  · simp [h]
  · simp [h]
theorem countedR (n m : Int) : loop_counted_c1_b585 n m = some (if n = 0 then 10 else if n > m then 8 else 0):=by
  unfold loop_counted_c1_b585 loop_refuse loop_firstError_60c4
  simp only [Option.bind_some,refuseR]
  by_cases h1 : n = 0
  · simp [h1]
  · by_cases h2 : n > m<;>simp [h1,h2]
def badTap (a b : Int) (x : Int) : Bool:=decide (x < a ∨ x > b)
theorem eachR {l : List Int} (a b : Int) (h : l.length ≤ 1048576) : loop_each_c1_2344 (l.length : Int) l a b = some (if (l.all fun x=>!badTap a b x) = true then 0 else 2):=by
  unfold loop_each_c1_2344
  have hb : ∀ (k : Nat) x,l[k]? = some x → loop_each_c1_2344_l1 (l.length : Int) l a b (k : Int) = some (if badTap a b x = true then .inr (.inl 2) else .inl ((k + 1 : Nat) : Int)):=by
    intro k x hx
    have hk:=(List.getElem?_eq_some_iff.1 hx).1
    unfold loop_each_c1_2344_l1 loop_allWithin_c1_ea58
    have hg : getI l (k : Int) = some x:=by unfold getI;rw [if_pos (by omega)];exact hx
    rw [if_pos (by simp only [decide_eq_true_eq];omega)]
    simp only [hg,withinR,refuseR,Option.bind_some]
    by_cases hbad : x < a ∨ x > b
    · simp [hbad,badTap]
    · simp [hbad,badTap]
      exact wsucc (n:=l.length) (by omega) (by omega)
  refine (bind_first (s:=(0 : Int)) (fun k=>(k : Int)) (badTap a b) (fun _ _=>.inl 2) (.inr ()) l (fun e=>match e with|.inl v=>v|.inr _=>0) rfl (fun e=>by cases e<;>rfl) hb (by
    unfold loop_each_c1_2344_l1
    rw [if_neg (by simp)])).trans ?_
  exact congrArg some (firstOr_all (badTap a b) (2 : Int) 0 l 0)
def chkL (l : List Int) (g : Int) : Int :=
  if l.length = 0 then 10 else if l.length > 32 then 8 else if l.head? ≠ some 0 then 11 else if (l.all fun x=>!badTap (-16384) 16384 x) = true then (if 0 ≤ g ∧ g ≤ 10000 then 0 else 2) else 2
theorem checkR {l : List Int} (g : Int) (h : l.length ≤ 1048576) : loop_feedback_check l g = some (chkL l g):=by
  unfold loop_feedback_check loop_counted loop_allWithin loop_each_2037 loop_firstError_2d9c
  simp only [Option.bind_some,withinR,countedR,refuseR,eachR _ _ h]
  unfold chkL
  cases l with
  | nil=>rfl
  | cons x t =>
    have e0 : ¬ (x :: t).length = 0:=by simp
    have hc : loop_feedback_check_c1_431b (x :: t) g = some (if x ≠ 0 then 11 else 0):=by
      unfold loop_feedback_check_c1_431b loop_refuse
      have : getI (x :: t) 0 = some x:=rfl
      simp only [this,Option.bind_some,refuseR]
      by_cases hx : x = 0<;>simp [hx]
    generalize hn : (x :: t).length = n at *
    rw [if_neg e0]
    have e1 : ¬ ((n : Nat) : Int) = 0:=by omega
    by_cases h2 : n > 32
    · have e2 : ((n : Nat) : Int) > 32:=by omega
      simp only [e1,e2,h2,if_true,if_false]
      rfl
    · have e2 : ¬ ((n : Nat) : Int) > 32:=by omega
      simp only [e1,e2,h2,if_false,hc,Option.bind_some,List.head?_cons]
      by_cases hx : x = 0
      · subst hx
        by_cases ha : ((0 :: t).all fun x=>!badTap (-16384) 16384 x) = true
        · simp only [ha,if_true]
          by_cases hg : 0 ≤ g ∧ g ≤ 10000
          · have : ¬ (g < 0 ∨ g > 10000):=by omega
            simp [hg,this]
          · have : g < 0 ∨ g > 10000:=by omega
            simp [hg,this]
        · simp [ha]
      · simp [hx]
theorem refCheckR {l : List Int} (g : Int) (h : l.length ≤ 1048576) : ref08_CheckLoop l g = some (chkL l g):=by
  unfold ref08_CheckLoop chkL
  by_cases h0 : l.length = 0
  · rw [if_pos (by simp [h0]),if_pos h0]
  · rw [if_neg (by simp only [decide_eq_true_eq];omega),if_neg h0]
    by_cases h2 : l.length > 32
    · rw [if_pos (by simp only [decide_eq_true_eq];omega),if_pos h2]
    · rw [if_neg (by simp only [decide_eq_true_eq];omega),if_neg h2]
      cases l with
      | nil=>simp at h0
      | cons x t =>
        have hg0 : getI (x :: t) 0 = some x:=rfl
        rw [hg0,Option.bind_some,List.head?_cons]
        by_cases hx : x = 0
        · subst hx
          rw [if_neg (by simp),if_neg (by simp)]
          have hb : ∀ (k : Nat) y,(0 :: t)[k]? = some y → ref08_CheckLoop_l1 (0 :: t) (k : Int) = some (if badTap (-16384) 16384 y = true then .inr (.inl ()) else .inl ((k + 1 : Nat) : Int)):=by
            intro k y hy
            have hk:=(List.getElem?_eq_some_iff.1 hy).1
            unfold ref08_CheckLoop_l1
            have hg : getI (0 :: t) (k : Int) = some y:=by unfold getI;rw [if_pos (by omega)];exact hy
            rw [if_pos (by simp only [decide_eq_true_eq];omega)]
            simp only [hg,within_eq,Option.bind_some]
            by_cases hbad : y < -16384 ∨ y > 16384
            · have : ¬ (-16384 ≤ y ∧ y ≤ 16384):=by omega
              simp [hbad,badTap,this]
            · have : -16384 ≤ y ∧ y ≤ 16384:=by omega
              simp [hbad,badTap,this]
              exact wsucc (n:=(0 :: t).length) (by omega) (by omega)
          refine (bind_first (s:=(0 : Int)) (fun k=>(k : Int)) (badTap (-16384) 16384) (fun _ _=>.inl ()) (.inr ()) (0 :: t) (fun e=>match e with|.inl _=>2|.inr _=>if 0 ≤ g ∧ g ≤ 10000 then 0 else 2) rfl (fun e=>by
            cases e with
            | inl _=>rfl
            | inr _ =>
              simp only [within_eq,Option.bind_some,decide_eq_true_eq]
              by_cases hg : 0 ≤ g ∧ g ≤ 10000<;>simp [hg]) hb (by
            unfold ref08_CheckLoop_l1
            rw [if_neg (by simp)])).trans ?_
          exact congrArg some (firstOr_all (badTap (-16384) 16384) (2 : Int) (if 0 ≤ g ∧ g ≤ 10000 then 0 else 2) (0 :: t) 0)
        · rw [if_pos (by simpa using hx),if_pos (by simpa using hx)]
end Go.Rex

open Go Go.Rex
namespace Go.Rex
/-- a loop over a list that gathers -/
theorem run_fold {α β σ ε : Type} {step : σ → Option (σ ⊕ ε)} (st : Nat → β → σ) (ex : β → ε) (f : β → α → β) (Inv : Nat → β → Prop) (l : List α)
    (hs : ∀ (k : Nat) (x : α) (b : β),l[k]? = some x → Inv k b → step (st k b) = some (.inl (st (k + 1) (f b x))) ∧ Inv (k + 1) (f b x)) (he : ∀ b,Inv l.length b → step (st l.length b) = some (.inr (ex b))) {b0 : β} (h0 : Inv 0 b0) :
    run step (st 0 b0) = some (ex (l.foldl f b0)) ∧ Inv l.length (l.foldl f b0):=by
  suffices H : ∀ (t : List α) (k : Nat) (b : β),l.drop k = t → k ≤ l.length → Inv k b → run step (st k b) = some (ex (t.foldl f b)) ∧ Inv l.length (t.foldl f b) from H l 0 b0 rfl (Nat.zero_le _) h0
  intro t
  induction t with
  | nil =>
    intro k b hk hkl hI
    have : k = l.length:=by
      have:=congrArg List.length hk
      simp at this
      omega
    subst this
    exact ⟨run_stop (he b hI),hI⟩
  | cons x t ih =>
    intro k b hk hkl hI
    have hx : l[k]? = some x:=by
      have:=congrArg (fun l=>l[0]?) hk
      simpa using this
    have hlt:=(List.getElem?_eq_some_iff.1 hx).1
    obtain ⟨h1,h2⟩:=hs k x b hx hI
    have ht : l.drop (k + 1) = t:=by
      have:=congrArg List.tail hk
      simpa using this
    obtain ⟨h3,h4⟩:=ih (k + 1) (f b x) ht (by omega) h2
    exact ⟨by rw [run_next h1,h3];rfl,h4⟩
theorem size_l1 (l : List Int) : loop_feedback_size_l1 l = ref08_SizeOf_l1 l:=rfl
theorem chk_parts {l : List Int} {g : Int} (h : chkL l g = 0) : 1 ≤ l.length ∧ l.length ≤ 32 ∧ (∀ x ∈ l,-16384 ≤ x ∧ x ≤ 16384) ∧ 0 ≤ g ∧ g ≤ 10000 ∧ l.head? = some 0:=by
  unfold chkL at h
  split at h
  · cases h
  · split at h
    · cases h
    · split at h
      · cases h
      · split at h
        · split at h
          · rename_i h1 h2 h3 h4 h5
            refine ⟨by omega,by omega,fun x hx=>?_,h5.1,h5.2,by simpa using h3⟩
            have:=List.all_eq_true.1 h4 x hx
            simp only [badTap,Bool.not_eq_true',decide_eq_false_iff_not] at this
            omega
          · cases h
        · cases h
def sumA (l : List Int) : Int:=l.foldl (fun s x=>s + absI x) 0
theorem absI_le {x b : Int} (h : -b ≤ x ∧ x ≤ b) : 0 ≤ absI x ∧ absI x ≤ b:=by unfold absI;split<;>omega
theorem sum_run {l : List Int} (hl : l.length ≤ 1048576) (hx : ∀ x ∈ l,-16384 ≤ x ∧ x ≤ 16384) : run (ref08_SizeOf_l1 l) (0,0) = some (sumA l) ∧ 0 ≤ sumA l ∧ sumA l ≤ l.length * 16384:=by
  have:=run_fold (step:=ref08_SizeOf_l1 l) (fun k s=>(s,(k : Int))) (fun s=>s) (fun s x=>s + absI x) (fun k s=>0 ≤ s ∧ s ≤ k * 16384) l (fun k x b hk hI=>by
    obtain ⟨h1,h2⟩:=hx x (List.mem_of_getElem? hk)
    obtain ⟨a1,a2⟩:=absI_le (x:=x) (b:=16384) ⟨h1,h2⟩
    have hlt:=(List.getElem?_eq_some_iff.1 hk).1
    refine ⟨?_,by omega,by omega⟩
    unfold ref08_SizeOf_l1
    have hg : getI l (k : Int) = some x:=by unfold getI;rw [if_pos (by omega)];exact hk
    simp only
    rw [if_pos (by simp only [decide_eq_true_eq];omega),hg,Option.bind_some,bsize_eq (by omega),Option.bind_some,w64 (x:=b + absI x) (by omega),wsucc (n:=l.length) (by omega) (by omega)]) (fun b hI=>by
    unfold ref08_SizeOf_l1
    simp only
    rw [if_neg (by simp)]) (b0:=0) ⟨Int.le_refl _,by simp⟩
  exact ⟨this.1,this.2.1,this.2.2⟩
theorem ints_refl {l : List Int} (h : l.length ≤ 1048576) : base_Ints l l = some true:=by
  unfold base_Ints
  rw [if_neg (by simp)]
  have:=run_fold (step:=base_Ints_l1 l l) (fun k (_ : Unit)=>(k : Int)) (fun _=>(.inr () : Unit ⊕ Unit)) (fun s _=>s) (fun _ _=>True) l (fun k x b hk _=>by
    have hlt:=(List.getElem?_eq_some_iff.1 hk).1
    refine ⟨?_,trivial⟩
    unfold base_Ints_l1
    have hg : getI l (k : Int) = some x:=by unfold getI;rw [if_pos (by omega)];exact hk
    rw [if_pos (by simp only [decide_eq_true_eq];omega),hg,Option.bind_some,Option.bind_some,if_neg (by simp),wsucc (n:=l.length) (by omega) (by omega)]) (fun b _=>by
    unfold base_Ints_l1
    rw [if_neg (by simp)]) (b0:=()) trivial
  show ((run (base_Ints_l1 l l) (((0 : Nat) : Int))).bind _) = _
  rw [this.1]
  rfl
theorem mul_le_nn {a b A B : Int} (ha : 0 ≤ a ∧ a ≤ A) (hb : 0 ≤ b ∧ b ≤ B) : 0 ≤ a * b ∧ a * b ≤ A * B:=⟨Int.mul_nonneg ha.1 hb.1,Int.mul_le_mul ha.2 hb.2 hb.1 (by omega)⟩
end Go.Rex

open Go Go.Rex
namespace Go.Rex
/-! ### unit numbers -/
def turn (d : Int × Int) : Int × Int:=(-d.2,d.1)
def turnN : Nat → Int × Int → Int × Int
  | 0,d=>d
  | k + 1,d=>turnN k (turn d)
def Sm (B : Int) (d : Int × Int) : Prop:=-B ≤ d.1 ∧ d.1 ≤ B ∧ -B ≤ d.2 ∧ d.2 ≤ B
theorem Sm.turn {B : Int} {d : Int × Int} (h : Sm B d) : Sm B (turn d):=by
  obtain ⟨h1,h2,h3,h4⟩:=h
  exact ⟨by simp only [Rex.turn];omega,by simp only [Rex.turn];omega,h1,h2⟩
theorem Sm.turnN {B : Int} : ∀ {k : Nat} {d : Int × Int},Sm B d → Sm B (turnN k d)
  | 0,d,h=>h
  | k + 1,d,h=>Sm.turnN (k:=k) (d:=Rex.turn d) (Sm.turn h)
end Go.Rex

open Go Go.Rex
namespace Go.Rex
set_option maxRecDepth 100000
end Go.Rex

open Go Go.Rex
namespace Go.Rex
set_option maxRecDepth 100000
/-! ### the table of the reference is the circle -/
end Go.Rex

open Go Go.Rex
namespace Go.Rex
set_option maxRecDepth 100000
end Go.Rex

open Go Go.Rex
namespace Go.Rex
set_option maxRecDepth 100000
/-! ### values -/
theorem mul_bd {a b A B : Int} (ha : -A ≤ a ∧ a ≤ A) (hb : -B ≤ b ∧ b ≤ B) : -(A * B) ≤ a * b ∧ a * b ≤ A * B:=by
  have h1:=Int.mul_nonneg (show 0 ≤ A - a by omega) (show 0 ≤ B + b by omega)
  have h2:=Int.mul_nonneg (show 0 ≤ A + a by omega) (show 0 ≤ B - b by omega)
  have h3:=Int.mul_nonneg (show 0 ≤ A - a by omega) (show 0 ≤ B - b by omega)
  have h4:=Int.mul_nonneg (show 0 ≤ A + a by omega) (show 0 ≤ B + b by omega)
  rw [Int.sub_mul,Int.mul_add,Int.mul_add] at h1
  rw [Int.add_mul,Int.mul_sub,Int.mul_sub] at h2
  rw [Int.sub_mul,Int.mul_sub,Int.mul_sub] at h3
  rw [Int.add_mul,Int.mul_add,Int.mul_add] at h4
  omega
end Go.Rex

open Go Go.Rex
namespace Go.Rex
/-! ### echoes -/
theorem lfloor_wide {x y : Int} (hy : 0 < y) (hy2 : y ≤ 2147483648) (hx : -9223372030000000000 ≤ x ∧ x ≤ 9223372036854775807) : loop_floor x y = some (x / y):=by
  unfold loop_floor
  rw [lmod_eq hy (by omega),Option.bind_some,if_neg (by omega)]
  have h2:=Int.emod_nonneg x (show y ≠ 0 by omega)
  have h3:=Int.emod_lt_of_pos x hy
  have h4:=Int.emod_add_mul_ediv x y
  rw [w64 (x:=x - x % y) (by omega),show x - x % y = y * (x / y) by omega,Int.mul_tdiv_cancel_left _ (by omega)]
  have:=ediv_le (x:=x) (b:=9223372036854775807) hy (by omega) (by omega)
  rw [w64 (by omega)]
theorem lnear_wide {x : Int} (hx : -9000000000000000000 ≤ x ∧ x ≤ 9000000000000000000) : loop_nearest x 16384000 = some ((x + 8192000) / 16384000):=by
  unfold loop_nearest
  rw [half_eq (by decide) (by decide),w64 (by omega),lfloor_wide (by decide) (by decide) (by omega)]
  rfl
theorem bround_wide {x : Int} (hx : -9000000000000000000 ≤ x ∧ x ≤ 9000000000000000000) : ref08_round x 16384000 = some ((x + 8192000) / 16384000):=by
  unfold ref08_round
  rw [half_eq (by decide) (by decide),w64 (by omega),bfloor_eq (by decide) (by omega)]
  rfl
theorem foldA (t : List Int) : ∀ c : Int,t.foldl (fun s x=>s + absI x) c = c + sumA t:=by
  unfold sumA
  induction t with
  | nil=>intro c;simp
  | cons x t ih=>intro c;rw [List.foldl_cons,List.foldl_cons,ih,ih (0 + absI x)];omega
theorem sumA_app (a b : List Int) : sumA (a ++ b) = sumA a + sumA b:=by
  unfold sumA
  rw [List.foldl_append,foldA]
  rfl
theorem absI_nn (x : Int) : 0 ≤ absI x:=by unfold absI;split<;>omega
theorem sumA_nn (l : List Int) : 0 ≤ sumA l:=by
  induction l with
  | nil=>exact Int.le_refl _
  | cons x t ih =>
    have:=sumA_app [x] t
    have h2 : sumA [x] = absI x:=by unfold sumA;simp
    have:=absI_nn x
    rw [show x :: t = [x] ++ t from rfl]
    omega
theorem sumA_take (l : List Int) (k : Nat) : sumA (l.take k) ≤ sumA l:=by
  have:=sumA_app (l.take k) (l.drop k)
  rw [List.take_append_drop] at this
  have:=sumA_nn (l.drop k)
  omega
theorem sumA_succ {l : List Int} {k : Nat} {x : Int} (h : l[k]? = some x) : sumA (l.take (k + 1)) = sumA (l.take k) + absI x:=by
  have hk:=List.getElem?_eq_some_iff.1 h
  rw [List.take_add_one,h,sumA_app]
  congr 1
  unfold sumA;simp
theorem absI_mul {x y B : Int} (hB : -B ≤ y ∧ y ≤ B) : -(absI x * B) ≤ x * y ∧ x * y ≤ absI x * B:=by
  have hx : -absI x ≤ x ∧ x ≤ absI x:=by unfold absI;split<;>omega
  exact mul_bd hx hB
theorem next_l (l b : List Int) : ref08_Echoes_l2 l b (b.length : Int) = loop_feedback_nextEcho_l1 l b:=rfl
theorem dot_run {l b : List Int} {M : Int} (hl : l.length ≤ 32) (hx : ∀ x ∈ l, -16384 ≤ x ∧ x ≤ 16384) (h0 : l.head? = some 0) (hb : ∀ x ∈ b, -M ≤ x ∧ x ≤ M) (hbl : b.length ≤ 1000) (hM : 0 ≤ M ∧ M ≤ 1000000000) :
    ∃ S,run (loop_feedback_nextEcho_l1 l b) (0,1) = some S ∧ -(sumA l * M) ≤ S ∧ S ≤ sumA l * M:=by
  have key : ∀ n (k : Nat) (s : Int),l.length - k = n → 1 ≤ k → -(sumA (l.take k) * M) ≤ s → s ≤ sumA (l.take k) * M → ∃ S,run (loop_feedback_nextEcho_l1 l b) (s,(k : Int)) = some S ∧ -(sumA l * M) ≤ S ∧ S ≤ sumA l * M:=by
    intro n
    induction n with
    | zero =>
      intro k s hk h1 h2 h3
      refine ⟨s,run_stop (by unfold loop_feedback_nextEcho_l1;simp only;rw [if_neg (by simp only [decide_eq_true_eq];omega)]),?_,?_⟩
      all_goals
        have:=Int.mul_le_mul_of_nonneg_right (sumA_take l k) hM.1
        omega
    | succ n ih =>
      intro k s hk h1 h2 h3
      have hsl : sumA l ≤ 524288:=by have:=(sum_run (by omega) hx).2.2;omega
      have hmm:=Int.mul_le_mul_of_nonneg_right (sumA_take l k) hM.1
      have hm2:=mul_le_nn (a:=sumA l) (b:=M) (A:=524288) (B:=1000000000) ⟨sumA_nn l,hsl⟩ hM
      by_cases hc : k ≤ b.length
      · obtain ⟨x,hxk⟩ : ∃ x,l[k]? = some x:=⟨l[k]'(by omega),List.getElem?_eq_getElem (by omega)⟩
        obtain ⟨y,hyk⟩ : ∃ y,b[b.length - k]? = some y:=⟨b[b.length - k]'(by omega),List.getElem?_eq_getElem (by omega)⟩
        have bx:=hx x (List.mem_of_getElem? hxk)
        have by':=hb y (List.mem_of_getElem? hyk)
        have m1:=absI_mul (x:=x) by'
        have m2:=mul_bd bx by'
        have m3 : 16384 * M ≤ 16384000000000:=by omega
        have e:=sumA_succ hxk
        have e2 : sumA (l.take (k + 1)) * M = sumA (l.take k) * M + absI x * M:=by rw [e,Int.add_mul]
        have st : loop_feedback_nextEcho_l1 l b (s,(k : Int)) = some (.inl (s + x * y,((k + 1 : Nat) : Int))):=by
          unfold loop_feedback_nextEcho_l1
          have g1 : getI l (k : Int) = some x:=by unfold getI;rw [if_pos (by omega)];exact hxk
          have g2 : getI b (IntKind.i64.wrap ((b.length : Int) - (k : Int))) = some y:=by
            rw [w64 (by omega)]
            unfold getI
            rw [if_pos (by omega),show ((b.length : Int) - (k : Int)).toNat = b.length - k by omega]
            exact hyk
          simp only
          rw [if_pos (by simp only [decide_eq_true_eq];omega),if_pos (by simp only [decide_eq_true_eq];omega),g1,Option.bind_some,g2,Option.bind_some,w64 (x:=x * y) (by omega),w64 (x:=s + x * y) (by omega),wsucc (n:=l.length) (by omega) (by omega)]
        rw [run_next st]
        exact ih (k + 1) _ (by omega) (by omega) (by omega) (by omega)
      · refine ⟨s,run_stop (by unfold loop_feedback_nextEcho_l1;simp only;rw [if_pos (by simp only [decide_eq_true_eq];omega),if_neg (by simp only [decide_eq_true_eq];omega)]),by omega,by omega⟩
  have z : sumA (l.take 1) = 0:=by
    cases l with
    | nil=>rfl
    | cons x t=>simp only [List.head?_cons,Option.some.injEq] at h0;subst h0;rfl
  exact key _ 1 0 rfl (Nat.le_refl _) (by rw [z];simp) (by rw [z];simp)
def cutE (r : Int) : Int:=if 1000000000 < (if (-1000000000) > r then (-1000000000) else r) then 1000000000 else (if (-1000000000) > r then (-1000000000) else r)
theorem cutE_eq (r : Int) : (if (if r < 1000000000 then r else 1000000000) > (-1000000000) then (if r < 1000000000 then r else 1000000000) else (-1000000000)) = cutE r:=by
  unfold cutE
  repeat' split
  all_goals omega
theorem cutE_bd (r : Int) : -1000000000 ≤ cutE r ∧ cutE r ≤ 1000000000:=by
  unfold cutE
  repeat' split
  all_goals omega
theorem cutE_le {r B : Int} (h : -B ≤ r ∧ r ≤ B) (hB : 0 ≤ B) : -B ≤ cutE r ∧ cutE r ≤ B:=by
  unfold cutE
  repeat' split
  all_goals omega
noncomputable def nx (l : List Int) (g : Int) (b : List Int) : Int:=cutE ((((run (loop_feedback_nextEcho_l1 l b) (0,1)).getD 0) * g + 8192000) / 16384000)
theorem nxR {l b : List Int} {g M : Int} (h : chkL l g = 0) (hb : ∀ x ∈ b, -M ≤ x ∧ x ≤ M) (hbl : b.length ≤ 1000) (hM : 0 ≤ M ∧ M ≤ 1000000000) :
    loop_feedback_nextEcho l g b = some (nx l g b) ∧ (∃ S,run (loop_feedback_nextEcho_l1 l b) (0,1) = some S ∧ ref08_round (IntKind.i64.wrap (S * g)) 16384000 = some ((S * g + 8192000) / 16384000) ∧ cutE ((S * g + 8192000) / 16384000) = nx l g b) ∧ -((sumA l * g * M + 8192000) / 16384000) ≤ nx l g b ∧ nx l g b ≤ (sumA l * g * M + 8192000) / 16384000:=by
  obtain ⟨h1,h2,h3,h4,h5,h6⟩:=chk_parts h
  obtain ⟨S,r,s1,s2⟩:=dot_run h2 h3 h6 hb hbl hM
  have hsl : sumA l ≤ 524288:=by have:=(sum_run (by omega) h3).2.2;omega
  have hm2:=mul_le_nn (a:=sumA l) (b:=M) (A:=524288) (B:=1000000000) ⟨sumA_nn l,hsl⟩ hM
  have hm3:=mul_bd (a:=S) (b:=g) (A:=sumA l * M) (B:=g) ⟨s1,s2⟩ (by omega)
  have hm4:=mul_le_nn (a:=sumA l * M) (b:=g) (A:=524288000000000) (B:=10000) (by omega) ⟨h4,h5⟩
  have e : sumA l * M * g = sumA l * g * M:=by rw [Int.mul_assoc,Int.mul_comm M,← Int.mul_assoc]
  have hn : nx l g b = cutE ((S * g + 8192000) / 16384000):=by unfold nx;rw [r];rfl
  refine ⟨?_,⟨S,r,?_,hn.symm⟩,?_⟩
  · unfold loop_feedback_nextEcho
    rw [r,Option.bind_some,w64 (x:=S * g) (by omega),lnear_wide (by omega),Option.bind_some,hn]
    rfl
  · rw [w64 (x:=S * g) (by omega),bround_wide (by omega)]
  · rw [hn,← e]
    generalize sumA l * M * g = t at *
    generalize S * g = u at *
    exact cutE_le (by omega) (by omega)
noncomputable def ech (l : List Int) (g h : Int) : Nat → List Int
  | 0=>[h]
  | n + 1=>ech l g h n ++ [nx l g (ech l g h n)]
theorem ech_len (l : List Int) (g h : Int) : ∀ n,(ech l g h n).length = n + 1
  | 0=>rfl
  | n + 1=>by simp [ech,ech_len l g h n]
theorem ech_all {l : List Int} {g h : Int} (hh : -32767 ≤ h ∧ h ≤ 32767) : ∀ n,∀ x ∈ ech l g h n,-1000000000 ≤ x ∧ x ≤ 1000000000
  | 0=>by intro x hx;simp only [ech,List.mem_singleton] at hx;omega
  | n + 1=>by
    intro x hx
    rcases List.mem_append.1 hx with hx|hx
    · exact ech_all hh n x hx
    · simp only [List.mem_singleton] at hx
      subst hx
      exact cutE_bd _
noncomputable def ecs (l : List Int) (g h : Int) : Nat → List Int
  | 0=>[]
  | n + 1=>ech l g h n
theorem ecs_len (l : List Int) (g h : Int) : ∀ n,(ecs l g h n).length = n
  | 0=>rfl
  | n + 1=>ech_len l g h n
theorem ech_take (l : List Int) (g h : Int) {m n : Nat} (hmn : m ≤ n) : (ech l g h n).take (m + 1) = ech l g h m:=by
  induction n with
  | zero => have : m = 0 := by omega
            subst this;rfl
  | succ n ih =>
    rcases Nat.lt_or_ge n m with hc|hc
    · have : m = n + 1:=by omega
      subst this
      rw [List.take_of_length_le (by rw [ech_len];omega)]
    · show (ech l g h n ++ [_]).take (m + 1) = _
      rw [List.take_append_of_le_length (by rw [ech_len];omega),ih hc]
theorem ecs_take (l : List Int) (g h : Int) {m n : Nat} (hmn : m ≤ n) : (ecs l g h n).take m = ecs l g h m:=by
  cases m with
  | zero=>rfl
  | succ m =>
    cases n with
    | zero=>omega
    | succ n=>exact ech_take l g h (by omega)
theorem echR {l : List Int} {g h : Int} {c : Nat} (hk : chkL l g = 0) (hh : -32767 ≤ h ∧ h ≤ 32767) (hc : c ≤ 200) : loop_feedback_echoes l g h (c : Int) = some (ech l g h (c - 1),c):=by
  unfold loop_feedback_echoes
  have:=run_count (step:=loop_feedback_echoes_l1 l g (c : Int)) (ech l g h) (n:=c - 1) (e:=ech l g h (c - 1)) (fun k hkc=>by
    unfold loop_feedback_echoes_l1
    rw [if_pos (by rw [ech_len];simp only [decide_eq_true_eq];omega),(nxR hk (ech_all hh k) (by rw [ech_len];omega) (by decide)).1,Option.bind_some]
    unfold appI
    rw [if_pos (by rw [ech_len];simp only [List.length_singleton];omega),Option.bind_some]
    rfl) (by
    unfold loop_feedback_echoes_l1
    rw [if_neg (by rw [ech_len];simp only [decide_eq_true_eq];omega)])
  rw [show ([h] : List Int) = ech l g h 0 from rfl,this,Option.bind_some]
  unfold cutI
  rw [if_pos (by rw [ech_len];omega)]
  rfl
theorem ech_ecs (l : List Int) (g h : Int) (c : Nat) : (ech l g h (c - 1)).take c = ecs l g h c:=by
  cases c with
  | zero=>rfl
  | succ c=>exact ech_take l g h (Nat.le_refl _)
theorem refEchR {l : List Int} {g h : Int} {c : Nat} (hk : chkL l g = 0) (hh : -32767 ≤ h ∧ h ≤ 32767) (hc : c ≤ 200) : ref08_Echoes l g h (c : Int) = some (ecs l g h c):=by
  unfold ref08_Echoes
  have:=run_count (step:=ref08_Echoes_l1 l g h (c : Int)) (fun k=>(ecs l g h k,(k : Int))) (n:=c) (e:=ecs l g h c) (fun k hkc=>by
    unfold ref08_Echoes_l1
    simp only
    rw [if_pos (by simp only [decide_eq_true_eq];omega)]
    cases k with
    | zero =>
      rw [if_pos (by simp)]
      rfl
    | succ k =>
      rw [if_neg (by simp only [decide_eq_true_eq];omega)]
      obtain ⟨_,⟨S,s1,s2,s3⟩,_⟩:=nxR (g:=g) hk (ech_all (l:=l) (g:=g) hh k) (by rw [ech_len];omega) (by decide)
      have e : ref08_Echoes_l2 l (ecs l g h (k + 1)) ((k + 1 : Nat) : Int) = loop_feedback_nextEcho_l1 l (ech l g h k):=by
        have:=next_l l (ech l g h k)
        rw [ech_len] at this
        exact this
      rw [e,s1,Option.bind_some,s2,Option.bind_some,cutE_eq,s3]
      unfold appI
      rw [if_pos (by rw [ecs_len];simp only [List.length_singleton];omega),Option.bind_some,wsucc (n:=c) (by omega) (by omega)]
      rfl) (by
    unfold ref08_Echoes_l1
    simp only
    rw [if_neg (by simp)])
  rw [show (([] : List Int),(0 : Int)) = (ecs l g h 0,((0 : Nat) : Int)) from rfl,this]
  rfl
end Go.Rex

open Go Go.Rex
namespace Go.Rex
noncomputable def szE (l : List Int) (g : Int) : Int:=-((-(sumA l * g)) / 16384)
theorem szR {l : List Int} {g : Int} (h : chkL l g = 0) : loop_feedback_size l g = some (szE l g) ∧ ref08_SizeOf l g = some (szE l g) ∧ 0 ≤ szE l g ∧ szE l g ≤ 320000 ∧ sumA l * g ≤ 16384 * szE l g:=by
  obtain ⟨h1,h2,h3,h4,h5,_⟩:=chk_parts h
  obtain ⟨r1,r2,r3⟩:=sum_run (by omega) h3
  have hm:=mul_le_nn (a:=sumA l) (b:=g) (A:=524288) (B:=10000) ⟨r2,by omega⟩ ⟨h4,h5⟩
  refine ⟨?_,?_,?_⟩
  · unfold loop_feedback_size
    rw [size_l1,r1,Option.bind_some,w64 (x:=sumA l * g) (by omega),lceil_eq (by decide) (by decide) (by omega)]
    rfl
  · unfold ref08_SizeOf
    rw [r1,Option.bind_some,w64 (x:=sumA l * g) (by omega),bceil_eq (by decide) (by decide) (by omega)]
    rfl
  · unfold szE
    generalize sumA l * g = t at *
    omega
noncomputable def bdE (l : List Int) (g h : Int) : Int:=(szE l g * absI h + 500) / (1000 - szE l g)
theorem bdE_bd {l : List Int} {g h : Int} (hk : chkL l g = 0) (hs : szE l g < 1000) (hh : -32767 ≤ h ∧ h ≤ 32767) :
    0 ≤ szE l g * absI h ∧ szE l g * absI h ≤ 32734233 ∧ 0 ≤ bdE l g h ∧ bdE l g h ≤ 32734733:=by
  obtain ⟨_,_,z1,z2,_⟩:=szR hk
  have m:=mul_le_nn (a:=szE l g) (b:=absI h) (A:=999) (B:=32767) ⟨z1,by omega⟩ (absI_le hh)
  have:=ediv_le (x:=szE l g * absI h + 500) (y:=1000 - szE l g) (b:=32734733) (by omega) (by omega) (by omega)
  exact ⟨m.1,by omega,Int.ediv_nonneg (by omega) (by omega),this.2⟩
theorem step_bd {s b a M : Int} (hs : 0 ≤ s ∧ s < 1000) (ha : 0 ≤ a) (hb : b = (s * a + 500) / (1000 - s)) (hM : M = a ∨ M = b) : (s * M + 500) / 1000 ≤ b:=by
  have hsa : 0 ≤ s * a:=Int.mul_nonneg hs.1 ha
  have hb0 : 0 ≤ b:=by rw [hb];exact Int.ediv_nonneg (by omega) (by omega)
  rcases hM with rfl|rfl
  · rw [hb]
    rw [Int.le_ediv_iff_mul_le (by omega)]
    have h1:=Int.emod_add_mul_ediv (s * M + 500) 1000
    have h2:=Int.emod_nonneg (s * M + 500) (show (1000 : Int) ≠ 0 by decide)
    have h3 : 0 ≤ (s * M + 500) / 1000:=Int.ediv_nonneg (by omega) (by omega)
    have h4:=Int.mul_le_mul_of_nonneg_left (show 1000 - s ≤ 1000 by omega) h3
    omega
  · have:=Int.mul_le_mul_of_nonneg_right (show s ≤ 999 by omega) hb0
    omega
theorem ech_bd {l : List Int} {g h : Int} (hk : chkL l g = 0) (hs : szE l g < 1000) (hh : -32767 ≤ h ∧ h ≤ 32767) : ∀ n,n ≤ 500 → ∃ t,ech l g h n = h :: t ∧ ∀ x ∈ t,-bdE l g h ≤ x ∧ x ≤ bdE l g h
  | 0,_=>⟨[],rfl,by simp⟩
  | n + 1,hn=>by
    obtain ⟨t,e,ht⟩:=ech_bd hk hs hh n (by omega)
    obtain ⟨b1,b2,b3,b4⟩:=bdE_bd hk hs hh
    obtain ⟨_,_,z1,z2,z3⟩:=szR hk
    have ha:=absI_le hh
    have hself : -absI h ≤ h ∧ h ≤ absI h:=by unfold absI;split<;>omega
    obtain ⟨M,hM1,hM2,hM3,hM4⟩ : ∃ M,(M = absI h ∨ M = bdE l g h) ∧ absI h ≤ M ∧ bdE l g h ≤ M ∧ M ≤ 1000000000:=by
      by_cases hc : absI h ≤ bdE l g h
      · exact ⟨_,.inr rfl,hc,Int.le_refl _,by omega⟩
      · exact ⟨_,.inl rfl,Int.le_refl _,by omega,by omega⟩
    have hall : ∀ x ∈ ech l g h n,-M ≤ x ∧ x ≤ M:=by
      intro x hx
      rw [e] at hx
      rcases List.mem_cons.1 hx with rfl|hx
      · omega
      · have:=ht x hx
        omega
    have hlen:=ech_len l g h n
    obtain ⟨_,_,n1,n2⟩:=nxR hk hall (by omega) ⟨by omega,hM4⟩
    have sb:=step_bd ⟨z1,hs⟩ ha.1 (b:=bdE l g h) rfl hM1
    have hmul:=Int.mul_le_mul_of_nonneg_right z3 (show 0 ≤ M by omega)
    rw [Int.mul_assoc 16384] at hmul
    refine ⟨t ++ [nx l g (ech l g h n)],by show ech l g h n ++ _ = _;rw [e];rfl,?_⟩
    intro x hx
    rcases List.mem_append.1 hx with hx|hx
    · exact ht x hx
    · simp only [List.mem_singleton] at hx
      subst hx
      generalize sumA l * g * M = u at *
      generalize szE l g * M = v at *
      omega
theorem l4_eq : law08_LoopEchoes_l4 = law08_LoopEchoes_l1:=rfl
theorem loopE {X : List Int} {n : Nat} {b d : Int} (hX : d = 0 → X.take n = [] ∨ ∃ y t,X.take n = y :: t ∧ ∀ x ∈ t,-b ≤ x ∧ x ≤ b) (hl : (X.take n).length ≤ 1000) (hb : 0 ≤ b ∧ b ≤ 1000000000) : run (law08_LoopEchoes_l1 X n b d) 1 = some (.inr ()):=by
  by_cases hd : d = 0
  · rcases hX hd with e|⟨y,t,e,ht⟩
    · exact run_stop (by unfold law08_LoopEchoes_l1;rw [e,if_neg (by simp)])
    · refine run_count (step:=law08_LoopEchoes_l1 X n b d) (fun k=>((k + 1 : Nat) : Int)) (n:=t.length) (e:=.inr ()) (fun k hk=>?_) ?_
      · unfold law08_LoopEchoes_l1
        rw [e] at hl ⊢
        simp only [List.length_cons] at hl ⊢
        have hg : getI (y :: t) ((k + 1 : Nat) : Int) = some (t[k]):=by
          unfold getI
          rw [if_pos (by omega),Int.toNat_natCast,List.getElem?_cons_succ,List.getElem?_eq_getElem hk]
        have hbx:=ht (t[k]) (List.getElem_mem hk)
        rw [if_pos (by simp only [decide_eq_true_eq];omega),if_pos (by simpa using hd),hg,Option.bind_some,w64 (x:=0 - b) (by omega),Int.zero_sub,within_eq,Option.bind_some,if_pos (by simpa using hbx),wsucc (n:=t.length + 1) (by omega) (by omega)]
      · unfold law08_LoopEchoes_l1
        rw [e,if_neg (by simp)]
  · refine run_stop ?_
    unfold law08_LoopEchoes_l1
    split
    · rw [if_neg (by simpa using hd)]
    · rfl
def okH (h : Int) : Prop:=-32767 ≤ h ∧ h ≤ 32767
def okC (c : Int) : Prop:=0 ≤ c ∧ c ≤ 200
instance (h : Int) : Decidable (okH h):=inferInstanceAs (Decidable (_ ∧ _))
instance (h : Int) : Decidable (okC h):=inferInstanceAs (Decidable (_ ∧ _))
theorem hHE (h : Int) : ref08_HeightErr h = some (if okH h then 0 else 2):=by
  unfold ref08_HeightErr
  rw [within_eq,Option.bind_some]
  by_cases hh : okH h
  · rw [if_pos hh,if_pos (by simpa [okH] using hh)]
  · rw [if_neg hh,if_neg (by simpa [okH] using hh)]
theorem hEch {l : List Int} (g h c : Int) (hl : l.length ≤ 1048576) : loop_Echoes l g h c = some (if chkL l g = 0 ∧ okH h ∧ okC c then (ech l g h (c.toNat - 1),c.toNat,0) else ([],0,if chkL l g = 0 then 2 else chkL l g)):=by
  unfold loop_Echoes loop_high loop_firstError_cf9e
  simp only [withinR,Option.bind_some,checkR g hl,refuseR]
  by_cases h0 : chkL l g = 0
  · by_cases hh : okH h
    · have hn : ¬ (h < -32767 ∨ h > 32767):=by unfold okH at hh;omega
      by_cases hc : okC c
      · have hn2 : ¬ (c < 0 ∨ c > 200):=by unfold okC at hc;omega
        have hcast : ((c.toNat : Nat) : Int) = c:=by unfold okC at hc;omega
        have e:=echR (c:=c.toNat) h0 hh (by unfold okC at hc;omega)
        rw [hcast] at e
        simp [h0,hh,hc,hn,hn2,e]
      · have hn2 : c < 0 ∨ c > 200:=by unfold okC at hc;omega
        simp [h0,hh,hc,hn,hn2]
    · have hn : h < -32767 ∨ h > 32767:=by unfold okH at hh;omega
      simp [h0,hh,hn]
  · simp [h0]
theorem hBnd {l : List Int} (g h : Int) (hl : l.length ≤ 1048576) : loop_EchoBound l g h = some (if chkL l g = 0 then (if okH h then (if szE l g < 1000 then (bdE l g h,0) else (0,12)) else (0,2)) else (0,chkL l g)):=by
  unfold loop_EchoBound loop_high loop_firstError_9bc3
  simp only [withinR,Option.bind_some,checkR g hl,refuseR]
  by_cases h0 : chkL l g = 0
  · rw [if_pos h0]
    by_cases hh : okH h
    · rw [if_pos hh]
      have hn : ¬ (h < -32767 ∨ h > 32767):=by unfold okH at hh;omega
      obtain ⟨z0,_,z1,z2,z3⟩:=szR h0
      have hw : IntKind.i64.wrap (1000 - szE l g) = 1000 - szE l g:=w64 (by omega)
      by_cases hs : szE l g < 1000
      · obtain ⟨b1,b2,b3,b4⟩:=bdE_bd h0 hs hh
        have hq : (szE l g * absI h + 500).tdiv (1000 - szE l g) = bdE l g h:=Int.tdiv_eq_ediv_of_nonneg (by omega)
        rw [if_pos hs]
        have h1 : ¬ (1000 - szE l g ≤ 0):=by omega
        have h2 : ¬ (1000 - szE l g = 0):=by omega
        have hz : loop_size h = some (absI h):=lsize_eq (by unfold okH at hh;omega)
        simp only [h0,hn,z0,hw,Option.bind_some,hz]
        simp only [h1,h2,decide_false,if_false,Bool.false_eq_true,ne_eq,not_true_eq_false]
        rw [w64 (x:=szE l g * absI h) (by omega),w64 (x:=_ + 500) (by omega),hq,w64 (x:=bdE l g h) (by omega)]
        rfl
      · rw [if_neg hs]
        have h1 : 1000 - szE l g ≤ 0:=by omega
        simp only [h0,hn,z0,hw,Option.bind_some]
        simp [h1]
    · rw [if_neg hh]
      have hn : h < -32767 ∨ h > 32767:=by unfold okH at hh;omega
      simp [h0,hn]
  · rw [if_neg h0]
    simp [h0]
theorem hRef {l : List Int} {g h : Int} (h0 : chkL l g = 0) (hh : okH h) : ref08_EchoBound l g h = some (if szE l g < 1000 then (bdE l g h,0) else (0,12)):=by
  unfold ref08_EchoBound
  obtain ⟨_,z0,z1,z2,z3⟩:=szR h0
  rw [z0,Option.bind_some]
  by_cases hs : szE l g < 1000
  · obtain ⟨b1,b2,b3,b4⟩:=bdE_bd h0 hs hh
    rw [if_neg (by simp only [decide_eq_true_eq];omega),if_pos hs,bsize_eq (by unfold okH at hh;omega),Option.bind_some,w64 (x:=szE l g * absI h) (by omega),w64 (x:=_ + 500) (by omega),w64 (x:=1000 - _) (by omega),bfloor_eq (by omega) (by omega)]
    rfl
  · rw [if_pos (by simp only [decide_eq_true_eq];omega),if_neg hs]
theorem echoes_true (l : List Int) (g h c : Int) : law08_LoopEchoes l g h c = some true:=by
  unfold law08_LoopEchoes law08_few
  rw [Option.bind_some]
  by_cases hf : l.length ≤ 34
  · have hl : l.length ≤ 1048576:=by omega
    rw [if_pos (by simp only [decide_eq_true_eq];omega),l4_eq]
    simp only [copyL g hl,Option.bind_some,hEch g h _ hl,hBnd g h hl,refCheckR g hl,hHE,within_eq]
    by_cases h0 : chkL l g = 0
    · by_cases hh : okH h
      · simp only [h0,hh,if_true,hRef h0 hh,true_and]
        by_cases hc : okC c
        · by_cases h6 : c > 60
          · have h7 : c ≤ 200:=hc.2
            simp [h6,h7]
          · obtain ⟨n,rfl⟩ : ∃ n : Nat,c = (n : Int):=⟨c.toNat,by unfold okC at hc;omega⟩
            have hn : n ≤ 60:=by omega
            have e1:=ech_ecs l g h n
            have hlen:=ecs_len l g h n
            have e2:=refEchR (c:=n) h0 hh (by omega)
            have e3:=ints_refl (l:=ecs l g h n) (by omega)
            have hdiv : base_Floor (n : Int) 2 = some ((n : Int) / 2):=bfloor_eq (by decide) (by omega)
            have hc2 : okC ((n : Int) / 2):=by unfold okC;omega
            have hn2 : ((n : Int) / 2).toNat = n / 2:=by omega
            have e4:=ech_ecs l g h (n / 2)
            have e5 : subI (ecs l g h n) 0 ((n : Int) / 2) = some (ecs l g h (n / 2)):=by
              unfold subI
              rw [if_pos (by omega),← ecs_take l g h (show n / 2 ≤ n by omega),hn2]
              rfl
            have e6:=ints_refl (l:=ecs l g h (n / 2)) (by rw [ecs_len];omega)
            have hin : (0 : Int) ≤ (n : Int) ∧ (n : Int) ≤ 200:=hc
            have e7 : ∀ b d,(d = 0 → szE l g < 1000 ∧ b = bdE l g h) → (0 ≤ b ∧ b ≤ 1000000000) → run (law08_LoopEchoes_l1 (ech l g h (n - 1)) n b d) 1 = some (.inr ()):=by
              intro b d hd hb
              refine loopE (fun hd0=>?_) (by rw [e1];omega) hb
              obtain ⟨hs,rfl⟩:=hd hd0
              rw [e1]
              cases n with
              | zero=>exact .inl rfl
              | succ n =>
                obtain ⟨t,e,ht⟩:=ech_bd h0 hs hh n (by omega)
                exact .inr ⟨h,t,e,ht⟩
            by_cases hs : szE l g < 1000
            · obtain ⟨b1,b2,b3,b4⟩:=bdE_bd h0 hs hh
              have e8:=e7 (bdE l g h) 0 (fun _=>⟨hs,rfl⟩) (by omega)
              simp [h6,hc,hs,e1,e2,e3,hdiv,hc2,hn2,e4,e5,e6,e8,hin]
            · have e8:=e7 0 12 (fun h=>absurd h (by decide)) (by decide)
              simp [h6,hc,hs,e1,e2,e3,hdiv,hc2,hn2,e4,e5,e6,e8,hin]
        · have hc' : ¬ (0 ≤ c ∧ c ≤ 200):=hc
          by_cases h6 : c > 60
          · have h7 : ¬ c ≤ 200:=by omega
            simp [h6,h7,hc,hc']
          · simp [h6,hc,hc']
      · by_cases h6 : c > 60
        · by_cases h7 : c ≤ 200
          · simp [h6,h7]
          · simp [h0,hh,h6,h7]
        · simp [h0,hh,h6]
    · by_cases h6 : c > 60
      · by_cases h7 : c ≤ 200
        · simp [h6,h7]
        · simp [h0,h6,h7]
      · simp [h0,h6]
  · rw [if_neg (by simp only [decide_eq_true_eq];omega)]
end Go.Rex

namespace Go.Rex
open Go Go.ChangeShapes Go.WideShapes Go.ChangeAt Go.RowKit Go.Joins Go.Proofs
/-! ### arguments: what they are as trees,and the names of their blocks -/
structure Arg (W : World) (v' : Value) (p : TV) (bs : List Blk) (is : List Info) (av : Nat → Value) : Prop where
  vr : ∀ (D : Nat → Prop) (m : NMap) n,(∀ j,j < bs.length → D (n + j)) → (∀ (j : Nat) i,is[j]? = some i → m (n + j) = i) → VR D m (av n) v'
  vl : ∀ (Fz : Nat → Prop) (h : List Blk) n,(∀ j,j < bs.length → Fz (n + j)) → (∀ (j : Nat) b,bs[j]? = some b → h[n + j]? = some b) → VL Fz h noL p (av n)
  ok : ∀ (D : Nat → Prop) (m : NMap) n,(∀ j,j < bs.length → D (n + j)) → (∀ (j : Nat) i,is[j]? = some i → m (n + j) = i) → ∀ (j : Nat) b,bs[j]? = some b → BlkOk D m W (n + j) b
  lt : ∀ (j : Nat) b i,bs[j]? = some b → is[j]? = some i → b ≠ .dead → i.block < W.heap.size
  len : is.length = bs.length
structure Args (W : World) (vs' : List Value) (ps : List TV) (bs : List Blk) (is : List Info) (av : Nat → List Value) : Prop where
  vr : ∀ (D : Nat → Prop) (m : NMap) n,(∀ j,j < bs.length → D (n + j)) → (∀ (j : Nat) i,is[j]? = some i → m (n + j) = i) → VRs D m (av n) vs'
  vl : ∀ (Fz : Nat → Prop) (h : List Blk) n,(∀ j,j < bs.length → Fz (n + j)) → (∀ (j : Nat) b,bs[j]? = some b → h[n + j]? = some b) → VLs Fz h noL ps (av n)
  ok : ∀ (D : Nat → Prop) (m : NMap) n,(∀ j,j < bs.length → D (n + j)) → (∀ (j : Nat) i,is[j]? = some i → m (n + j) = i) → ∀ (j : Nat) b,bs[j]? = some b → BlkOk D m W (n + j) b
  lt : ∀ (j : Nat) b i,bs[j]? = some b → is[j]? = some i → b ≠ .dead → i.block < W.heap.size
  len : is.length = bs.length
theorem Args.nil (W : World) : Args W [] [] [] [] (fun _=>[]) :=
  ⟨fun _ _ _ _ _=>⟨rfl,fun i a a' h=>by simp at h⟩,fun _ _ _ _ _=>.nil,fun _ _ _ _ _ j b h=>by simp at h,fun j b i h=>by simp at h,rfl⟩
theorem Args.cons {W : World} {v' : Value} {p : TV} {bs bs2 : List Blk} {is is2 : List Info} {av : Nat → Value} {vs' : List Value} {ps : List TV} {avs : Nat → List Value}
    (a : Arg W v' p bs is av) (as : Args W vs' ps bs2 is2 avs) : Args W (v' :: vs') (p :: ps) (bs ++ bs2) (is ++ is2) (fun n=>av n :: avs (n + bs.length)):=by
  have cD : ∀ (D : Nat → Prop) n,(∀ j,j < (bs ++ bs2).length → D (n + j)) → (∀ j,j < bs.length → D (n + j)) ∧ (∀ j,j < bs2.length → D (n + bs.length + j)):=by
    intro D n h
    refine ⟨fun j hj=>h j (by simp;omega),fun j hj=>?_⟩
    have:=h (bs.length + j) (by simp;omega)
    rwa [← Nat.add_assoc] at this
  have cI : ∀ (m : NMap) n,(∀ (j : Nat) i,(is ++ is2)[j]? = some i → m (n + j) = i) → (∀ (j : Nat) i,is[j]? = some i → m (n + j) = i) ∧ (∀ (j : Nat) i,is2[j]? = some i → m (n + bs.length + j) = i):=by
    intro m n h
    refine ⟨fun j i hj=>h j i (by rw [List.getElem?_append_left (List.getElem?_eq_some_iff.1 hj).1];exact hj),fun j i hj=>?_⟩
    have:=h (bs.length + j) i (by rw [List.getElem?_append_right (by rw [a.len];omega),a.len,Nat.add_sub_cancel_left];exact hj)
    rwa [← Nat.add_assoc] at this
  refine ⟨fun D m n hD hm=>?_,fun Fz h n hF hh=>?_,fun D m n hD hm j b hb=>?_,fun j b i hb hi hd=>?_,by simp [a.len,as.len]⟩
  · have h1:=a.vr D m n (cD D n hD).1 (cI m n hm).1
    have h2:=as.vr D m (n + bs.length) (cD D n hD).2 (cI m n hm).2
    refine ⟨by simp [h2.len],fun i x x' hx hx'=>?_⟩
    cases i with
    | zero=>simp at hx hx';subst hx hx';exact h1
    | succ i=>simp at hx hx';exact h2.at' i x x' hx hx'
  · refine .cons (a.vl Fz h n (cD Fz n hF).1 fun j b hb=>hh j b (by rw [List.getElem?_append_left (List.getElem?_eq_some_iff.1 hb).1];exact hb)) (as.vl Fz h (n + bs.length) (cD Fz n hF).2 fun j b hb=>?_)
    have:=hh (bs.length + j) b (by rw [List.getElem?_append_right (by omega),Nat.add_sub_cancel_left];exact hb)
    rwa [← Nat.add_assoc] at this
  · rcases Nat.lt_or_ge j bs.length with hj|hj
    · rw [List.getElem?_append_left hj] at hb
      exact a.ok D m n (cD D n hD).1 (cI m n hm).1 j b hb
    · rw [List.getElem?_append_right hj] at hb
      have:=as.ok D m (n + bs.length) (cD D n hD).2 (cI m n hm).2 _ b hb
      rwa [show n + bs.length + (j - bs.length) = n + j by omega] at this
  · rcases Nat.lt_or_ge j bs.length with hj|hj
    · rw [List.getElem?_append_left hj] at hb
      rw [List.getElem?_append_left (by rw [a.len];exact hj)] at hi
      exact a.lt j b i hb hi hd
    · rw [List.getElem?_append_right hj] at hb
      rw [List.getElem?_append_right (by rw [a.len];exact hj),a.len] at hi
      exact as.lt _ b i hb hi hd
/-- the names of the arguments -/
def nm (is : List Info) : NMap:=fun n=>is.getD n ⟨0,0,0,0⟩
theorem nm_at {is : List Info} {j : Nat} {i : Info} (h : is[j]? = some i) : nm is (0 + j) = i:=by
  unfold nm
  rw [Nat.zero_add,List.getD_eq_getElem?_getD,h]
  rfl
section
variable {W : World} {vs' : List Value} {ps : List TV} {bs : List Blk} {is : List Info} {av : Nat → List Value}
theorem Args.rel (a : Args W vs' ps bs is av) : Rel W.heap.size bs.length (fun k=>k < bs.length) (nm is) bs W:=by
  refine ⟨Nat.le_refl _,fun _ h=>h,fun n b hn hb=>?_,fun n b hn hb hd=>?_,fun n b hD hl=>absurd hD (by omega),fun n b hn _ hb hd=>?_,fun n b hD hl=>absurd hD (by omega),fun n n' b b' hD _ hl=>absurd hD (by omega)⟩
  · have:=a.ok (fun k=>k < bs.length) (nm is) 0 (fun j hj=>by omega) (fun j i hi=>nm_at hi) n b hb
    rwa [Nat.zero_add] at this
  all_goals
    have hi : n < is.length:=by rw [a.len];exact hn
    have e:=nm_at (List.getElem?_eq_getElem hi)
    rw [Nat.zero_add] at e
    rw [e]
    exact a.lt n b _ hb (List.getElem?_eq_getElem hi) hd
theorem Args.vls (a : Args W vs' ps bs is av) : VLs (fun k=>k < bs.length) bs noL ps (av 0):=a.vl _ _ 0 (fun j hj=>by omega) (fun j b hb=>by rw [Nat.zero_add];exact hb)
theorem Args.vrs (a : Args W vs' ps bs is av) : VRs (fun k=>k < bs.length) (nm is) (av 0) vs':=a.vr _ _ 0 (fun j hj=>by omega) (fun j i hi=>nm_at hi)
end
theorem len1 {α : Type} {l : List α} (h : l.length = 1) : ∃ x0,l = [x0]:=by
  match l,h with
  | [x0],_=>exact ⟨_,rfl⟩
theorem len2 {α : Type} {l : List α} (h : l.length = 2) : ∃ x0 x1,l = [x0,x1]:=by
  match l,h with
  | [x0,x1],_=>exact ⟨_,_,rfl⟩
/-! ### arguments without names -/
def AtomV (c : Value) : Prop:=isAtom c = true ∧ ∀ D m,VR D m c c
theorem atomV_int (k : IntKind) (n : Int) : AtomV (.int k n):=⟨rfl,fun _ _=>.int _ _⟩
theorem Arg.atom {W : World} {v : Value} (h : AtomV v) : Arg W v (.v v) [] [] (fun _=>v) :=
  ⟨fun _ _ _ _ _=>h.2 _ _,fun _ _ _ _ _=>.v _ _ h.1,fun _ _ _ _ _ j b h=>by simp at h,fun j b i h=>by simp at h,rfl⟩
theorem Arg.agg {W : World} {l : List Value} (h : ∀ c ∈ l,AtomV c) : Arg W (.agg ⟨l⟩) (.agg (l.map .v)) [] [] (fun _=>.agg ⟨l⟩):=by
  refine ⟨fun _ _ _ _ _=>.agg _ _ rfl fun i v v' hv hv'=>?_,fun _ _ _ _ _=>.agg _ _ _ (by simp) fun i p x hp hx=>?_,fun _ _ _ _ _ j b h=>by simp at h,fun j b i h=>by simp at h,rfl⟩
  · obtain rfl : v = v':=Option.some.inj (hv.symm.trans hv')
    exact (h v (List.mem_of_getElem? hv)).2 _ _
  · rw [List.getElem?_map,hx] at hp
    obtain rfl:=Option.some.inj hp
    exact .v _ _ (h x (List.mem_of_getElem? hx)).1
/-! ### a slice of rows -/
theorem flatMap_at {α β : Type} {g : α → List β} {es : Nat} (hg : ∀ x,(g x).length = es) (he : 0 < es) : ∀ (xs : List α) i,(xs.flatMap g)[i]? = (xs[i / es]?).bind fun x=>(g x)[i % es]?
  | [],i=>by simp
  | x :: t,i=>by
    rw [List.flatMap_cons]
    rcases Nat.lt_or_ge i es with h|h
    · rw [List.getElem?_append_left (by rw [hg];exact h),Nat.div_eq_of_lt h,Nat.mod_eq_of_lt h]
      rfl
    · rw [List.getElem?_append_right (by rw [hg];exact h),hg,flatMap_at hg he t (i - es)]
      have e1 : i / es = (i - es) / es + 1:=by rw [Nat.div_eq_sub_div he h]
      have e2 : i % es = (i - es) % es:=Nat.mod_eq_sub_mod h
      rw [e1,e2]
      rfl
theorem flatMap_len {α β : Type} {g : α → List β} {es : Nat} (hg : ∀ x,(g x).length = es) : ∀ (xs : List α),(xs.flatMap g).length = xs.length * es
  | []=>by simp
  | x :: t=>by rw [List.flatMap_cons,List.length_append,hg,flatMap_len hg t,List.length_cons,Nat.add_mul];omega
theorem flatMap_map {α : Type} {f : α → List TV} {g : α → List Value} (hf : ∀ x,f x = (g x).map .v) : ∀ (xs : List α),(xs.map f).flatten = (xs.flatMap g).map .v
  | []=>rfl
  | x :: t=>by rw [List.map_cons,List.flatten_cons,flatMap_map hf t,List.flatMap_cons,List.map_append,hf]
theorem choose_list {α : Type} {Q : Nat → α → Prop} : ∀ n,(∀ i,i < n → ∃ x,Q i x) → ∃ xs : List α,xs.length = n ∧ ∀ (i : Nat) x,xs[i]? = some x → Q i x
  | 0,_=>⟨[],rfl,fun i x h=>by simp at h⟩
  | n + 1,h=>by
    obtain ⟨xs,hl,hq⟩:=choose_list n (fun i hi=>h i (by omega))
    obtain ⟨x,hx⟩:=h n (by omega)
    refine ⟨xs ++ [x],by simp [hl],fun i y hy=>?_⟩
    rcases Nat.lt_or_ge i n with hi|hi
    · rw [List.getElem?_append_left (by omega)] at hy
      exact hq i y hy
    · rw [List.getElem?_append_right (by omega),hl] at hy
      have : i = n:=by
        rcases Nat.lt_or_ge 0 (i - n) with g|g
        · rw [List.getElem?_eq_none (by simp;omega)] at hy;cases hy
        · omega
      subst this
      simp at hy
      subst hy
      exact hx
section
variable {H : Type} {enc : TypeId × Value → H} {W : World} {base : Nat} {spare : Nat → Bool} {held : Bool}
theorem open_rowsC {α : Type} {f : α → List TV} {g : α → List Value} {es : Nat} (he : 0 < es) (hf : ∀ x, f x = (g x).map .v) (hg : ∀ x, (g x).length = es) (hat : ∀ x, ∀ c ∈ g x, AtomV c)
    {P : Program} {t te : TypeId} (ht : P.underlying t = some (.slice te)) (hC : P.cellsOf te = es) {r : Reach} {b0 : Nat} {v' : Value} (hval : Cell.okWide P W r b0 t v')
    (elem : ∀ n cs y,DataW.trod enc P W base spare held n te cs = some y → cs.length = es → ∃ x : α,cs = g x)
    {fuel : Nat} {x : DataW H × List MemPlace} (h : DataW.trod enc P W base spare held fuel t [v'] = some x) : ∃ (xs : List α) (bs : List Blk) (is : List Info) (av : Nat → Value),Arg W v' (.list es (xs.map f)) bs is av:=by
  rcases DataW.trod_slice ht h with ⟨hv,_⟩|⟨a,len,cap,elems,rest,n,_,hv,_,hb,hlc,hcm,hel,hel2,_,_⟩
  · obtain rfl : v' = .slice none 0 0:=by simpa using hv
    exact ⟨[],[],[],fun _=>.slice none 0 0,fun _ _ _ _ _=>.nilSlice 0 0,fun _ _ _ _ _=>.nillist _ _,fun _ _ _ _ _ j b h=>by simp at h,fun j b i h=>by simp at h,rfl⟩
  · obtain rfl : v' = .slice (some a) len cap:=by simpa using hv
    have hok : len ≤ cap ∧ (cap : Int) ≤ IntKind.i64.max ∧ W.has P r b0 a te cap:=by
      unfold Cell.okWide at hval
      simp only [ht] at hval
      unfold Cell.ok at hval
      simpa only [ht] using hval
    obtain ⟨gb,o,s⟩:=a
    obtain ⟨_,_,_,hs,row,cells,hsh,_⟩:=hok
    simp only at hs hsh
    subst hs
    have hgb : gb < W.heap.size:=by
      unfold World.shape? at hsh
      rcases Nat.lt_or_ge gb W.heap.size with hg|hg
      · exact hg
      · rw [Array.getElem?_eq_none hg] at hsh
        simp at hsh
    have key : ∀ i,i < len → ∃ x : α,∀ j,j < es → W.cell? ⟨gb,o + i * es + j,none⟩ = (g x)[j]?:=fun i hi=>by
      have h1:=hel2 i hi
      rw [List.getElem?_eq_getElem (by omega),Option.bind_eq_some_iff] at h1
      obtain ⟨cs,hcs,htr⟩:=h1
      rw [hC] at hcs
      unfold World.cells? at hcs
      split at hcs
      · have hlen:=mapM_some_length hcs
        simp at hlen
        obtain ⟨x,rfl⟩:=elem n cs _ htr hlen
        refine ⟨x,fun j hj=>?_⟩
        have:=mapM_some_get hcs j j (by simp [hj])
        have e : ((⟨gb,o,none⟩ : Addr).add (i * es)).add j = ⟨gb,o + i * es + j,none⟩:=by
          unfold Addr.add
          split<;>split<;>simp_all
        rw [← e]
        exact this
      · cases hcs
    obtain ⟨xs,hl,hq⟩:=choose_list len key
    subst hl
    have hlen:=flatMap_len hg xs
    have hfl:=flatMap_map hf xs
    refine ⟨xs,[.cells es (xs.flatMap g)],[⟨gb,o,cap * es,es⟩],fun n=>.slice (some ⟨n,0,none⟩) xs.length xs.length,fun D m n hD hm=>?_,fun Fz h n hF hh=>?_,fun D m n hD hm j b hb=>?_,fun j b i hb hi hd=>?_,rfl⟩
    · have e:=hm 0 _ rfl
      rw [Nat.add_zero] at e
      have:=VR.slice (D:=D) (m:=m) n 0 xs.length xs.length cap (hD 0 (by simp)) (Nat.le_refl _) hlc (.inr (by rw [e];simp))
      rw [e] at this
      exact this
    · have hw : ∀ r ∈ xs.map f,r.length = es:=fun r hr=>by obtain ⟨x,_,rfl⟩:=List.mem_map.1 hr;rw [hf,List.length_map,hg]
      have:=VL.list (Fz:=Fz) (h:=h) noL es (xs.map f) n 0 xs.length (xs.flatMap g) es (hF 0 (by simp)) (hh 0 _ rfl) (.inl rfl) hw (by simp) (by rw [List.length_map,hlen];omega) (fun j p x hp hx=>by
        rw [hfl,List.getElem?_map,Option.map_eq_some_iff] at hp
        rw [Nat.zero_add] at hx
        obtain ⟨y,h1,rfl⟩:=hp
        obtain rfl : y = x:=Option.some.inj (h1.symm.trans hx)
        obtain ⟨z,_,hz⟩:=List.mem_flatMap.1 (List.mem_of_getElem? hx)
        exact .v _ _ (hat z y hz).1)
      rw [List.length_map] at this
      exact this
    · match j,hb with
      | 0,hb =>
        obtain rfl:=Option.some.inj hb
        have e:=hm 0 _ rfl
        rw [Nat.add_zero] at e ⊢
        refine ⟨by rw [e],fun i v hv=>⟨v,?_,?_⟩⟩
        · rw [flatMap_at hg he,Option.bind_eq_some_iff] at hv
          obtain ⟨x,hx,hv⟩:=hv
          rw [e]
          have:=hq _ x hx (i % es) (Nat.mod_lt _ he)
          rw [Nat.add_assoc,Nat.mul_comm,Nat.div_add_mod] at this
          rw [this]
          exact hv
        · obtain ⟨z,_,hz⟩:=List.mem_flatMap.1 (List.mem_of_getElem? hv)
          exact (hat z v hz).2 _ _
      | j + 1,hb=>simp at hb
    · match j,hb,hi with
      | 0, hb, hi => obtain rfl := Option.some.inj hi
                     exact hgb
      | j + 1,hb,hi=>simp at hb
/-! ### aggregates of ints -/
def AI (cs : List Value) : Prop:=∀ c ∈ cs,∃ n : Int,c = .int .i64 n
theorem AI.list {cs : List Value} (h : AI cs) : ∃ l : List Int,cs = l.map (.int .i64):=by
  induction cs with
  | nil=>exact ⟨[],rfl⟩
  | cons c t ih =>
    obtain ⟨n,rfl⟩:=h c (by simp)
    obtain ⟨l,rfl⟩:=ih fun c hc=>h c (by simp [hc])
    exact ⟨n :: l,rfl⟩
variable {P : Program}
theorem ai_int {te : TypeId} (ht : P.underlying te = some (.int .i64)) {fuel : Nat} {cs : List Value} {x : DataW H × List MemPlace} (h : DataW.trod enc P W base spare held fuel te cs = some x) : AI cs:=by
  obtain ⟨n,rfl,_⟩:=DataW.trod_int ht h
  exact fun c hc=>⟨n,by simpa using hc⟩
theorem okW_int {t : TypeId} (ht : P.underlying t = some (.int .i64)) {r : Reach} {b : Nat} {v : Value} (w : Cell.okWide P W r b t v) : ∃ n : Int,v = .int .i64 n:=by
  unfold Cell.okWide at w
  simp only [ht] at w
  unfold Cell.ok at w
  simp only [ht] at w
  cases v<;>first|exact ⟨_,by rw [w.1]⟩|exact absurd w (by simp)
theorem open_int {t : TypeId} (ht : P.underlying t = some (.int .i64)) {r : Reach} {b : Nat} {v : Value} (w : Value.okWide P W r b t v) : ∃ n : Int,v = .int .i64 n:=by
  unfold Value.okWide at w
  simp only [ht] at w
  exact okW_int ht w
theorem Arg.ofArgs {cs : List Value} {ps : List TV} {bs : List Blk} {is : List Info} {av : Nat → List Value} (a : Args W cs ps bs is av) : Arg W (.agg ⟨cs⟩) (.agg ps) bs is (fun n=>.agg ⟨av n⟩) :=
  ⟨fun D m n hD hm=>.agg' (a.vr D m n hD hm),fun Fz h n hF hh=>.agg' (a.vl Fz h n hF hh),a.ok,a.lt,a.len⟩
theorem open_cells {t : TypeId} {fs : Array Field} {ts : List TypeId} (ht : P.underlying t = some (.struct fs)) (hct : P.cellTypes P.depth t = some ts) (hn : P.cellsOf t = ts.length) {r : Reach} {b : Nat} {v : Value} (w : Value.okWide P W r b t v) :
    ∃ cs : List Value,v = .agg ⟨cs⟩ ∧ cs.length = ts.length ∧ ∀ (j : Nat) c u,cs[j]? = some c → ts[j]? = some u → Cell.okWide P W r b u c:=by
  unfold Value.okWide at w
  simp only [ht] at w
  obtain ⟨cs,rfl,hs,ts',hts,_,hc⟩:=w
  rw [hct] at hts
  obtain rfl:=Option.some.inj hts
  obtain ⟨l⟩:=cs
  have hl : l.length = ts.length:=by simpa [hn] using hs
  refine ⟨l,rfl,hl,fun j c u hj hu=>?_⟩
  obtain ⟨u',hu',hok⟩:=hc j c (by simpa using hj)
  rw [Nat.mod_eq_of_lt (by have:=(List.getElem?_eq_some_iff.1 hj).1;omega)] at hu'
  obtain rfl:=Option.some.inj (hu.symm.trans hu')
  exact hok
theorem st_field {t : TypeId} {fs : Array Field} {i : Nat} {f : Field} (ht : P.underlying t = some (.struct fs)) (hf : fs[i]? = some f) {fuel : Nat} {cs : List Value} {x : DataW H × List MemPlace} (h : DataW.trod enc P W base spare held fuel t cs = some x) :
    ∃ n y,DataW.trod enc P W base spare held n f.type ((cs.drop f.offset).take (P.cellsOf f.type)) = some y:=by
  obtain ⟨xs,n,_,_,hl,hx,hi⟩:=DataW.trod_struct ht h
  have:=hi i f hf
  have hil : i < fs.size:=(Array.getElem?_eq_some_iff.1 hf).1
  rw [List.getElem?_eq_getElem (by omega)] at this
  exact ⟨n,_,this⟩
end
end Go.Rex
