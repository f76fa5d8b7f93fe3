/- What these functions return: facts on lists and numbers. -/
import Derived.Test.YtncpkcngiaacaaaRexG6
import Derived.Test.YtncpkcngiaacaaaS
import Derived.Test.YtncpkcngiaacaaaRexG7
import Derived.ProofKit
import Derived.OpenShut
import Derived.ShutString
import Derived.ChangeOld
import Derived.Below
import Derived.Lib.SmallJoins
import Derived.ChangeShapes
import Derived.ChangeArms
import Derived.WideShapes
set_option linter.unusedSimpArgs false
set_option linter.unusedVariables false
set_option linter.defProp false
namespace Go.Rex
/-! ### plain facts for shallow functions -/
theorem w64 {x : Int} (h : -9223372036854775808 ≤ x ∧ x ≤ 9223372036854775807) : IntKind.i64.wrap x = x := IntWalk.i64_in x (by omega)
/-- a loop that counts -/
theorem run_count {σ ε : Type} {step : σ → Option (σ ⊕ ε)} (f : Nat → σ) {n : Nat} {e : ε} (h : ∀ k, k < n → step (f k) = some (.inl (f (k + 1)))) (hn : step (f n) = some (.inr e)) : run step (f 0) = some e := by
  suffices H : ∀ j k, n - k = j → k ≤ n → run step (f k) = some e from H n 0 (by omega) (Nat.zero_le _)
  intro j
  induction j with
  | zero => intro k hj hk; obtain rfl : k = n := by omega
            exact run_stop hn
  | succ j ih => intro k hj hk; rw [run_next (h k (by omega))]; exact ih (k + 1) (by omega) (by omega)
theorem getI_nat {α : Type} {xs : List α} {k : Nat} : getI xs (k : Int) = xs[k]? := by
  unfold getI
  rw [if_pos (by omega), Int.toNat_natCast]
theorem getI_of {α : Type} {xs : List α} {i : Int} {k : Nat} (h : i = (k : Int)) : getI xs i = xs[k]? := by subst h; exact getI_nat
theorem appI_one {α : Type} {b : Nat} {xs : List α} {y : α} (h : xs.length < 2 ^ 40) (hb : b ≤ 128) : appI b xs [y] = some (xs ++ [y]) := by
  unfold appI
  rw [if_pos]
  refine ⟨by simp; omega, ?_⟩
  have h1 : (xs.length + [y].length) * b ≤ 2 ^ 40 * 128 := Nat.mul_le_mul (by simp; omega) hb
  omega
end Go.Rex

namespace Go.Rex
/-! ### registers: plain facts -/
def fbit (L s : Nat) (ts : List Nat) : Nat := ts.foldl (fun a t => (a + s / 2 ^ (L - t) % 2) % 2) 0
def nx (L : Nat) (ts : List Nat) (s : Nat) : Nat := s / 2 + fbit L s ts * 2 ^ (L - 1)
structure Reg (L : Nat) (ts : List Nat) : Prop where
  two : 2 ≤ L
  most : L ≤ 8
  le : ∀ t, t ∈ ts → 1 ≤ t ∧ t ≤ L
  last : ∃ t', ts = t' ++ [L] ∧ ∀ t, t ∈ t' → t < L
  len : ts.length ≤ 12
theorem foldl_lt (L s : Nat) : ∀ (ts : List Nat) (a : Nat), a < 2 → ts.foldl (fun a t => (a + s / 2 ^ (L - t) % 2) % 2) a < 2
  | [], a, h => h
  | t :: ts, a, h => foldl_lt L s ts _ (Nat.mod_lt _ (by omega))
theorem fbit_lt (L s : Nat) (ts : List Nat) : fbit L s ts < 2 := foldl_lt L s ts 0 (by omega)
theorem pow_pred {L : Nat} (h : 1 ≤ L) : 2 ^ L = 2 * 2 ^ (L - 1) := by
  obtain ⟨k, rfl⟩ : ∃ k, L = k + 1 := ⟨L - 1, by omega⟩
  rw [Nat.add_sub_cancel, Nat.pow_succ]
  omega
theorem nx_lt {L : Nat} {ts : List Nat} {s : Nat} (hL : 1 ≤ L) (hs : s < 2 ^ L) : nx L ts s < 2 ^ L := by
  have h1 := fbit_lt L s ts
  have e := pow_pred hL
  unfold nx
  have h2 : s / 2 < 2 ^ (L - 1) := by omega
  have h3 : fbit L s ts * 2 ^ (L - 1) ≤ 1 * 2 ^ (L - 1) := Nat.mul_le_mul_right _ (by omega)
  omega
theorem foldl_shift (L s s' : Nat) (h : s / 2 = s' / 2) : ∀ (ts : List Nat) (a : Nat), (∀ t, t ∈ ts → t < L) → ts.foldl (fun a t => (a + s / 2 ^ (L - t) % 2) % 2) a = ts.foldl (fun a t => (a + s' / 2 ^ (L - t) % 2) % 2) a
  | [], a, _ => rfl
  | t :: ts, a, ht => by
    have h1 := ht t (by simp)
    obtain ⟨j, hj⟩ : ∃ j, L - t = j + 1 := ⟨L - t - 1, by omega⟩
    simp only [List.foldl_cons]
    have e : s / 2 ^ (L - t) = s' / 2 ^ (L - t) := by
      rw [hj, Nat.pow_succ', ← Nat.div_div_eq_div_mul, ← Nat.div_div_eq_div_mul, h]
    rw [e]
    exact foldl_shift L s s' h ts _ (fun t ht' => ht t (by simp [ht']))
theorem fbit_last {L s : Nat} {ts t' : List Nat} (h : ts = t' ++ [L]) : fbit L s ts = (fbit L s t' + s % 2) % 2 := by
  subst h
  unfold fbit
  rw [List.foldl_append]
  simp
theorem nx_inj {L : Nat} {ts : List Nat} (hr : Reg L ts) {s s' : Nat} (hs : s < 2 ^ L) (hs' : s' < 2 ^ L) (h : nx L ts s = nx L ts s') : s = s' := by
  obtain ⟨t', e, hl⟩ := hr.last
  have h2 := hr.two
  have e2 := pow_pred (L := L) (by omega)
  unfold nx at h
  have b1 := fbit_lt L s ts
  have b2 := fbit_lt L s' ts
  have hp := Nat.two_pow_pos (L - 1)
  have hc : fbit L s ts = fbit L s' ts := by
    rcases (show fbit L s ts = 0 ∨ fbit L s ts = 1 by omega) with q | q <;> rcases (show fbit L s' ts = 0 ∨ fbit L s' ts = 1 by omega) with q' | q' <;> rw [q, q'] at h ⊢ <;> omega
  have hd : s / 2 = s' / 2 := by rw [hc] at h; omega
  rw [fbit_last e, fbit_last e] at hc
  have : fbit L s t' = fbit L s' t' := foldl_shift L s s' hd t' 0 hl
  have l1 := fbit_lt L s t'
  rw [this] at hc
  have l2 := fbit_lt L s' t'
  omega
theorem nx_zero (L : Nat) : ∀ ts : List Nat, nx L ts 0 = 0 := by
  have : ∀ (ts : List Nat), fbit L 0 ts = 0 := by
    intro ts
    unfold fbit
    induction ts with
    | nil => rfl
    | cons t ts ih => simpa using ih
  intro ts
  unfold nx
  rw [this ts]
  simp
theorem nx_pos {L : Nat} {ts : List Nat} (hr : Reg L ts) {s : Nat} (h0 : 0 < s) (hs : s < 2 ^ L) : 0 < nx L ts s := by
  rcases Nat.eq_zero_or_pos (nx L ts s) with h | h
  · have := nx_inj hr hs (Nat.two_pow_pos L) (by rw [h, nx_zero])
    omega
  · exact h
/-- the state behind t steps -/
def stt (L : Nat) (ts : List Nat) (s : Nat) : Nat → Nat
  | 0 => s
  | t + 1 => nx L ts (stt L ts s t)
theorem stt_succ' (L : Nat) (ts : List Nat) (s : Nat) : ∀ t, stt L ts s (t + 1) = stt L ts (nx L ts s) t
  | 0 => rfl
  | t + 1 => by
    show nx L ts (stt L ts s (t + 1)) = nx L ts (stt L ts (nx L ts s) t)
    rw [stt_succ' L ts s t]
theorem stt_add (L : Nat) (ts : List Nat) (s a : Nat) : ∀ b, stt L ts s (a + b) = stt L ts (stt L ts s a) b
  | 0 => rfl
  | b + 1 => by
    show nx L ts (stt L ts s (a + b)) = nx L ts (stt L ts (stt L ts s a) b)
    rw [stt_add L ts s a b]
section
variable {L : Nat} {ts : List Nat} {s : Nat}
theorem stt_ok (hr : Reg L ts) (h0 : 0 < s) (hs : s < 2 ^ L) : ∀ t, 0 < stt L ts s t ∧ stt L ts s t < 2 ^ L
  | 0 => ⟨h0, hs⟩
  | t + 1 => by
    obtain ⟨a, b⟩ := stt_ok hr h0 hs t
    exact ⟨nx_pos hr a b, nx_lt (by have := hr.two; omega) b⟩
/-- the bit at t -/
def bt (L : Nat) (ts : List Nat) (s t : Nat) : Nat := stt L ts s t % 2
theorem nx_digit (hr : Reg L ts) {x : Nat} (hx : x < 2 ^ L) {i : Nat} (hi : i + 1 < L) : nx L ts x / 2 ^ i % 2 = x / 2 ^ (i + 1) % 2 := by
  unfold nx
  obtain ⟨j, hj⟩ : ∃ j, L - 1 = i + (j + 1) := ⟨L - 1 - i - 1, by omega⟩
  have e : fbit L x ts * 2 ^ (L - 1) = 2 ^ i * (2 * (fbit L x ts * 2 ^ j)) := by
    rw [hj, Nat.pow_add, Nat.pow_succ]
    simp only [Nat.mul_comm, Nat.mul_left_comm, Nat.mul_assoc]
  rw [e, Nat.add_mul_div_left _ _ (Nat.two_pow_pos i), Nat.add_mul_mod_self_left, Nat.div_div_eq_div_mul, Nat.pow_succ']
theorem nx_top (hr : Reg L ts) {x : Nat} (hx : x < 2 ^ L) : nx L ts x / 2 ^ (L - 1) % 2 = fbit L x ts := by
  have h2 := hr.two
  have e2 := pow_pred (L := L) (by omega)
  unfold nx
  have h1 : x / 2 < 2 ^ (L - 1) := by omega
  rw [Nat.add_mul_div_right _ _ (Nat.two_pow_pos _), Nat.div_eq_of_lt h1, Nat.zero_add, Nat.mod_eq_of_lt (fbit_lt _ _ _)]
theorem window (hr : Reg L ts) (h0 : 0 < s) (hs : s < 2 ^ L) : ∀ (i t : Nat), i < L → stt L ts s t / 2 ^ i % 2 = bt L ts s (t + i)
  | 0, t, _ => by simp [bt]
  | i + 1, t, hi => by
    have h1 := window hr h0 hs i (t + 1) (by omega)
    have h2 := nx_digit hr (stt_ok hr h0 hs t).2 (i := i) hi
    rw [show t + (i + 1) = t + 1 + i by omega, ← h1, ← h2]
    rfl
theorem bt_rec (hr : Reg L ts) (h0 : 0 < s) (hs : s < 2 ^ L) (t : Nat) : bt L ts s (t + L) = ts.foldl (fun a p => (a + bt L ts s (t + L - p)) % 2) 0 := by
  have h2 := hr.two
  have h1 := window hr h0 hs (L - 1) (t + 1) (by omega)
  rw [show t + 1 + (L - 1) = t + L by omega] at h1
  rw [← h1]
  have h3 := nx_top hr (stt_ok hr h0 hs t).2
  have h4 : stt L ts s (t + 1) = nx L ts (stt L ts s t) := rfl
  rw [h4, h3]
  unfold fbit
  have key : ∀ (l : List Nat) (a : Nat), (∀ p, p ∈ l → 1 ≤ p ∧ p ≤ L) → l.foldl (fun a p => (a + stt L ts s t / 2 ^ (L - p) % 2) % 2) a = l.foldl (fun a p => (a + bt L ts s (t + L - p)) % 2) a := by
    intro l
    induction l with
    | nil => intro a _; rfl
    | cons p l ih =>
      intro a hl
      have hp := hl p (by simp)
      simp only [List.foldl_cons]
      rw [window hr h0 hs (L - p) t (by omega), show t + (L - p) = t + L - p by omega]
      exact ih _ (fun q hq => hl q (by simp [hq]))
  exact key ts 0 hr.le
/-! the period -/
theorem returns (hr : Reg L ts) (h0 : 0 < s) (hs : s < 2 ^ L) : ∃ n, 1 ≤ n ∧ n ≤ 2 ^ L - 1 ∧ stt L ts s n = s := by
  -- two states among the first 2^L are the same
  have hdup : ∃ i j, i < j ∧ j ≤ 2 ^ L - 1 ∧ stt L ts s i = stt L ts s j := by
    apply Classical.byContradiction
    intro hno
    have hnd : ((List.range (2 ^ L)).map (stt L ts s)).Nodup := by
      rw [List.nodup_iff_pairwise_ne, List.pairwise_map]
      refine List.Pairwise.imp_of_mem ?_ List.pairwise_lt_range
      intro a b ha hb hlt he
      exact hno ⟨a, b, hlt, by have := List.mem_range.1 hb; omega, he⟩
    have hsub : ((List.range (2 ^ L)).map (stt L ts s)) ⊆ (List.range (2 ^ L - 1)).map (· + 1) := by
      intro x hx
      obtain ⟨t, _, rfl⟩ := List.mem_map.1 hx
      obtain ⟨a, b⟩ := stt_ok hr h0 hs t
      exact List.mem_map.2 ⟨stt L ts s t - 1, List.mem_range.2 (by omega), by omega⟩
    have := hnd.length_le_of_subset hsub
    simp at this
    have := Nat.two_pow_pos L
    omega
  obtain ⟨i, j, hij, hj, he⟩ := hdup
  have back : ∀ (i k : Nat), stt L ts s i = stt L ts s (i + k) → s = stt L ts s k := by
    intro i
    induction i with
    | zero => intro k h; simpa [stt] using h
    | succ i ih =>
      intro k h
      rw [show i + 1 + k = (i + k) + 1 by omega] at h
      exact ih k (nx_inj hr (stt_ok hr h0 hs i).2 (stt_ok hr h0 hs (i + k)).2 h)
  refine ⟨j - i, by omega, by omega, ?_⟩
  exact (back i (j - i) (by rw [he]; congr 1; omega)).symm
theorem least {P : Nat → Prop} (h : ∃ n, P n) : ∃ n, P n ∧ ∀ m, m < n → ¬ P m := by
  obtain ⟨n, hn⟩ := h
  induction n using Nat.strongRecOn with
  | _ n ih =>
    by_cases hx : ∃ m, m < n ∧ P m
    · obtain ⟨m, hm, hp⟩ := hx
      exact ih m hm hp
    · exact ⟨n, hn, fun m hm hp => hx ⟨m, hm, hp⟩⟩
/-- the period: it comes back for the first time -/
def isPer (L : Nat) (ts : List Nat) (s n : Nat) : Prop := (1 ≤ n ∧ stt L ts s n = s) ∧ ∀ m, m < n → ¬ (1 ≤ m ∧ stt L ts s m = s)
theorem per_exists (hr : Reg L ts) (h0 : 0 < s) (hs : s < 2 ^ L) : ∃ n, isPer L ts s n ∧ n ≤ 2 ^ L - 1 := by
  obtain ⟨n, h1, h2, h3⟩ := returns hr h0 hs
  obtain ⟨m, hm, hl⟩ := least (P := fun n => 1 ≤ n ∧ stt L ts s n = s) ⟨n, h1, h3⟩
  refine ⟨m, ⟨hm, hl⟩, ?_⟩
  rcases Nat.lt_or_ge n m with h | h
  · exact absurd ⟨h1, h3⟩ (hl n h)
  · omega
end
/-! ### operations on bits -/
theorem w64n {x : Nat} (h : x < 9223372036854775808) : IntKind.i64.wrap (x : Int) = x := w64 (by omega)
theorem bit_and1 {v : Nat} (h : v < 2 ^ 62) : bitI .and .i64 (v : Int) 1 = ((v % 2 : Nat) : Int) := by
  show IntKind.i64.wrap (((BitVec.ofInt 64 (v : Int) &&& BitVec.ofInt 64 1).toNat : Nat) : Int) = _
  have : (BitVec.ofInt 64 (v : Int) &&& BitVec.ofInt 64 1).toNat = v % 2 := by
    rw [BitVec.ofInt_natCast, BitVec.toNat_and, BitVec.toNat_ofNat, Nat.mod_eq_of_lt (by omega)]
    show v &&& 1 = _
    exact Nat.and_one_is_mod v
  rw [this, w64n (by omega)]
theorem bit_xor01 {a b : Nat} (ha : a < 2) (hb : b < 2) : bitI .xor .i64 (a : Int) (b : Int) = (((a + b) % 2 : Nat) : Int) := by
  rcases (show a = 0 ∨ a = 1 by omega) with rfl | rfl <;> rcases (show b = 0 ∨ b = 1 by omega) with rfl | rfl <;> decide
theorem bit_or_hi {a i c : Nat} (ha : a < 2 ^ i) (hc : c < 2) (hi : i ≤ 60) : bitI .or .i64 (a : Int) ((c * 2 ^ i : Nat) : Int) = ((a + c * 2 ^ i : Nat) : Int) := by
  have hp : 2 ^ i ≤ 2 ^ 60 := Nat.pow_le_pow_right (by omega) hi
  have hcm : c * 2 ^ i ≤ 1 * 2 ^ i := Nat.mul_le_mul_right _ (by omega)
  show IntKind.i64.wrap (((BitVec.ofInt 64 (a : Int) ||| BitVec.ofInt 64 ((c * 2 ^ i : Nat) : Int)).toNat : Nat) : Int) = _
  have : (BitVec.ofInt 64 (a : Int) ||| BitVec.ofInt 64 ((c * 2 ^ i : Nat) : Int)).toNat = a + c * 2 ^ i := by
    rw [BitVec.ofInt_natCast, BitVec.ofInt_natCast, BitVec.toNat_or, BitVec.toNat_ofNat, BitVec.toNat_ofNat, Nat.mod_eq_of_lt (by omega), Nat.mod_eq_of_lt (by omega), Nat.or_comm, Nat.mul_comm c, ← Nat.two_pow_add_eq_or_of_lt ha c, Nat.add_comm]
  rw [this, w64n (by omega)]
theorem shr_eq {v k : Nat} {n : Int} (hk : k ≤ 60) (hn : n = (k : Int)) : shI .shr .i64 (v : Int) n = some ((v / 2 ^ k : Nat) : Int) := by
  subst hn
  unfold shI
  rw [if_neg (by omega)]
  simp only
  have : min (k : Int).toNat IntKind.i64.bits = k := by
    have : IntKind.i64.bits = 64 := rfl
    omega
  rw [this, Int.fdiv_eq_ediv_of_nonneg _ (Int.pow_nonneg (by omega))]
  congr 1
theorem shl_eq {v k : Nat} {n : Int} (hk : k ≤ 60) (hv : v < 2) (hn : n = (k : Int)) : shI .shl .i64 (v : Int) n = some ((v * 2 ^ k : Nat) : Int) := by
  subst hn
  unfold shI
  rw [if_neg (by omega)]
  simp only
  have : min (k : Int).toNat IntKind.i64.bits = k := by
    have : IntKind.i64.bits = 64 := rfl
    omega
  have hp : 2 ^ k ≤ 2 ^ 60 := Nat.pow_le_pow_right (by omega) hk
  have hcm : v * 2 ^ k ≤ 1 * 2 ^ k := Nat.mul_le_mul_right _ (by omega)
  have e : (v : Int) * 2 ^ k = ((v * 2 ^ k : Nat) : Int) := by simp
  rw [this, e, w64n (by omega)]
end Go.Rex

namespace Go.Rex
/-! ### maximal sequences: plain facts -/
section
variable {L : Nat} {ts : List Nat}
theorem one_lt (hr : Reg L ts) : 1 < 2 ^ L := by
  have h1 : 2 ^ 1 ≤ 2 ^ L := Nat.pow_le_pow_right (by omega) (by have := hr.two; omega)
  omega
theorem bt_mod (hr : Reg L ts) {s n : Nat} (hp : stt L ts s n = s) : ∀ (q t : Nat), stt L ts s (t + n * q) = stt L ts s t
  | 0, t => by simp
  | q + 1, t => by
    have h : t + n * (q + 1) = n + (t + n * q) := by rw [Nat.mul_add]; omega
    rw [h, stt_add, hp, bt_mod hr hp q t]
/-- what primes prove -/
theorem per_dvd (hr : Reg L ts) {s n : Nat} (h0 : 0 < s) (hs : s < 2 ^ L) (hp : isPer L ts s n) {m : Nat} : stt L ts s m = s ↔ n ∣ m := by
  have hn : 1 ≤ n := hp.1.1
  constructor
  · intro h
    have e := Nat.mod_add_div m n
    rw [← e, bt_mod hr hp.1.2] at h
    apply Classical.byContradiction
    intro hd
    have : m % n ≠ 0 := fun h => hd (Nat.dvd_of_mod_eq_zero h)
    exact hp.2 (m % n) (Nat.mod_lt _ (by omega)) ⟨by omega, h⟩
  · rintro ⟨q, rfl⟩
    have := bt_mod hr hp.1.2 q 0
    rw [Nat.zero_add] at this
    exact this
end
end Go.Rex

namespace Go.Rex
/-! ### loops that look for the first one of a list -/
def firstOr {α ε : Type} (P : α → Bool) (ex : Nat → α → ε) (en : ε) : Nat → List α → ε
  | _, [] => en
  | k, x :: t => if P x = true then ex k x else firstOr P ex en (k + 1) t
theorem run_first_from {α σ ε : Type} {step : σ → Option (σ ⊕ ε)} (st : Nat → σ) (P : α → Bool) (ex : Nat → α → ε) (en : ε) :
    ∀ (xs ys : List α), (∀ (k : Nat) x, (ys ++ xs)[k]? = some x → step (st k) = some (if P x = true then .inr (ex k x) else .inl (st (k + 1)))) → step (st (ys ++ xs).length) = some (.inr en) → run step (st ys.length) = some (firstOr P ex en ys.length xs)
  | [], ys, _, he => by rw [List.append_nil] at he; exact run_stop he
  | x :: t, ys, hs, he => by
    have h1 := hs ys.length x (by simp)
    by_cases hp : P x = true
    · rw [if_pos hp] at h1
      rw [run_stop h1, firstOr, if_pos hp]
    · rw [if_neg hp] at h1
      rw [run_next h1, firstOr, if_neg hp]
      have := run_first_from st P ex en t (ys ++ [x]) (fun k y hk => hs k y (by simpa using hk)) (by simpa using he)
      simpa using this
theorem run_first {α σ ε : Type} {step : σ → Option (σ ⊕ ε)} (st : Nat → σ) (P : α → Bool) (ex : Nat → α → ε) (en : ε) (xs : List α) (hs : ∀ (k : Nat) x, xs[k]? = some x → step (st k) = some (if P x = true then .inr (ex k x) else .inl (st (k + 1)))) (he : step (st xs.length) = some (.inr en)) {s : σ} (h0 : s = st 0) : run step s = some (firstOr P ex en 0 xs) := by
  subst h0
  exact run_first_from st P ex en xs [] hs he
theorem firstOr_all {α β : Type} (P : α → Bool) (c en : β) : ∀ (xs : List α) k, firstOr P (fun _ _ => c) en k xs = if (xs.all fun x => !P x) = true then en else c
  | [], _ => rfl
  | x :: t, k => by
    unfold firstOr
    rw [firstOr_all P c en t (k + 1)]
    cases h : P x <;> simp [h]
/-! ### numbers -/
end Go.Rex

namespace Go.Rex
abbrev ints (l : List Nat) : List Int := l.map (fun (t : Nat) => (t : Int))
section
variable {L : Nat} {ts : List Nat} {s : Nat}
theorem take_snoc {α : Type} {l : List α} {k : Nat} {x : α} (h : l[k]? = some x) : l.take (k + 1) = l.take k ++ [x] := by
  rw [List.take_add_one, h]; rfl
theorem next_eq (hr : Reg L ts) (hs : s < 2 ^ L) : pulse_generator_next L (ints ts) s = some ((nx L ts s : Nat) : Int) := by
  have h2 := hr.two
  have h8 := hr.most
  have hb : s < 2 ^ 62 := Nat.lt_of_lt_of_le hs (Nat.pow_le_pow_right (by omega) (by omega))
  unfold pulse_generator_next
  have hrun := run_count (step := pulse_generator_next_l1 L (ints ts) s) (e := ((fbit L s ts : Nat) : Int)) (fun k => ((((ts.take k).foldl (fun a t => (a + s / 2 ^ (L - t) % 2) % 2) 0 : Nat) : Int), (k : Int))) (n := ts.length) (fun k hk => ?_) ?_
  · rw [show ((0 : Int), (0 : Int)) = ((((ts.take 0).foldl (fun a t => (a + s / 2 ^ (L - t) % 2) % 2) 0 : Nat) : Int), ((0 : Nat) : Int)) from rfl, hrun, Option.bind_some, shr_eq (k := 1) (n := 1) (by omega) rfl, Option.bind_some]
    have hw : IntKind.i64.wrap ((L : Int) - 1) = ((L - 1 : Nat) : Int) := by rw [w64 (by omega)]; omega
    rw [shl_eq (k := L - 1) (by omega) (fbit_lt L s ts) hw, Option.bind_some]
    have hp := pow_pred (L := L) (by omega)
    have := bit_or_hi (a := s / 2 ^ 1) (i := L - 1) (c := fbit L s ts) (by omega) (fbit_lt L s ts) (by omega)
    rw [this]
    rfl
  · obtain ⟨t, ht⟩ : ∃ t, ts[k]? = some t := ⟨_, List.getElem?_eq_getElem hk⟩
    have htm := hr.le t (List.mem_of_getElem? ht)
    dsimp only [pulse_generator_next_l1]
    rw [if_pos (by simpa using hk), getI_nat, List.getElem?_map, ht, Option.map_some, Option.bind_some]
    have hw : IntKind.i64.wrap ((L : Int) - (t : Int)) = ((L - t : Nat) : Int) := by rw [w64 (by omega)]; omega
    rw [shr_eq (k := L - t) (by omega) hw, Option.bind_some, take_snoc ht, List.foldl_append]
    rw [bit_and1 (Nat.lt_of_le_of_lt (Nat.div_le_self _ _) hb), bit_xor01 (foldl_lt L s (ts.take k) 0 (by omega)) (Nat.mod_lt _ (by omega))]
    rw [w64 (x := (k : Int) + 1) (by have := hr.len; omega)]
    rfl
  · dsimp only [pulse_generator_next_l1]
    rw [if_neg (by simp), List.take_length]
    rfl
/-- the iterator, until the call back has enough -/
theorem states_it (hr : Reg L ts) (h0 : 0 < s) (hs : s < 2 ^ L) {σ ε : Type} {step : Int → σ → Option (σ ⊕ ε)} (y : Nat → σ) {n : Nat} {z : ε} (h : ∀ k, k < n → step ((stt L ts s k : Nat) : Int) (y k) = some (.inl (y (k + 1)))) (hn : step ((stt L ts s n : Nat) : Int) (y n) = some (.inr z)) :
    pulse_generator_states_c1_3283_it s L (ints ts) (hand step) (.inl (y 0)) = some (.inr z) := by
  unfold pulse_generator_states_c1_3283_it
  have hrun := run_count (step := pulse_generator_states_c1_3283_l1 (hand step) L (ints ts)) (e := .inr z) (fun k => ((((stt L ts s k : Nat) : Int)), (Sum.inl (y k) : σ ⊕ ε))) (n := n) (fun k hk => ?_) ?_
  · rw [show (((s : Nat) : Int), (Sum.inl (y 0) : σ ⊕ ε)) = ((((stt L ts s 0 : Nat) : Int)), (Sum.inl (y 0) : σ ⊕ ε)) from rfl, hrun]
    rfl
  · dsimp only [pulse_generator_states_c1_3283_l1]
    simp only [hand, h k hk, Option.map_some, Option.bind_some, if_true]
    rw [next_eq hr (stt_ok hr h0 hs k).2]
    rfl
  · dsimp only [pulse_generator_states_c1_3283_l1]
    simp only [hand, hn, Option.map_some, Option.bind_some, Bool.false_eq_true, if_false]
def btl (L : Nat) (ts : List Nat) (s n : Nat) : List Int := (List.range n).map fun t => ((bt L ts s t : Nat) : Int)
theorem btl_succ (L : Nat) (ts : List Nat) (s n : Nat) : btl L ts s (n + 1) = btl L ts s n ++ [((bt L ts s n : Nat) : Int)] := by
  unfold btl
  rw [List.range_succ, List.map_append]
  rfl
theorem btl_len (L : Nat) (ts : List Nat) (s n : Nat) : (btl L ts s n).length = n := by simp [btl]
theorem states_eq (a : Int) (b : List Int) (c : Int) : pulse_generator_states a b c = some (c, a, b) := rfl
theorem period_eq (hr : Reg L ts) (h0 : 0 < s) (hs : s < 2 ^ L) {n : Nat} (hp : isPer L ts s n) (hn : n ≤ 2 ^ L - 1) : pulse_generator_period L (ints ts) s = some (n : Int) := by
  obtain ⟨⟨h1, h2⟩, h3⟩ := hp
  have h8 := hr.most
  have hL : 2 ^ L ≤ 2 ^ 8 := Nat.pow_le_pow_right (by omega) h8
  unfold pulse_generator_period
  rw [next_eq hr hs, Option.bind_some, states_eq, Option.bind_some]
  dsimp only
  have hx := stt_ok hr h0 hs 1
  obtain ⟨m, rfl⟩ : ∃ m, n = m + 1 := ⟨n - 1, by omega⟩
  have := states_it hr (s := nx L ts s) hx.1 hx.2 (step := pulse_generator_period_l1 s) (fun k => ((k + 1 : Nat) : Int)) (n := m) (z := ((m + 1 : Nat) : Int)) (fun k hk => ?_) ?_
  · rw [show (1 : Int) = (((0 + 1 : Nat) : Nat) : Int) from rfl]
    rw [this]
    rfl
  · dsimp only [pulse_generator_period_l1]
    rw [← stt_succ']
    have := h3 (k + 1) (by omega)
    rw [if_neg (by simp only [decide_eq_true_eq]; intro e; exact this ⟨by omega, by omega⟩), w64 (by omega)]
    congr 2
  · dsimp only [pulse_generator_period_l1]
    rw [← stt_succ', h2, if_pos (by simp)]
end
end Go.Rex

namespace Go.Rex
theorem within_eq (x a b : Int) : base_Within x a b = some (decide (a ≤ x ∧ x ≤ b)) := by
  unfold base_Within
  by_cases h : a ≤ x <;> simp [h]
theorem pwithin_eq (x a b : Int) : pulse_within x a b = some (!decide (a ≤ x ∧ x ≤ b), 2) := by
  unfold pulse_within pulse_refuse
  by_cases h : x < a
  · rw [if_pos (by simpa using h)]
    have : ¬ (a ≤ x ∧ x ≤ b) := by omega
    simp [this]
  · rw [if_neg (by simpa using h)]
    by_cases h2 : x ≤ b
    · have h3 : a ≤ x ∧ x ≤ b := by omega
      have h4 : ¬ x > b := by omega
      simp [h3, h4]
    · have h3 : ¬ (a ≤ x ∧ x ≤ b) := by omega
      have h4 : x > b := by omega
      simp only [h3, h4, decide_true, decide_false, Bool.not_false, Option.bind_some]
theorem refuse_eq (b : Bool) (e : Int) : pulse_refuse b e = some (b, e) := rfl
theorem refuse1_eq (b : Bool) (e : Int) : pulse_refuse_c1_11f9 b e = some (if b = true then e else 0) := by
  unfold pulse_refuse_c1_11f9; cases b <;> rfl
theorem copy_eq (l : List Int) (h : l.length ≤ 2000) : base_CopyInts l = some l := by
  unfold base_CopyInts appI
  rw [if_pos ⟨by simp; omega, by simp; omega⟩]
  rfl
theorem rcopy_eq (a : Int) (l : List Int) (h : l.length ≤ 2000) : ref04_Copy a l = some (a, l) := by
  unfold ref04_Copy
  rw [copy_eq l h]
  rfl
/-! ### which registers are right -/
def gk (L : Int) (l : List Int) (k : Nat) : Int :=
  if 1 ≤ l.getD k 0 ∧ l.getD k 0 ≤ L then (if 0 < k ∧ l.getD k 0 ≤ l.getD (k - 1) 0 then 9 else 0) else 2
def ascE (L : Int) (l : List Int) : Int := firstOr (fun k => decide (gk L l k ≠ 0)) (fun _ k => gk L l k) 0 0 (List.range l.length)
def chk (L : Int) (l : List Int) : Int :=
  if ¬ (2 ≤ L ∧ L ≤ 8) then 2 else if l.length = 0 then 10 else if ascE L l ≠ 0 then ascE L l else if l.getD (l.length - 1) 0 ≠ L then 6 else 0
theorem getD_at {l : List Int} {k : Nat} (h : k < l.length) : l[k]? = some (l.getD k 0) := by
  rw [List.getD_eq_getElem?_getD, List.getElem?_eq_getElem h]; rfl
theorem asc_zero {L : Int} {l : List Int} (h : ascE L l = 0) : ∀ k, k < l.length → gk L l k = 0 := by
  have key : ∀ (xs : List Nat) (j : Nat), firstOr (fun k => decide (gk L l k ≠ 0)) (fun _ k => gk L l k) 0 j xs = 0 → ∀ k, k ∈ xs → gk L l k = 0 := by
    intro xs
    induction xs with
    | nil => intro j _ k hk; cases hk
    | cons x t ih =>
      intro j hj k hk
      unfold firstOr at hj
      by_cases hx : gk L l x = 0
      · rw [if_neg (by simpa using hx)] at hj
        rcases List.mem_cons.1 hk with rfl | hk
        · exact hx
        · exact ih _ hj k hk
      · rw [if_pos (by simpa using hx)] at hj
        exact absurd hj hx
  intro k hk
  exact key _ 0 h k (List.mem_range.2 hk)
theorem gk_zero {L : Int} {l : List Int} {k : Nat} (h : gk L l k = 0) : 1 ≤ l.getD k 0 ∧ l.getD k 0 ≤ L ∧ (0 < k → l.getD (k - 1) 0 < l.getD k 0) := by
  unfold gk at h
  split at h
  · rename_i h1
    split at h
    · cases h
    · rename_i h2
      exact ⟨h1.1, h1.2, fun hk => by omega⟩
  · cases h
theorem scan_eq {ε : Type} {step : Int → Option (Int ⊕ ε)} {L : Int} {l : List Int} (inj : Int → ε) (en : ε) (hl : l.length ≤ 2000) (hs : ∀ k : Nat, k < l.length → step (k : Int) = some (if gk L l k ≠ 0 then .inr (inj (gk L l k)) else .inl ((k + 1 : Nat) : Int))) (he : step (l.length : Int) = some (.inr en)) :
    ∃ z, run step 0 = some z ∧ ((ascE L l = 0 ∧ z = en) ∨ (ascE L l ≠ 0 ∧ z = inj (ascE L l))) := by
  have hrun := run_first (step := step) (fun k : Nat => (k : Int)) (fun k => decide (gk L l k ≠ 0)) (fun _ k => inj (gk L l k)) en (List.range l.length) (fun k x hx => by
    obtain ⟨h1, h2⟩ := List.getElem?_eq_some_iff.1 hx
    rw [List.getElem_range] at h2
    subst h2
    rw [hs k (by simpa using h1)]
    by_cases q : gk L l k = 0 <;> simp [q]) (by simpa using he) (s := 0) rfl
  refine ⟨_, hrun, ?_⟩
  have key : ∀ (xs : List Nat) (j : Nat), (firstOr (fun k => decide (gk L l k ≠ 0)) (fun _ k => gk L l k) 0 j xs = 0 ∧ firstOr (fun k => decide (gk L l k ≠ 0)) (fun _ k => inj (gk L l k)) en j xs = en) ∨
      (firstOr (fun k => decide (gk L l k ≠ 0)) (fun _ k => gk L l k) 0 j xs ≠ 0 ∧ firstOr (fun k => decide (gk L l k ≠ 0)) (fun _ k => inj (gk L l k)) en j xs = inj (firstOr (fun k => decide (gk L l k ≠ 0)) (fun _ k => gk L l k) 0 j xs)) := by
    intro xs
    induction xs with
    | nil => intro j; exact .inl ⟨rfl, rfl⟩
    | cons x t ih =>
      intro j
      unfold firstOr
      by_cases hx : gk L l x = 0
      · rw [if_neg (by simpa using hx), if_neg (by simpa using hx)]
        exact ih (j + 1)
      · rw [if_pos (by simpa using hx), if_pos (by simpa using hx)]
        exact .inr ⟨hx, rfl⟩
  exact key _ 0
theorem gk_2 {L : Int} {l : List Int} {k : Nat} (q : ¬ (1 ≤ l.getD k 0 ∧ l.getD k 0 ≤ L)) : gk L l k = 2 := by unfold gk; rw [if_neg q]
theorem gk_9 {L : Int} {l : List Int} {k : Nat} (q : 1 ≤ l.getD k 0 ∧ l.getD k 0 ≤ L) (q2 : 0 < k) (q3 : l.getD k 0 ≤ l.getD (k - 1) 0) : gk L l k = 9 := by unfold gk; rw [if_pos q, if_pos ⟨q2, q3⟩]
theorem gk_0 {L : Int} {l : List Int} {k : Nat} (q : 1 ≤ l.getD k 0 ∧ l.getD k 0 ≤ L) (q3 : 0 < k → ¬ l.getD k 0 ≤ l.getD (k - 1) 0) : gk L l k = 0 := by unfold gk; rw [if_pos q, if_neg (fun h => q3 h.1 h.2)]
theorem rchk_eq (L : Int) (l : List Int) (hl : l.length ≤ 12) : ref04_CheckRegister L l = some (chk L l) := by
  unfold ref04_CheckRegister chk
  rw [within_eq, Option.bind_some]
  by_cases h1 : 2 ≤ L ∧ L ≤ 8
  · rw [if_pos (c := decide (2 ≤ L ∧ L ≤ 8) = true) (by simpa using h1), if_neg (c := ¬ (2 ≤ L ∧ L ≤ 8)) (fun h => h h1)]
    by_cases h2 : l.length = 0
    · rw [if_pos (c := decide ((l.length : Int) = 0) = true) (by simpa using h2), if_pos (c := l.length = 0) h2]
    · rw [if_neg (c := decide ((l.length : Int) = 0) = true) (by simpa using h2), if_neg (c := l.length = 0) h2]
      obtain ⟨z, hz, hc⟩ := scan_eq (step := ref04_CheckRegister_l1 L l) (L := L) (l := l) .inl (.inr ()) (by omega) (fun k hk => by
        dsimp only [ref04_CheckRegister_l1]
        rw [if_pos (c := decide ((k : Int) < (l.length : Int)) = true) (by simpa using hk), getI_nat, getD_at hk, Option.bind_some, within_eq, Option.bind_some]
        by_cases q : 1 ≤ l.getD k 0 ∧ l.getD k 0 ≤ L
        · rw [if_pos (c := decide (1 ≤ l.getD k 0 ∧ l.getD k 0 ≤ L) = true) (by simpa using q)]
          by_cases q2 : 0 < k
          · rw [if_pos (c := decide ((k : Int) > 0) = true) (by simpa using q2), getI_of (k := k - 1) (by rw [w64 (by omega)]; omega), getD_at (by omega), Option.bind_some]
            by_cases q3 : l.getD k 0 ≤ l.getD (k - 1) 0
            · rw [if_pos (c := decide (l.getD k 0 ≤ l.getD (k - 1) 0) = true) (by simpa using q3), gk_9 q q2 q3]; rfl
            · rw [if_neg (c := decide (l.getD k 0 ≤ l.getD (k - 1) 0) = true) (by simpa using q3), gk_0 q (fun _ => q3), w64 (by omega)]; rfl
          · rw [if_neg (c := decide ((k : Int) > 0) = true) (by simpa using q2), gk_0 q (fun h => absurd h q2), w64 (by omega)]; rfl
        · rw [if_neg (c := decide (1 ≤ l.getD k 0 ∧ l.getD k 0 ≤ L) = true) (by simpa using q), gk_2 q]; rfl) (by
        dsimp only [ref04_CheckRegister_l1]
        rw [if_neg (by simp)])
      rw [hz, Option.bind_some]
      rcases hc with ⟨h3, rfl⟩ | ⟨h3, rfl⟩
      · rw [if_neg (c := ascE L l ≠ 0) (fun h => h h3)]
        dsimp only
        rw [getI_of (k := l.length - 1) (by rw [w64 (by omega)]; omega), getD_at (by omega), Option.bind_some]
        by_cases q : l.getD (l.length - 1) 0 = L <;> simp only [q, ne_eq, not_true_eq_false, not_false_eq_true, decide_true, decide_false, if_true, if_false, Bool.false_eq_true]
      · rw [if_pos (c := ascE L l ≠ 0) h3]
  · rw [if_neg (c := decide (2 ≤ L ∧ L ≤ 8) = true) (by simpa using h1), if_pos (c := ¬ (2 ≤ L ∧ L ≤ 8)) h1]
theorem contains_eq (l : List Int) (x : Int) (hl : l.length ≤ 2000) : slices_Contains_int_int l x = some (l.any fun y => decide (x = y)) := by
  unfold slices_Contains_int_int slices_Index_int_int
  have hrun := run_first (step := slices_Index_int_int_l1 l x) (fun k : Nat => (k : Int)) (fun y => decide (x = y)) (fun k _ => .inl (k : Int)) (.inr ()) l (fun k y hy => by
    have h1 := (List.getElem?_eq_some_iff.1 hy).1
    dsimp only [slices_Index_int_int_l1]
    rw [if_pos (by simpa using h1), getI_nat, hy, Option.bind_some]
    by_cases q : x = y
    · rw [if_pos (by simpa using q), if_pos (by simpa using q)]
    · rw [if_neg (by simpa using q), if_neg (by simpa using q), w64 (by omega)]; rfl) (by
    dsimp only [slices_Index_int_int_l1]
    rw [if_neg (by simp)]) (s := 0) rfl
  rw [hrun, Option.bind_some]
  have key : ∀ (xs : List Int) (j : Nat), ∃ v : Int, (match (firstOr (fun y => decide (x = y)) (fun k _ => (.inl (k : Int) : Int ⊕ Unit)) (.inr ()) j xs) with | .inl v11 => some v11 | .inr _ => some (-1)) = some v ∧ decide (v ≥ 0) = xs.any fun y => decide (x = y) := by
    intro xs
    induction xs with
    | nil => intro j; exact ⟨-1, rfl, rfl⟩
    | cons y t ih =>
      intro j
      unfold firstOr
      by_cases q : x = y
      · rw [if_pos (by simpa using q)]; exact ⟨j, rfl, by simp [q]⟩
      · rw [if_neg (by simpa using q)]
        obtain ⟨v, h1, h2⟩ := ih (j + 1)
        exact ⟨v, h1, by rw [h2]; simp [q]⟩
  obtain ⟨v, h1, h2⟩ := key l 0
  rw [← h2]
  generalize firstOr (fun y => decide (x = y)) (fun k _ => (Sum.inl (k : Int) : Int ⊕ Unit)) (Sum.inr ()) 0 l = z at *
  rcases z with z | z
  · obtain rfl := Option.some.inj h1; rfl
  · obtain rfl := Option.some.inj h1; rfl
theorem asc_mono {L : Int} {l : List Int} (h : ascE L l = 0) {j : Nat} (hj : j < l.length) : ∀ i, i < j → l.getD i 0 < l.getD j 0 := by
  induction j with
  | zero => intro i hi; omega
  | succ j ih =>
    intro i hi
    have h1 := (gk_zero (asc_zero h (j + 1) hj)).2.2 (by omega)
    rw [Nat.add_sub_cancel] at h1
    rcases Nat.lt_or_ge i j with q | q
    · have := ih (by omega) i q; omega
    · obtain rfl : i = j := by omega
      exact h1
theorem has_last {L : Int} {l : List Int} (h : ascE L l = 0) (hn : l.length ≠ 0) : (l.any fun y => decide (L = y)) = decide (l.getD (l.length - 1) 0 = L) := by
  rw [Bool.eq_iff_iff, List.any_eq_true, decide_eq_true_eq]
  constructor
  · rintro ⟨y, hy, he⟩
    have he' : L = y := by simpa using he
    obtain ⟨j, hj⟩ := List.mem_iff_getElem?.1 hy
    have hjl := (List.getElem?_eq_some_iff.1 hj).1
    have hd : l.getD j 0 = L := by rw [List.getD_eq_getElem?_getD, hj]; exact he'.symm
    rcases Nat.lt_or_ge j (l.length - 1) with q | q
    · have h1 := asc_mono h (j := l.length - 1) (by omega) j q
      have h2 := (gk_zero (asc_zero h (l.length - 1) (by omega))).2.1
      omega
    · have : l.length - 1 = j := by omega
      rw [this]; exact hd
  · intro he
    exact ⟨l.getD (l.length - 1) 0, List.mem_of_getElem? (getD_at (by omega)), by simpa using he.symm⟩
theorem pchk_eq (L : Int) (l : List Int) (hl : l.length ≤ 12) : pulse_CheckRegister L l = some (chk L l) := by
  unfold pulse_CheckRegister pulse_ascending pulse_each_e53c
  simp only [pwithin_eq, refuse_eq, Option.bind_some, contains_eq l L (show l.length ≤ 2000 by omega)]
  unfold pulse_firstError_6869 chk
  rw [refuse1_eq, Option.bind_some]
  by_cases h1 : 2 ≤ L ∧ L ≤ 8
  · rw [if_neg (c := ¬ (2 ≤ L ∧ L ≤ 8)) (by simpa using h1)]
    rw [show decide (2 ≤ L ∧ L ≤ 8) = true by simpa using h1]
    simp only [Bool.not_true, Bool.false_eq_true, if_false, ne_eq, not_true_eq_false, decide_false, refuse1_eq, Option.bind_some]
    by_cases h2 : l.length = 0
    · rw [if_pos h2]
      have : (l.length : Int) = 0 := by omega
      simp [this]
    · have h2' : ¬ (l.length : Int) = 0 := by omega
      rw [if_neg h2]
      simp only [h2', decide_false, Bool.false_eq_true, if_false, not_true_eq_false]
      unfold pulse_each_c1_4fde
      obtain ⟨z, hz, hc⟩ := scan_eq (step := pulse_each_c1_4fde_l1 l.length l 1 L) (L := L) (l := l) .inl (.inr ()) (by omega) (fun k hk => by
        dsimp only [pulse_each_c1_4fde_l1]
        rw [if_pos (by simpa using hk)]
        have hasc : pulse_ascending_c1_ea58 k l 1 L = some (gk L l k) := by
          unfold pulse_ascending_c1_ea58 pulse_firstError_9abe
          rw [getI_nat, getD_at hk, Option.bind_some, pwithin_eq, Option.bind_some]
          dsimp only
          by_cases q : 1 ≤ l.getD k 0 ∧ l.getD k 0 ≤ L
          · rw [show decide (1 ≤ l.getD k 0 ∧ l.getD k 0 ≤ L) = true by simpa using q]
            by_cases q2 : 0 < k
            · rw [if_pos (by simpa using q2), getI_of (k := k - 1) (by rw [w64 (by omega)]; omega), getD_at (by omega), Option.bind_some, refuse_eq, Option.bind_some]
              dsimp only
              simp only [refuse1_eq, Option.bind_some, Bool.not_true, Bool.false_eq_true, if_false, ne_eq, not_true_eq_false, decide_false]
              by_cases q3 : l.getD k 0 ≤ l.getD (k - 1) 0
              · rw [gk_9 q q2 q3]; simp only [q3, decide_true, if_true]; rfl
              · rw [gk_0 q (fun _ => q3)]; simp only [q3, decide_false, Bool.false_eq_true, if_false]; rfl
            · rw [if_neg (by simpa using q2), gk_0 q (fun h => absurd h q2), refuse_eq, Option.bind_some]
              dsimp only
              simp only [refuse1_eq, Option.bind_some, Bool.not_true, Bool.false_eq_true, if_false, ne_eq, not_true_eq_false, decide_false]
          · rw [gk_2 q, show decide (1 ≤ l.getD k 0 ∧ l.getD k 0 ≤ L) = false by simpa using q]
            by_cases q2 : 0 < k
            · rw [if_pos (by simpa using q2), getI_of (k := k - 1) (by rw [w64 (by omega)]; omega), getD_at (by omega), Option.bind_some, refuse_eq, Option.bind_some]
              dsimp only
              simp only [refuse1_eq, Option.bind_some, Bool.not_false, if_true]; rfl
            · rw [if_neg (by simpa using q2), refuse_eq, Option.bind_some]
              dsimp only
              simp only [refuse1_eq, Option.bind_some, Bool.not_false, if_true]; rfl
        rw [hasc, Option.bind_some]
        by_cases q : gk L l k = 0
        · rw [if_neg (by simpa using q), if_neg (by simpa using q), w64 (by omega)]; rfl
        · rw [if_pos (by simpa using q), if_pos q]) (by
        dsimp only [pulse_each_c1_4fde_l1]
        rw [if_neg (by simp)])
      rw [hz, Option.bind_some]
      rcases hc with ⟨h3, rfl⟩ | ⟨h3, rfl⟩
      · rw [has_last h3 h2, if_neg (c := ¬ ascE L l = 0) (fun h => h h3)]
        dsimp only [Option.bind_some]
        by_cases q : l.getD (l.length - 1) 0 = L <;> simp only [q, decide_true, decide_false, Bool.not_true, Bool.not_false, if_true, if_false, Bool.false_eq_true, ne_eq, not_true_eq_false, not_false_eq_true, Option.bind_some, refuse1_eq] <;> rfl
      · rw [if_pos (c := ¬ ascE L l = 0) h3]
        dsimp only [Option.bind_some]
        simp only [h3, not_false_eq_true, decide_true, if_true, Option.bind_some]
  · rw [if_pos (c := ¬ (2 ≤ L ∧ L ≤ 8)) h1, show decide (2 ≤ L ∧ L ≤ 8) = false by simpa using h1]
    simp
/-- what a right register is -/
theorem reg_of {L : Int} {l : List Int} (hl : l.length ≤ 12) (h : chk L l = 0) : ∃ (n : Nat) (ts : List Nat), L = n ∧ l = ints ts ∧ Reg n ts := by
  unfold chk at h
  split at h
  · cases h
  rename_i h1
  split at h
  · cases h
  rename_i h2
  split at h
  · rename_i h3; exact absurd h h3
  rename_i h3
  split at h
  · cases h
  rename_i h4
  have h1' : 2 ≤ L ∧ L ≤ 8 := Classical.not_not.1 h1
  have h3' : ascE L l = 0 := Classical.not_not.1 h3
  have h4' : l.getD (l.length - 1) 0 = L := Classical.not_not.1 h4
  have hpos : ∀ x, x ∈ l → 1 ≤ x ∧ x ≤ L := fun x hx => by
    obtain ⟨j, hj⟩ := List.mem_iff_getElem?.1 hx
    have hjl := (List.getElem?_eq_some_iff.1 hj).1
    have := gk_zero (asc_zero h3' j hjl)
    have hd : l.getD j 0 = x := by rw [List.getD_eq_getElem?_getD, hj]; rfl
    rw [hd] at this
    exact ⟨this.1, this.2.1⟩
  have he : l = ints (l.map Int.toNat) := by
    unfold ints
    rw [List.map_map]
    conv => lhs; rw [← List.map_id l]
    apply List.map_congr_left
    intro x hx
    have := hpos x hx
    simp; omega
  refine ⟨L.toNat, l.map Int.toNat, by omega, he, ⟨by omega, by omega, fun t ht => ?_, ?_, by simpa using hl⟩⟩
  · obtain ⟨x, hx, rfl⟩ := List.mem_map.1 ht
    have := hpos x hx
    omega
  · refine ⟨(l.take (l.length - 1)).map Int.toNat, ?_, fun t ht => ?_⟩
    · have : l = l.take (l.length - 1) ++ [L] := by
        conv => lhs; rw [← List.take_append_drop (l.length - 1) l]
        congr 1
        have hx : l[l.length - 1]? = some L := by rw [getD_at (by omega), h4']
        obtain ⟨k, hk⟩ : ∃ k, l.length = k + 1 := ⟨l.length - 1, by omega⟩
        rw [List.drop_eq_getElem_cons (by omega)]
        rw [show l.length - 1 + 1 = l.length by omega, List.drop_length]
        congr 1
        have := (List.getElem?_eq_some_iff.1 hx).2
        exact this
      conv => lhs; rw [this]
      simp
    · obtain ⟨x, hx, rfl⟩ := List.mem_map.1 ht
      obtain ⟨i, hi⟩ := List.mem_iff_getElem?.1 hx
      rw [List.getElem?_take] at hi
      split at hi
      · rename_i hlt
        have hd : l.getD i 0 = x := by rw [List.getD_eq_getElem?_getD, hi]; rfl
        have := asc_mono h3' (j := l.length - 1) (by omega) i (by omega)
        have := hpos x (List.mem_of_getElem? hi)
        omega
      · cases hi
theorem pcheck_eq (L : Int) (l : List Int) (hl : l.length ≤ 12) : pulse_generator_check L l = some (chk L l) := by
  unfold pulse_generator_check
  rw [pchk_eq L l hl]; rfl
end Go.Rex

namespace Go.Rex
theorem most_eq {L : Nat} (hL : L ≤ 8) (l : List Int) : ref04_Most L l = some ((2 ^ L - 1 : Nat) : Int) := by
  have hp : 2 ^ L ≤ 2 ^ 8 := Nat.pow_le_pow_right (by omega) hL
  have hp0 := Nat.two_pow_pos L
  unfold ref04_Most
  have hrun := run_count (step := ref04_Most_l1 L) (e := ((2 ^ L : Nat) : Int)) (fun k => (((2 ^ k : Nat) : Int), (k : Int))) (n := L) (fun k hk => ?_) ?_
  · rw [show ((1 : Int), (0 : Int)) = (((2 ^ 0 : Nat) : Int), ((0 : Nat) : Int)) from rfl, hrun, Option.bind_some, w64 (by omega)]
    congr 1; omega
  · dsimp only [ref04_Most_l1]
    have hk2 : 2 ^ k ≤ 2 ^ 8 := Nat.pow_le_pow_right (by omega) (by omega)
    have hk3 := Nat.two_pow_pos k
    rw [if_pos (by simpa using hk), w64 (x := 2 * ((2 ^ k : Nat) : Int)) (by omega), w64 (x := (k : Int) + 1) (by omega), Nat.pow_succ]
    congr 3; omega
  · dsimp only [ref04_Most_l1]
    rw [if_neg (by simp)]
theorem full_eq {L : Nat} (hL : L ≤ 8) (l : List Int) : pulse_generator_fullPeriod L l = some ((2 ^ L - 1 : Nat) : Int) := by
  have hp : 2 ^ L ≤ 2 ^ 8 := Nat.pow_le_pow_right (by omega) hL
  have hp0 := Nat.two_pow_pos L
  unfold pulse_generator_fullPeriod
  rw [show (1 : Int) = ((1 : Nat) : Int) from rfl, shl_eq (k := L) (by omega) (by omega) rfl, Option.bind_some]
  rw [w64 (by omega)]
  congr 1; omega
end Go.Rex

namespace Go.Rex
variable {L : Nat} {ts : List Nat} {s : Nat}
theorem stateAt_eq (hr : Reg L ts) (h0 : 0 < s) (hs : s < 2 ^ L) {n : Nat} (hn : n ≤ 1000000000) : pulse_generator_stateAt L (ints ts) s n = some ((stt L ts s n : Nat) : Int) := by
  unfold pulse_generator_stateAt
  have hrun := run_count (step := pulse_generator_stateAt_l1 L (ints ts) n) (e := ((stt L ts s n : Nat) : Int)) (fun k => (((stt L ts s k : Nat) : Int), (k : Int))) (n := n) (fun k hk => ?_) ?_
  · rw [show (((s : Nat) : Int), (0 : Int)) = (((stt L ts s 0 : Nat) : Int), ((0 : Nat) : Int)) from rfl, hrun]
    rfl
  · dsimp only [pulse_generator_stateAt_l1]
    rw [if_pos (by simpa using hk), next_eq hr (stt_ok hr h0 hs k).2, Option.bind_some, w64 (x := (k : Int) + 1) (by omega)]
    rfl
  · dsimp only [pulse_generator_stateAt_l1]
    rw [if_neg (by simp)]
end Go.Rex

namespace Go.Rex
/-! ### loops that are run -/
def runF {σ ε : Type} (step : σ → Option (σ ⊕ ε)) : Nat → σ → Option ε
  | 0, _ => none
  | k + 1, s => match step s with
    | some (.inl s') => runF step k s'
    | some (.inr e) => some e
    | none => none
theorem run_of_F {σ ε : Type} {step : σ → Option (σ ⊕ ε)} : ∀ (k : Nat) {s : σ} {e : ε}, runF step k s = some e → run step s = some e
  | 0, s, e, h => by cases h
  | k + 1, s, e, h => by
    unfold runF at h
    cases hs : step s with
    | none => rw [hs] at h; cases h
    | some r =>
      rw [hs] at h
      cases r with
      | inl s' => rw [run_next hs]; exact run_of_F k h
      | inr e' => obtain rfl := Option.some.inj h; exact run_stop hs
noncomputable def stepP : Int × List Int × Int → Option ((Int × List Int × Int) ⊕ List Int) := fun (v3, v4, v5) =>
  if v3 > 1 then
    (if v5 = 0 then none else
    (if v3.tmod v5 = 0 then
      ((appI 8 v4 ([v5] : List Int)).bind fun v11 =>
      (runF (ref04_Primes_l2 v5) 20 v3).bind fun v14 =>
      some (.inl (v14, v11, (IntKind.i64.wrap (v5 + 1)))))
    else some (.inl (v3, v4, (IntKind.i64.wrap (v5 + 1))))))
  else some (.inr v4)
theorem stepP_ok {s : Int × List Int × Int} {x : (Int × List Int × Int) ⊕ List Int} (h : stepP s = some x) : ref04_Primes_l1 s = some x := by
  obtain ⟨v3, v4, v5⟩ := s
  unfold stepP at h
  unfold ref04_Primes_l1
  simp only at h ⊢
  by_cases h1 : v3 > 1
  · rw [if_pos h1] at h
    rw [if_pos (by simpa using h1)]
    by_cases h2 : v5 = 0
    · rw [if_pos h2] at h; cases h
    · rw [if_neg h2] at h ⊢
      by_cases h3 : v3.tmod v5 = 0
      · rw [if_pos h3] at h
        rw [if_pos (by simpa using h3)]
        simp only [Option.bind_eq_some_iff] at h ⊢
        obtain ⟨a, ha, b, hb, hx⟩ := h
        exact ⟨a, ha, b, run_of_F 20 hb, hx⟩
      · rw [if_neg h3] at h
        rw [if_neg (by simpa using h3)]
        have : run ref04_Primes_l3 () = some () := run_stop rfl
        rw [this]
        exact h
  · rw [if_neg h1] at h
    rw [if_neg (by simpa using h1)]
    exact h
theorem primes_of {k : Nat} {n : Int} {l : List Int} (h : runF stepP k (n, [], 2) = some l) : ref04_Primes n = some l := by
  have key : ∀ (k : Nat) (s : Int × List Int × Int) (l : List Int), runF stepP k s = some l → run ref04_Primes_l1 s = some l := by
    intro k
    induction k with
    | zero => intro s l h; cases h
    | succ k ih =>
      intro s l h
      unfold runF at h
      cases hs : stepP s with
      | none => rw [hs] at h; cases h
      | some r =>
        rw [hs] at h
        cases r with
        | inl s' => rw [run_next (stepP_ok hs)]; exact ih _ _ h
        | inr e' => obtain rfl := Option.some.inj h; exact run_stop (stepP_ok hs)
  unfold ref04_Primes
  rw [key k _ l h]
  rfl
/-- the primes of 2^L - 1 -/
def prs (L : Nat) : List Nat := match L with
  | 2 => [3]
  | 3 => [7]
  | 4 => [3, 5]
  | 5 => [31]
  | 6 => [3, 7]
  | 7 => [127]
  | _ => [3, 5, 17]
theorem lens {L : Nat} (h2 : 2 ≤ L) (h8 : L ≤ 8) : L = 2 ∨ L = 3 ∨ L = 4 ∨ L = 5 ∨ L = 6 ∨ L = 7 ∨ L = 8 := by omega
theorem prs_eq {L : Nat} (h2 : 2 ≤ L) (h8 : L ≤ 8) : ref04_Primes ((2 ^ L - 1 : Nat) : Int) = some (ints (prs L)) := by
  rcases lens h2 h8 with rfl | rfl | rfl | rfl | rfl | rfl | rfl <;> exact primes_of (k := 300) (by decide +kernel)
theorem prime_prs {L p : Nat} (hp : p ∈ prs L) : pulse_isPrime (p : Int) = some true ∧ 2 ≤ p ∧ p ≤ 127 := by
  have h : p = 3 ∨ p = 5 ∨ p = 7 ∨ p = 17 ∨ p = 31 ∨ p = 127 := by
    unfold prs at hp
    split at hp <;> simp at hp <;> omega
  have key : ∀ p : Nat, runF (pulse_isPrime_l1 (p : Int)) 300 2 = some (.inr ()) → pulse_isPrime (p : Int) = some true := by
    intro p h
    unfold pulse_isPrime
    rw [run_of_F 300 h]
    rfl
  rcases h with rfl | rfl | rfl | rfl | rfl | rfl <;> exact ⟨key _ (by decide +kernel), by omega, by omega⟩
section
variable {L : Nat} {ts : List Nat}
theorem isMax_eq (hr : Reg L ts) {n : Nat} (hp : isPer L ts 1 n) (hn : n ≤ 2 ^ L - 1) : pulse_generator_isMaximal L (ints ts) = some (decide (n = 2 ^ L - 1)) := by
  unfold pulse_generator_isMaximal
  have := period_eq hr (s := 1) (by omega) (one_lt hr) hp hn
  rw [show (1 : Int) = ((1 : Nat) : Int) from rfl, this, Option.bind_some, full_eq hr.most, Option.bind_some]
  by_cases h : n = 2 ^ L - 1
  · simp [h]
  · have h' : ¬ ((n : Int) = ((2 ^ L - 1 : Nat) : Int)) := by omega
    rw [decide_eq_false h, decide_eq_false h']
theorem tmod_nat' (a b : Nat) : (a : Int).tmod (b : Int) = ((a % b : Nat) : Int) := by
  rw [Int.tmod_eq_emod_of_nonneg (by omega)]; omega
theorem tdiv_nat' (a b : Nat) : (a : Int).tdiv (b : Int) = ((a / b : Nat) : Int) := by
  rw [Int.tdiv_eq_ediv_of_nonneg (by omega)]; exact (Int.natCast_ediv a b).symm
/-- one prime after the other -/
noncomputable def rest : List Nat → Int → Option Int
  | [], r => some r
  | p :: ps, r => (runF (pulse_without_l1 (p : Int)) 20 r).bind (rest ps)
theorem proved_run (hr : Reg L ts) {all : Nat} (hall : all ≤ 255) : ∀ (done todo : List Nat) (r r' : Int), (∀ p, p ∈ todo → pulse_isPrime (p : Int) = some true ∧ 2 ≤ p ∧ p ≤ 127) → (∀ p, p ∈ todo → all % p = 0) → (done ++ todo).length ≤ 8 → rest todo r = some r' →
    run (pulse_generator_isProvedBy_l1 L (ints ts) (ints (done ++ todo)) all) (r, (done.length : Int)) = some (if ∀ p, p ∈ todo → stt L ts 1 (all / p) ≠ 1 then .inr r' else .inl ()) := by
  intro done todo
  induction todo generalizing done with
  | nil =>
    intro r r' _ _ _ hrest
    obtain rfl := Option.some.inj hrest
    rw [if_pos (fun p hp => by cases hp)]
    refine run_stop ?_
    dsimp only [pulse_generator_isProvedBy_l1]
    rw [if_neg (by simp)]
  | cons p ps ih =>
    intro r r' h1 h2 hlen hrest
    obtain ⟨hpr, hp2, hp7⟩ := h1 p (by simp)
    have hdiv := h2 p (by simp)
    simp only [rest, Option.bind_eq_some_iff] at hrest
    obtain ⟨r1, hr1, hrest⟩ := hrest
    have hg : (ints (done ++ p :: ps))[done.length]? = some (p : Int) := by simp
    have hdl : all / p ≤ all := Nat.div_le_self _ _
    have hstep : pulse_generator_isProvedBy_l1 L (ints ts) (ints (done ++ p :: ps)) all (r, (done.length : Int)) = if stt L ts 1 (all / p) = 1 then some (.inr (.inl ())) else some (.inl (r1, ((done.length + 1 : Nat) : Int))) := by
      dsimp only [pulse_generator_isProvedBy_l1]
      have e1 : (1 : Int) = ((1 : Nat) : Int) := rfl
      rw [if_pos (by simp; omega), getI_nat, hg, Option.bind_some, hpr, Option.bind_some, if_pos rfl, if_neg (show ¬ (p : Int) = 0 by omega), tmod_nat', hdiv, if_neg (by simp), tdiv_nat', w64n (by omega)]
      rw [show pulse_generator_stateAt (L : Int) (ints ts) 1 ((all / p : Nat) : Int) = some ((stt L ts 1 (all / p) : Nat) : Int) from stateAt_eq hr (s := 1) (by omega) (one_lt hr) (by omega), Option.bind_some]
      by_cases q : stt L ts 1 (all / p) = 1
      · rw [if_pos q, q, if_pos (by simp)]
      · rw [if_neg q, if_neg (by simp only [decide_eq_true_eq]; omega)]
        unfold pulse_without
        rw [run_of_F 20 hr1]
        simp only [Option.bind_some]
        rw [w64 (x := (done.length : Int) + 1) (by simp at hlen; omega)]
        rfl
    by_cases q : stt L ts 1 (all / p) = 1
    · rw [if_pos q] at hstep
      rw [run_stop hstep, if_neg (fun h => h p (by simp) q)]
    · rw [if_neg q] at hstep
      rw [run_next hstep]
      have := ih (done ++ [p]) r1 r' (fun x hx => h1 x (by simp [hx])) (fun x hx => h2 x (by simp [hx])) (by simpa using hlen) hrest
      rw [List.append_assoc, List.singleton_append, List.length_append] at this
      rw [show ((done.length + 1 : Nat) : Int) = ((done.length + [p].length : Nat) : Int) from rfl, this]
      congr 1
      by_cases q2 : ∀ x, x ∈ ps → stt L ts 1 (all / x) ≠ 1
      · rw [if_pos q2, if_pos (fun x hx => by rcases List.mem_cons.1 hx with rfl | hx; exact q; exact q2 x hx)]
      · rw [if_neg q2, if_neg (fun h => q2 fun x hx => h x (by simp [hx]))]
theorem maxi_iff (hr : Reg L ts) {n : Nat} (hp : isPer L ts 1 n) (hn : n ≤ 2 ^ L - 1) : n = 2 ^ L - 1 ↔ (∀ p, p ∈ prs L → stt L ts 1 ((2 ^ L - 1) / p) ≠ 1) ∧ stt L ts 1 (2 ^ L - 1) = 1 := by
  have hd : ∀ m, stt L ts 1 m = 1 ↔ n ∣ m := fun m => per_dvd hr (by omega) (one_lt hr) hp
  simp only [ne_eq, hd]
  have h1 : 1 ≤ n := hp.1.1
  clear hd hp
  have key : ∀ L, 2 ≤ L → L ≤ 8 → ∀ n, n ≤ 2 ^ L - 1 → (n = 2 ^ L - 1 ↔ (∀ p, p ∈ prs L → ¬ n ∣ (2 ^ L - 1) / p) ∧ n ∣ 2 ^ L - 1) := by
    intro L h2 h8
    rcases lens h2 h8 with rfl | rfl | rfl | rfl | rfl | rfl | rfl <;> decide +kernel
  exact key L hr.two hr.most n hn
theorem provedBy_eq (hr : Reg L ts) {n : Nat} (hp : isPer L ts 1 n) (hn : n ≤ 2 ^ L - 1) : pulse_generator_isProvedBy L (ints ts) (ints (prs L)) = some (decide (n = 2 ^ L - 1)) := by
  have h8 := hr.most
  have hp8 : 2 ^ L ≤ 256 := Nat.pow_le_pow_right (n := 2) (by omega) h8
  have hpr : ∀ p, p ∈ prs L → (2 ^ L - 1) % p = 0 := by
    have : ∀ L, 2 ≤ L → L ≤ 8 → ∀ p, p ∈ prs L → (2 ^ L - 1) % p = 0 := by
      intro L h2 h8
      rcases lens h2 h8 with rfl | rfl | rfl | rfl | rfl | rfl | rfl <;> decide +kernel
    exact this L hr.two h8
  have hrest : rest (prs L) ((2 ^ L - 1 : Nat) : Int) = some 1 ∧ (prs L).length ≤ 8 := by
    have : ∀ L, 2 ≤ L → L ≤ 8 → rest (prs L) ((2 ^ L - 1 : Nat) : Int) = some 1 ∧ (prs L).length ≤ 8 := by
      intro L h2 h8
      rcases lens h2 h8 with rfl | rfl | rfl | rfl | rfl | rfl | rfl <;> decide +kernel
    exact this L hr.two h8
  unfold pulse_generator_isProvedBy
  rw [full_eq h8, Option.bind_some]
  have hrun := proved_run hr (all := 2 ^ L - 1) (by omega) [] (prs L) ((2 ^ L - 1 : Nat) : Int) 1 (fun p hp => prime_prs hp) hpr hrest.2 hrest.1
  rw [List.nil_append] at hrun
  rw [show ((([] : List Nat).length : Nat) : Int) = 0 from rfl] at hrun
  rw [hrun, Option.bind_some]
  have hst : pulse_generator_stateAt (L : Int) (ints ts) 1 ((2 ^ L - 1 : Nat) : Int) = some ((stt L ts 1 (2 ^ L - 1) : Nat) : Int) := stateAt_eq hr (s := 1) (by omega) (one_lt hr) (by omega)
  have hiff := maxi_iff hr hp hn
  by_cases q : ∀ p, p ∈ prs L → stt L ts 1 ((2 ^ L - 1) / p) ≠ 1
  · rw [if_pos q]
    simp only [decide_true, if_true, hst, Option.bind_some]
    congr 1
    by_cases q2 : stt L ts 1 (2 ^ L - 1) = 1
    · rw [q2, decide_eq_true (hiff.2 ⟨q, q2⟩)]; rfl
    · rw [decide_eq_false (fun h => q2 (hiff.1 h).2), decide_eq_false (by omega)]
  · rw [if_neg q]
    simp only
    rw [decide_eq_false (fun h => q (hiff.1 h).1)]
end
end Go.Rex

namespace Go.Rex
def gkG (lo L : Int) (l : List Int) (k : Nat) : Int :=
  if lo ≤ l.getD k 0 ∧ l.getD k 0 ≤ L then (if 0 < k ∧ l.getD k 0 ≤ l.getD (k - 1) 0 then 9 else 0) else 2
def ascG (lo L : Int) (l : List Int) : Int := firstOr (fun k => decide (gkG lo L l k ≠ 0)) (fun _ k => gkG lo L l k) 0 0 (List.range l.length)

theorem asc_zeroG {lo L : Int} {l : List Int} (h : ascG lo L l = 0) : ∀ k, k < l.length → gkG lo L l k = 0 := by
  have key : ∀ (xs : List Nat) (j : Nat), firstOr (fun k => decide (gkG lo L l k ≠ 0)) (fun _ k => gkG lo L l k) 0 j xs = 0 → ∀ k, k ∈ xs → gkG lo L l k = 0 := by
    intro xs
    induction xs with
    | nil => intro j _ k hk; cases hk
    | cons x t ih =>
      intro j hj k hk
      unfold firstOr at hj
      by_cases hx : gkG lo L l x = 0
      · rw [if_neg (by simpa using hx)] at hj
        rcases List.mem_cons.1 hk with rfl | hk
        · exact hx
        · exact ih _ hj k hk
      · rw [if_pos (by simpa using hx)] at hj
        exact absurd hj hx
  intro k hk
  exact key _ 0 h k (List.mem_range.2 hk)
theorem gk_zeroG {lo L : Int} {l : List Int} {k : Nat} (h : gkG lo L l k = 0) : lo ≤ l.getD k 0 ∧ l.getD k 0 ≤ L ∧ (0 < k → l.getD (k - 1) 0 < l.getD k 0) := by
  unfold gkG at h
  split at h
  · rename_i h1
    split at h
    · cases h
    · rename_i h2
      exact ⟨h1.1, h1.2, fun hk => by omega⟩
  · cases h
theorem scan_eqG {ε : Type} {step : Int → Option (Int ⊕ ε)} {lo L : Int} {l : List Int} (inj : Int → ε) (en : ε) (hl : l.length ≤ 2000) (hs : ∀ k : Nat, k < l.length → step (k : Int) = some (if gkG lo L l k ≠ 0 then .inr (inj (gkG lo L l k)) else .inl ((k + 1 : Nat) : Int))) (he : step (l.length : Int) = some (.inr en)) :
    ∃ z, run step 0 = some z ∧ ((ascG lo L l = 0 ∧ z = en) ∨ (ascG lo L l ≠ 0 ∧ z = inj (ascG lo L l))) := by
  have hrun := run_first (step := step) (fun k : Nat => (k : Int)) (fun k => decide (gkG lo L l k ≠ 0)) (fun _ k => inj (gkG lo L l k)) en (List.range l.length) (fun k x hx => by
    obtain ⟨h1, h2⟩ := List.getElem?_eq_some_iff.1 hx
    rw [List.getElem_range] at h2
    subst h2
    rw [hs k (by simpa using h1)]
    by_cases q : gkG lo L l k = 0 <;> simp [q]) (by simpa using he) (s := 0) rfl
  refine ⟨_, hrun, ?_⟩
  have key : ∀ (xs : List Nat) (j : Nat), (firstOr (fun k => decide (gkG lo L l k ≠ 0)) (fun _ k => gkG lo L l k) 0 j xs = 0 ∧ firstOr (fun k => decide (gkG lo L l k ≠ 0)) (fun _ k => inj (gkG lo L l k)) en j xs = en) ∨
      (firstOr (fun k => decide (gkG lo L l k ≠ 0)) (fun _ k => gkG lo L l k) 0 j xs ≠ 0 ∧ firstOr (fun k => decide (gkG lo L l k ≠ 0)) (fun _ k => inj (gkG lo L l k)) en j xs = inj (firstOr (fun k => decide (gkG lo L l k ≠ 0)) (fun _ k => gkG lo L l k) 0 j xs)) := by
    intro xs
    induction xs with
    | nil => intro j; exact .inl ⟨rfl, rfl⟩
    | cons x t ih =>
      intro j
      unfold firstOr
      by_cases hx : gkG lo L l x = 0
      · rw [if_neg (by simpa using hx), if_neg (by simpa using hx)]
        exact ih (j + 1)
      · rw [if_pos (by simpa using hx), if_pos (by simpa using hx)]
        exact .inr ⟨hx, rfl⟩
  exact key _ 0
theorem gk_2G {lo L : Int} {l : List Int} {k : Nat} (q : ¬ (lo ≤ l.getD k 0 ∧ l.getD k 0 ≤ L)) : gkG lo L l k = 2 := by unfold gkG; rw [if_neg q]
theorem gk_9G {lo L : Int} {l : List Int} {k : Nat} (q : lo ≤ l.getD k 0 ∧ l.getD k 0 ≤ L) (q2 : 0 < k) (q3 : l.getD k 0 ≤ l.getD (k - 1) 0) : gkG lo L l k = 9 := by unfold gkG; rw [if_pos q, if_pos ⟨q2, q3⟩]
theorem gk_0G {lo L : Int} {l : List Int} {k : Nat} (q : lo ≤ l.getD k 0 ∧ l.getD k 0 ≤ L) (q3 : 0 < k → ¬ l.getD k 0 ≤ l.getD (k - 1) 0) : gkG lo L l k = 0 := by unfold gkG; rw [if_pos q, if_neg (fun h => q3 h.1 h.2)]

theorem asc_monoG {lo L : Int} {l : List Int} (h : ascG lo L l = 0) {j : Nat} (hj : j < l.length) : ∀ i, i < j → l.getD i 0 < l.getD j 0 := by
  induction j with
  | zero => intro i hi; omega
  | succ j ih =>
    intro i hi
    have h1 := (gk_zeroG (asc_zeroG h (j + 1) hj)).2.2 (by omega)
    rw [Nat.add_sub_cancel] at h1
    rcases Nat.lt_or_ge i j with q | q
    · have := ih (by omega) i q; omega
    · obtain rfl : i = j := by omega
      exact h1

theorem pasc_eq (lo hi : Int) (l : List Int) (hl : l.length ≤ 2000) : pulse_each_c1_4fde (l.length : Int) l lo hi = some (ascG lo hi l) := by
  unfold pulse_each_c1_4fde
  obtain ⟨z, hz, hc⟩ := scan_eqG (step := pulse_each_c1_4fde_l1 l.length l lo hi) (lo := lo) (L := hi) (l := l) .inl (.inr ()) hl (fun k hk => by
    dsimp only [pulse_each_c1_4fde_l1]
    rw [if_pos (by simpa using hk)]
    have hasc : pulse_ascending_c1_ea58 k l lo hi = some (gkG lo hi l k) := by
      unfold pulse_ascending_c1_ea58 pulse_firstError_9abe
      rw [getI_nat, getD_at hk, Option.bind_some, pwithin_eq, Option.bind_some]
      dsimp only
      by_cases q : lo ≤ l.getD k 0 ∧ l.getD k 0 ≤ hi
      · rw [show decide (lo ≤ l.getD k 0 ∧ l.getD k 0 ≤ hi) = true by simpa using q]
        by_cases q2 : 0 < k
        · rw [if_pos (by simpa using q2), getI_of (k := k - 1) (by rw [w64 (by omega)]; omega), getD_at (by omega), Option.bind_some, refuse_eq, Option.bind_some]
          dsimp only
          simp only [refuse1_eq, Option.bind_some, Bool.not_true, Bool.false_eq_true, if_false, ne_eq, not_true_eq_false, decide_false]
          by_cases q3 : l.getD k 0 ≤ l.getD (k - 1) 0
          · rw [gk_9G q q2 q3]; simp only [q3, decide_true, if_true]; rfl
          · rw [gk_0G q (fun _ => q3)]; simp only [q3, decide_false, Bool.false_eq_true, if_false]; rfl
        · rw [if_neg (by simpa using q2), gk_0G q (fun h => absurd h q2), refuse_eq, Option.bind_some]
          dsimp only
          simp only [refuse1_eq, Option.bind_some, Bool.not_true, Bool.false_eq_true, if_false, ne_eq, not_true_eq_false, decide_false]
      · rw [gk_2G q, show decide (lo ≤ l.getD k 0 ∧ l.getD k 0 ≤ hi) = false by simpa using q]
        by_cases q2 : 0 < k
        · rw [if_pos (by simpa using q2), getI_of (k := k - 1) (by rw [w64 (by omega)]; omega), getD_at (by omega), Option.bind_some, refuse_eq, Option.bind_some]
          dsimp only
          simp only [refuse1_eq, Option.bind_some, Bool.not_false, if_true]; rfl
        · rw [if_neg (by simpa using q2), refuse_eq, Option.bind_some]
          dsimp only
          simp only [refuse1_eq, Option.bind_some, Bool.not_false, if_true]; rfl
    rw [hasc, Option.bind_some]
    by_cases q : gkG lo hi l k = 0
    · rw [if_neg (by simpa using q), if_neg (by simpa using q), w64 (by omega)]; rfl
    · rw [if_pos (by simpa using q), if_pos q]) (by
    dsimp only [pulse_each_c1_4fde_l1]
    rw [if_neg (by simp)])
  rw [hz, Option.bind_some]
  rcases hc with ⟨h3, rfl⟩ | ⟨h3, rfl⟩
  · rw [h3]
  · rfl
end Go.Rex

namespace Go.Rex
/-- two lists of numbers are compared -/
theorem intsE (a b : List Int) (h : a.length ≤ 2 ^ 40) : base_Ints a b = some (decide (a = b)) := by
  unfold base_Ints
  by_cases hl : a.length = b.length
  · rw [if_neg (by simp only [ne_eq, decide_eq_true_eq]; omega)]
    have hrun := run_first (step := base_Ints_l1 a b) (fun k : Nat => (k : Int)) (fun k => decide (a[k]? ≠ b[k]?)) (fun _ _ => .inl ()) (.inr ()) (List.range a.length) (fun k x hx => by
      obtain ⟨h1, h2⟩ := List.getElem?_eq_some_iff.1 hx
      rw [List.getElem_range] at h2
      subst h2
      have hk : k < a.length := by simpa using h1
      dsimp only [base_Ints_l1]
      rw [if_pos (by simpa using hk), getI_nat, getI_nat, List.getElem?_eq_getElem hk, List.getElem?_eq_getElem (show k < b.length by omega), Option.bind_some, Option.bind_some]
      by_cases q : a[k] = b[k]'(by omega)
      · rw [if_neg (by simpa using q), if_neg (by simpa using q), w64 (by omega)]; rfl
      · rw [if_pos (by simpa using q), if_pos (by simpa using q)]) (by
      dsimp only [base_Ints_l1]
      rw [if_neg (by simp)]) (s := 0) rfl
    rw [hrun, Option.bind_some]
    rw [firstOr_all]
    by_cases q : a = b
    · subst q
      rw [if_pos (by simp), decide_eq_true rfl]
    · rw [if_neg, decide_eq_false q]
      intro hall
      apply q
      apply List.ext_getElem?
      intro i
      rcases Nat.lt_or_ge i a.length with hi | hi
      · have := List.all_eq_true.1 hall i (List.mem_range.2 hi)
        simpa using this
      · rw [List.getElem?_eq_none hi, List.getElem?_eq_none (by omega)]
  · rw [if_pos (by simp only [decide_eq_true_eq]; omega), decide_eq_false (fun e => hl (by rw [e]))]
end Go.Rex

namespace Go.Rex
section
variable {L : Nat} {ts : List Nat} {s : Nat}
/-! the reference -/
theorem tmod2 (x : Nat) : (x : Int).tmod 2 = ((x % 2 : Nat) : Int) := by
  rw [Int.tmod_eq_emod_of_nonneg (by omega)]; omega
theorem tdiv2 (x : Nat) : (x : Int).tdiv 2 = ((x / 2 : Nat) : Int) := by
  rw [Int.tdiv_eq_ediv_of_nonneg (by omega)]; omega
theorem sum_mod (f : Nat → Nat) : ∀ (l : List Nat) (a : Nat), l.foldl (fun a p => a + f p) a % 2 = l.foldl (fun a p => (a + f p) % 2) (a % 2)
  | [], a => rfl
  | p :: l, a => by
    simp only [List.foldl_cons]
    rw [sum_mod f l]
    congr 1
    omega
theorem sum_le (f : Nat → Nat) (hf : ∀ p, f p ≤ 1) : ∀ (l : List Nat) (a : Nat), l.foldl (fun a p => a + f p) a ≤ a + l.length
  | [], a => by simp
  | p :: l, a => by
    simp only [List.foldl_cons, List.length_cons]
    have := sum_le f hf l (a + f p)
    have := hf p
    omega
theorem refBits_eq (hr : Reg L ts) (h0 : 0 < s) (hs : s < 2 ^ L) {n : Nat} (hn : n ≤ 2000) : ref04_Bits L (ints ts) s n = some (btl L ts s n) := by
  have hL2 := hr.two
  have h8 := hr.most
  have hlen := hr.len
  have hL : 2 ^ L ≤ 2 ^ 8 := Nat.pow_le_pow_right (by omega) h8
  unfold ref04_Bits
  have hrun := run_count (step := ref04_Bits_l1 L (ints ts) n) (e := btl L ts s n) (fun t => (((s / 2 ^ (min t L) : Nat) : Int), btl L ts s t, (t : Int))) (n := n) (fun t ht => ?_) ?_
  · rw [show (((s : Nat) : Int), ([] : List Int), (0 : Int)) = (((s / 2 ^ (min 0 L) : Nat) : Int), btl L ts s 0, ((0 : Nat) : Int)) by simp [btl], hrun]
    rfl
  · dsimp only [ref04_Bits_l1]
    rw [if_pos (by simpa using ht)]
    by_cases hlt : t < L
    · rw [if_pos (by simpa using hlt), tmod2, tdiv2]
      have hw := window hr h0 hs t 0 hlt
      rw [Nat.zero_add] at hw
      rw [show min t L = t by omega, show s / 2 ^ t % 2 = bt L ts s t from hw, appI_one (by rw [btl_len]; omega) (by omega), Option.bind_some, ← btl_succ, w64 (x := ((s / 2 ^ t / 2 : Nat) : Int)) (by have := Nat.div_le_self s (2 ^ t); have := Nat.div_le_self (s / 2 ^ t) 2; omega), w64 (x := (t : Int) + 1) (by omega)]
      rw [Nat.div_div_eq_div_mul, ← Nat.pow_succ, show min (t + 1) L = t + 1 by omega]
      rfl
    · rw [if_neg (by simpa using hlt)]
      obtain ⟨u, rfl⟩ : ∃ u, t = u + L := ⟨t - L, by omega⟩
      have hin := run_count (step := ref04_Bits_l2 (ints ts) (btl L ts s (u + L)) ((u + L : Nat) : Int)) (e := ((ts.foldl (fun a p => a + bt L ts s (u + L - p)) 0 : Nat) : Int)) (fun k => ((((ts.take k).foldl (fun a p => a + bt L ts s (u + L - p)) 0 : Nat) : Int), (k : Int))) (n := ts.length) (fun k hk => ?_) ?_
      · rw [show ((0 : Int), (0 : Int)) = ((((ts.take 0).foldl (fun a p => a + bt L ts s (u + L - p)) 0 : Nat) : Int), ((0 : Nat) : Int)) from rfl, hin, Option.bind_some, tmod2, sum_mod, ← bt_rec hr h0 hs u, appI_one (by rw [btl_len]; omega) (by omega), Option.bind_some, ← btl_succ, w64 (x := ((u + L : Nat) : Int) + 1) (by omega), show min (u + L) L = L by omega, show min (u + L + 1) L = L by omega]
        rfl
      · obtain ⟨p, hp⟩ : ∃ p, ts[k]? = some p := ⟨_, List.getElem?_eq_getElem hk⟩
        have hpm := hr.le p (List.mem_of_getElem? hp)
        dsimp only [ref04_Bits_l2]
        rw [if_pos (by simpa using hk), getI_nat, List.getElem?_map, hp, Option.map_some, Option.bind_some, w64 (x := ((u + L : Nat) : Int) - (p : Int)) (by omega), getI_of (k := u + L - p) (by omega)]
        have hg : (btl L ts s (u + L))[u + L - p]? = some ((bt L ts s (u + L - p) : Nat) : Int) := by
          unfold btl
          rw [List.getElem?_map, List.getElem?_range (by omega)]
          rfl
        rw [hg, Option.bind_some, take_snoc hp, List.foldl_append]
        have hle := sum_le (fun p => bt L ts s (u + L - p)) (fun p => by unfold bt; omega) (ts.take k) 0
        rw [List.length_take] at hle
        have hb1 : bt L ts s (u + L - p) ≤ 1 := by unfold bt; omega
        rw [w64 (x := (((ts.take k).foldl (fun a p => a + bt L ts s (u + L - p)) 0 : Nat) : Int) + ((bt L ts s (u + L - p) : Nat) : Int)) (by omega), w64 (x := (k : Int) + 1) (by omega)]
        congr 3
      · dsimp only [ref04_Bits_l2]
        rw [if_neg (by simp), List.take_length]
  · dsimp only [ref04_Bits_l1]
    rw [if_neg (by simp)]
theorem refNext_eq (hr : Reg L ts) (h0 : 0 < s) (hs : s < 2 ^ L) : ref04_Next L (ints ts) s = some ((nx L ts s : Nat) : Int) := by
  have hL2 := hr.two
  have h8 := hr.most
  have hL : 2 ^ L ≤ 2 ^ 8 := Nat.pow_le_pow_right (by omega) h8
  have hx := nx_lt (L := L) (ts := ts) (s := s) (by omega) hs
  unfold ref04_Next
  have hw : IntKind.i64.wrap ((L : Int) + 1) = ((L + 1 : Nat) : Int) := by rw [w64 (by omega)]; omega
  rw [hw, refBits_eq hr h0 hs (by omega), Option.bind_some]
  have hrun := run_count (step := ref04_Next_l1 (btl L ts s (L + 1))) (e := ((nx L ts s : Nat) : Int)) (fun j => (((nx L ts s / 2 ^ (L - j) : Nat) : Int), (((L - j : Nat)) : Int))) (n := L) (fun j hj => ?_) ?_
  · rw [show ((0 : Int), (L : Int)) = (((nx L ts s / 2 ^ (L - 0) : Nat) : Int), (((L - 0 : Nat)) : Int)) by rw [Nat.sub_zero, Nat.div_eq_of_lt hx]; rfl, hrun]
    rfl
  · dsimp only [ref04_Next_l1]
    obtain ⟨k, hk⟩ : ∃ k, L - j = k + 1 := ⟨L - j - 1, by omega⟩
    rw [show L - (j + 1) = k by omega, hk, if_pos (by simp; omega), getI_nat]
    have hg : (btl L ts s (L + 1))[k + 1]? = some ((bt L ts s (k + 1) : Nat) : Int) := by
      unfold btl
      rw [List.getElem?_map, List.getElem?_range (by omega)]
      rfl
    rw [hg, Option.bind_some]
    have hwin := window hr h0 hs k 1 (by omega)
    have hstt : stt L ts s 1 = nx L ts s := rfl
    rw [hstt, Nat.add_comm 1 k] at hwin
    have hd : nx L ts s / 2 ^ k = 2 * (nx L ts s / 2 ^ (k + 1)) + bt L ts s (k + 1) := by
      rw [← hwin, Nat.pow_succ, ← Nat.div_div_eq_div_mul]
      omega
    have hb := Nat.div_le_self (nx L ts s) (2 ^ k)
    rw [w64 (x := 2 * ((nx L ts s / 2 ^ (k + 1) : Nat) : Int)) (by omega), w64 (x := 2 * ((nx L ts s / 2 ^ (k + 1) : Nat) : Int) + ((bt L ts s (k + 1) : Nat) : Int)) (by omega), w64 (x := ((k + 1 : Nat) : Int) - 1) (by omega), hd]
    congr 3
    omega
  · dsimp only [ref04_Next_l1]
    rw [if_neg (by simp), Nat.sub_self, Nat.pow_zero, Nat.div_one]
theorem refPeriod_eq (hr : Reg L ts) (h0 : 0 < s) (hs : s < 2 ^ L) {n : Nat} (hp : isPer L ts s n) (hn : n ≤ 2 ^ L - 1) : ref04_Period L (ints ts) s = some (n : Int) := by
  obtain ⟨⟨h1, h2⟩, h3⟩ := hp
  have h8 := hr.most
  have hL : 2 ^ L ≤ 2 ^ 8 := Nat.pow_le_pow_right (by omega) h8
  unfold ref04_Period
  rw [refNext_eq hr h0 hs, Option.bind_some]
  obtain ⟨m, rfl⟩ : ∃ m, n = m + 1 := ⟨n - 1, by omega⟩
  have hrun := run_count (step := ref04_Period_l1 L (ints ts) s) (e := ((m + 1 : Nat) : Int)) (fun k => (((k + 1 : Nat) : Int), ((stt L ts s (k + 1) : Nat) : Int))) (n := m) (fun k hk => ?_) ?_
  · rw [show ((1 : Int), ((nx L ts s : Nat) : Int)) = (((0 + 1 : Nat) : Int), ((stt L ts s (0 + 1) : Nat) : Int)) from rfl, hrun]
    rfl
  · dsimp only [ref04_Period_l1]
    have := h3 (k + 1) (by omega)
    obtain ⟨a, b⟩ := stt_ok hr h0 hs (k + 1)
    rw [if_pos (by simp only [decide_eq_true_eq]; intro e; exact this ⟨by omega, by omega⟩), refNext_eq hr a b, Option.bind_some, w64 (by omega)]
    congr 3
  · dsimp only [ref04_Period_l1]
    rw [h2, if_neg (by simp)]
end
end Go.Rex

namespace Go.Rex
/-! ### primes of a register, whatever is told -/
noncomputable def ipF (p : Nat) : Option (Unit ⊕ Unit) := runF (pulse_isPrime_l1 (p : Int)) 20 2
theorem ip_tot : ((List.range 256).all fun p => decide (p < 2) || (ipF p).isSome) = true := by decide +kernel
theorem ip_mem {L : Nat} (h2 : 2 ≤ L) (h8 : L ≤ 8) : ((List.range 256).all fun p => !(decide (2 ≤ p) && (decide ((2 ^ L - 1) % p = 0) && decide (ipF p = some (.inr ())))) || (prs L).contains p) = true := by
  rcases lens h2 h8 with rfl | rfl | rfl | rfl | rfl | rfl | rfl <;> decide +kernel
theorem ip_ok {p : Nat} (h2 : 2 ≤ p) (h : p ≤ 255) : ∃ z, ipF p = some z ∧ pulse_isPrime (p : Int) = some (match z with | .inl _ => false | .inr _ => true) := by
  have := List.all_eq_true.1 ip_tot p (List.mem_range.2 (by omega))
  rw [decide_eq_false (by omega), Bool.false_or] at this
  obtain ⟨z, hz⟩ := Option.isSome_iff_exists.1 this
  refine ⟨z, hz, ?_⟩
  unfold pulse_isPrime
  rw [run_of_F 20 hz]
  cases z <;> rfl
/-- what is left behind one prime after the other -/
def RestR : List Nat → Int → Int → Prop
  | [], r, r' => r' = r
  | p :: ps, r, r' => ∃ r1, run (pulse_without_l1 (p : Int)) r = some r1 ∧ RestR ps r1 r'
theorem rest_R : ∀ (q : List Nat) (r r' r2 : Int), RestR q r r' → rest q r = some r2 → r' = r2
  | [], r, r', r2, h, h2 => by
    have h' : r' = r := h
    simp only [rest, Option.some.injEq] at h2
    omega
  | p :: ps, r, r', r2, h, h2 => by
    obtain ⟨r1, h3, h4⟩ := h
    simp only [rest, Option.bind_eq_some_iff] at h2
    obtain ⟨r3, h5, h6⟩ := h2
    have := run_of_F 20 h5
    rw [h3] at this
    obtain rfl := Option.some.inj this
    exact rest_R ps r1 r' r2 h4 h6
theorem without_tot {p : Nat} (hp : 2 ≤ p) : ∀ (r : Nat), 1 ≤ r → r < 9223372036854775808 → ∃ r' : Nat, run (pulse_without_l1 (p : Int)) (r : Int) = some (r' : Int) ∧ 1 ≤ r' ∧ r' ≤ r := by
  intro r
  induction r using Nat.strongRecOn with
  | _ r ih =>
    intro h1 hbig
    by_cases hd : r % p = 0
    · have hlt : r / p < r := Nat.div_lt_self (by omega) (by omega)
      have hpos : 1 ≤ r / p := (Nat.le_div_iff_mul_le (by omega)).2 (by have := Nat.le_of_dvd (by omega) (Nat.dvd_of_mod_eq_zero hd); omega)
      obtain ⟨r', h3, h4, h5⟩ := ih _ hlt hpos (by omega)
      refine ⟨r', ?_, h4, by omega⟩
      rw [run_next (s' := ((r / p : Nat) : Int))]
      · exact h3
      · dsimp only [pulse_without_l1]
        rw [if_neg (by omega), tmod_nat', hd, if_pos (by simp), tdiv_nat', w64n (by omega)]
    · refine ⟨r, run_stop ?_, h1, Nat.le_refl _⟩
      dsimp only [pulse_without_l1]
      rw [if_neg (by omega), tmod_nat', if_neg (by simp only [decide_eq_true_eq]; omega)]
section
variable {L : Nat} {ts : List Nat}
theorem proved_gen (hr : Reg L ts) {all : Nat} (hall : all ≤ 255) : ∀ (done todo : List Nat) (r : Nat), 1 ≤ r → r ≤ 255 → (∀ p, p ∈ todo → 2 ≤ p ∧ p ≤ 255) → (done ++ todo).length ≤ 8 →
    ∃ z, run (pulse_generator_isProvedBy_l1 L (ints ts) (ints (done ++ todo)) all) ((r : Int), (done.length : Int)) = some z ∧ (z = .inl () ∨ ∃ r', z = .inr r' ∧ RestR todo r r' ∧ ∀ p, p ∈ todo → all % p = 0 ∧ ipF p = some (.inr ())) := by
  intro done todo
  induction todo generalizing done with
  | nil =>
    intro r _ _ _ _
    refine ⟨.inr r, run_stop ?_, .inr ⟨r, rfl, rfl, fun p hp => by cases hp⟩⟩
    dsimp only [pulse_generator_isProvedBy_l1]
    rw [if_neg (by simp)]
  | cons p ps ih =>
    intro r hr1 hr2 h1 hlen
    obtain ⟨hp2, hp7⟩ := h1 p (by simp)
    obtain ⟨z, hz, hpr⟩ := ip_ok hp2 hp7
    have hg : (ints (done ++ p :: ps))[done.length]? = some (p : Int) := by simp
    have hdl : all / p ≤ all := Nat.div_le_self _ _
    have hst : pulse_generator_stateAt (L : Int) (ints ts) 1 ((all / p : Nat) : Int) = some ((stt L ts 1 (all / p) : Nat) : Int) := stateAt_eq hr (s := 1) (by omega) (one_lt hr) (by omega)
    have hpos : (if (decide ((done.length : Int) < ((ints (done ++ p :: ps)).length : Int))) = true then True else False) := by rw [if_pos (by simp; omega)]; trivial
    cases z with
    | inl u =>
      refine ⟨.inl (), run_stop ?_, .inl rfl⟩
      dsimp only [pulse_generator_isProvedBy_l1]
      rw [if_pos (by simp; omega), getI_nat, hg, Option.bind_some, hpr]
      rfl
    | inr u =>
      by_cases hdiv : all % p = 0
      · by_cases q : stt L ts 1 (all / p) = 1
        · refine ⟨.inl (), run_stop ?_, .inl rfl⟩
          dsimp only [pulse_generator_isProvedBy_l1]
          rw [if_pos (by simp; omega), getI_nat, hg, Option.bind_some, hpr]
          simp only [Option.bind_some, if_true]
          rw [if_neg (show ¬ (p : Int) = 0 by omega), tmod_nat', hdiv, if_neg (by simp), tdiv_nat', w64n (by omega), hst, Option.bind_some, q]
          rfl
        · obtain ⟨r1, hw, hw1, hw2⟩ := without_tot (p := p) hp2 r hr1 (by omega)
          obtain ⟨z, hz2, hc⟩ := ih (done ++ [p]) r1 hw1 (by omega) (fun x hx => h1 x (by simp [hx])) (by simpa using hlen)
          refine ⟨z, ?_, ?_⟩
          · rw [run_next (s' := ((r1 : Int), ((done.length + 1 : Nat) : Int)))]
            · rw [List.append_assoc, List.singleton_append, List.length_append] at hz2
              exact hz2
            · dsimp only [pulse_generator_isProvedBy_l1]
              rw [if_pos (by simp; omega), getI_nat, hg, Option.bind_some, hpr]
              simp only [Option.bind_some, if_true]
              rw [if_neg (show ¬ (p : Int) = 0 by omega), tmod_nat', hdiv, if_neg (by simp), tdiv_nat', w64n (by omega), hst, Option.bind_some, if_neg (by simp only [decide_eq_true_eq]; omega)]
              unfold pulse_without
              rw [hw]
              simp only [Option.bind_some]
              rw [w64 (x := (done.length : Int) + 1) (by simp at hlen; omega)]
              rfl
          · rcases hc with hc | ⟨r', hc, hR, hall'⟩
            · exact .inl hc
            · exact .inr ⟨r', hc, ⟨r1, hw, hR⟩, fun x hx => by
                rcases List.mem_cons.1 hx with rfl | hx
                · exact ⟨hdiv, hz⟩
                · exact hall' x hx⟩
      · refine ⟨.inl (), run_stop ?_, .inl rfl⟩
        dsimp only [pulse_generator_isProvedBy_l1]
        rw [if_pos (by simp; omega), getI_nat, hg, Option.bind_some, hpr]
        simp only [Option.bind_some, if_true]
        rw [if_neg (show ¬ (p : Int) = 0 by omega), tmod_nat', if_pos (by simp only [ne_eq, decide_eq_true_eq]; omega)]
/-- the parts of an ascending list -/
def subs : List Nat → List (List Nat)
  | [] => [[]]
  | x :: m => subs m ++ (subs m).map (x :: ·)
theorem mem_subs : ∀ (m q : List Nat), m.Pairwise (· < ·) → q.Pairwise (· < ·) → (∀ x, x ∈ q → x ∈ m) → q ∈ subs m
  | [], q, _, _, h => by
    have : q = [] := List.eq_nil_iff_forall_not_mem.2 (fun x hx => by cases h x hx)
    subst this
    simp [subs]
  | x :: m, [], _, _, _ => by
    simp only [subs, List.mem_append]
    refine .inl (mem_subs m [] ?_ List.Pairwise.nil (fun x hx => by cases hx))
    exact (List.pairwise_cons.1 ‹_›).2
  | x :: m, y :: q, hm, hq, h => by
    obtain ⟨hm1, hm2⟩ := List.pairwise_cons.1 hm
    obtain ⟨hq1, hq2⟩ := List.pairwise_cons.1 hq
    simp only [subs, List.mem_append, List.mem_map]
    rcases List.mem_cons.1 (h y (by simp)) with rfl | hy
    · refine .inr ⟨q, mem_subs m q hm2 hq2 (fun z hz => ?_), rfl⟩
      have h1 := hq1 z hz
      rcases List.mem_cons.1 (h z (by simp [hz])) with rfl | hz'
      · omega
      · exact hz'
    · refine .inl (mem_subs m (y :: q) hm2 hq (fun z hz => ?_))
      have hxy := hm1 y hy
      rcases List.mem_cons.1 (h z hz) with rfl | hz'
      · rcases List.mem_cons.1 hz with rfl | hz2
        · omega
        · have := hq1 z hz2; omega
      · exact hz'
theorem subs_ok {L : Nat} (h2 : 2 ≤ L) (h8 : L ≤ 8) : ((subs (prs L)).all fun q => decide (q = prs L) || (match rest q ((2 ^ L - 1 : Nat) : Int) with | some r => decide (r ≠ 1) | none => false)) = true := by
  rcases lens h2 h8 with rfl | rfl | rfl | rfl | rfl | rfl | rfl <;> decide +kernel
theorem prs_asc {L : Nat} (h2 : 2 ≤ L) (h8 : L ≤ 8) : (prs L).Pairwise (· < ·) := by
  rcases lens h2 h8 with rfl | rfl | rfl | rfl | rfl | rfl | rfl <;> decide
theorem provedBy_gen (hr : Reg L ts) {n : Nat} (hp : isPer L ts 1 n) (hn : n ≤ 2 ^ L - 1) {q : List Nat} (hq : q.Pairwise (· < ·)) (hb : ∀ p, p ∈ q → 2 ≤ p ∧ p ≤ 255) (hlen : q.length ≤ 8) :
    pulse_generator_isProvedBy L (ints ts) (ints q) = some (decide (q = prs L ∧ n = 2 ^ L - 1)) := by
  by_cases he : q = prs L
  · rw [he, provedBy_eq hr hp hn]
    simp
  have h8 := hr.most
  have hp8 : 2 ^ L ≤ 256 := Nat.pow_le_pow_right (n := 2) (by omega) h8
  have h4 : 2 ^ 2 ≤ 2 ^ L := Nat.pow_le_pow_right (by omega) hr.two
  rw [decide_eq_false (fun h => he h.1)]
  unfold pulse_generator_isProvedBy
  rw [full_eq h8, Option.bind_some]
  obtain ⟨z, hz, hc⟩ := proved_gen hr (all := 2 ^ L - 1) (by omega) [] q (2 ^ L - 1) (by omega) (by omega) hb hlen
  rw [List.nil_append, show ((([] : List Nat).length : Nat) : Int) = 0 from rfl] at hz
  rw [hz, Option.bind_some]
  rcases hc with rfl | ⟨r', rfl, hR, hall⟩
  · rfl
  · have hsub : q ∈ subs (prs L) := mem_subs _ _ (prs_asc hr.two h8) hq (fun p hpq => by
      have hpb := hb p hpq
      have := List.all_eq_true.1 (ip_mem hr.two h8) p (List.mem_range.2 (by omega))
      rw [decide_eq_true hpb.1, decide_eq_true (hall p hpq).1, decide_eq_true (hall p hpq).2] at this
      simpa using this)
    have hs := List.all_eq_true.1 (subs_ok hr.two h8) q hsub
    rw [decide_eq_false he, Bool.false_or] at hs
    cases hrest : rest q ((2 ^ L - 1 : Nat) : Int) with
    | none => rw [hrest] at hs; cases hs
    | some r2 =>
      rw [hrest] at hs
      have h1 : r2 ≠ 1 := by simpa using hs
      have h2 := rest_R q _ r' r2 hR hrest
      dsimp only
      rw [if_neg (by simp only [decide_eq_true_eq]; omega)]
end
end Go.Rex

namespace Go.Rex
/-! ### checks of primes, whatever is told -/
theorem to_nats {p : List Int} (h : ascG 2 255 p = 0) : ∃ q : List Nat, p = ints q ∧ q.Pairwise (· < ·) ∧ ∀ x, x ∈ q → 2 ≤ x ∧ x ≤ 255 := by
  have hg : ∀ k (hk : k < p.length), p.getD k 0 = p[k] := fun k hk => by
    have := getD_at hk
    rw [List.getElem?_eq_getElem hk] at this
    exact (Option.some.inj this).symm
  have hmem : ∀ x, x ∈ p → 2 ≤ x ∧ x ≤ 255 := fun x hx => by
    obtain ⟨k, hk, rfl⟩ := List.mem_iff_getElem.1 hx
    have := gk_zeroG (asc_zeroG h k hk)
    rw [hg k hk] at this
    exact ⟨this.1, this.2.1⟩
  have he : p = ints (p.map Int.toNat) := by
    unfold ints
    rw [List.map_map]
    conv => lhs; rw [← List.map_id p]
    refine List.map_congr_left (fun x hx => ?_)
    have := hmem x hx
    simp only [id_eq, Function.comp_apply]
    omega
  refine ⟨p.map Int.toNat, he, ?_, fun x hx => ?_⟩
  · rw [List.pairwise_map, List.pairwise_iff_getElem]
    intro i j hi hj hij
    have h1 := asc_monoG h hj i hij
    rw [hg i hi, hg j hj] at h1
    have h2 := hmem _ (List.getElem_mem hi)
    omega
  · obtain ⟨y, hy, rfl⟩ := List.mem_map.1 hx
    have := hmem y hy
    omega
def cm (L m : Nat) (p : List Int) : Int := if (p.length : Int) > 8 then 8 else if ascG 2 255 p ≠ 0 then ascG 2 255 p else if p = ints (prs L) ∧ m = 2 ^ L - 1 then 0 else 20
section
variable {L : Nat} {ts : List Nat}
theorem ints_inj : ∀ {a b : List Nat}, ints a = ints b → a = b
  | [], [], _ => rfl
  | [], y :: b, h => by simp [ints] at h
  | x :: a, [], h => by simp [ints] at h
  | x :: a, y :: b, h => by
    have h' : ((x : Nat) : Int) :: ints a = (y : Int) :: ints b := h
    rw [List.cons.injEq] at h'
    rw [ints_inj h'.2, show x = y by omega]
theorem pchkM_eq (hr : Reg L ts) (hl : (ints ts).length ≤ 12) (h : chk L (ints ts) = 0) {n : Nat} (hp : isPer L ts 1 n) (hn : n ≤ 2 ^ L - 1) (p : List Int) (hpl : p.length ≤ 12) : pulse_CheckMaximal L (ints ts) p = some (cm L n p) := by
  unfold pulse_CheckMaximal pulse_ascending pulse_each_e53c pulse_firstError_db1e pulse_CheckMaximal_c1_2d5b cm
  simp only [refuse_eq, Option.bind_some, pcheck_eq _ _ hl, h, refuse1_eq, pasc_eq 2 255 p (by omega)]
  by_cases q : (p.length : Int) > 8
  · simp [q]
  · by_cases q2 : ascG 2 255 p = 0
    · obtain ⟨w, rfl, hw1, hw2⟩ := to_nats q2
      have hlw : w.length ≤ 8 := by simp at q; omega
      rw [provedBy_gen hr hp hn hw1 hw2 hlw]
      have e : (ints w = ints (prs L) ∧ n = 2 ^ L - 1) ↔ (w = prs L ∧ n = 2 ^ L - 1) := ⟨fun a => ⟨ints_inj a.1, a.2⟩, fun a => ⟨by rw [a.1], a.2⟩⟩
      by_cases q3 : w = prs L ∧ n = 2 ^ L - 1
      · rw [decide_eq_true q3, if_pos (e.2 q3)]
        simp [q, q2]
      · rw [decide_eq_false q3, if_neg (fun a => q3 (e.1 a))]
        have q' : ¬ ((8 : Int) < (w.length : Int)) := by omega
        simp [q', q2]
    · simp [q, q2]
theorem rmax_eq (hr : Reg L ts) {n : Nat} (hp : isPer L ts 1 n) (hn : n ≤ 2 ^ L - 1) : ref04_IsMaximal L (ints ts) = some (decide (n = 2 ^ L - 1)) := by
  unfold ref04_IsMaximal
  have := refPeriod_eq hr (s := 1) (by omega) (one_lt hr) hp hn
  rw [show (1 : Int) = ((1 : Nat) : Int) from rfl, this, Option.bind_some, most_eq hr.most, Option.bind_some]
  by_cases h : n = 2 ^ L - 1
  · simp [h]
  · have h' : ¬ ((n : Int) = ((2 ^ L - 1 : Nat) : Int)) := by omega
    rw [decide_eq_false h, decide_eq_false h']
theorem rchkM_eq (hr : Reg L ts) (hl : (ints ts).length ≤ 12) (h : chk L (ints ts) = 0) {n : Nat} (hp : isPer L ts 1 n) (hn : n ≤ 2 ^ L - 1) (p : List Int) (hpl : p.length ≤ 12) : ref04_CheckMaximal L (ints ts) p = some (cm L n p) := by
  unfold ref04_CheckMaximal cm
  rw [rchk_eq _ _ hl, h, Option.bind_some, if_neg (by simp)]
  by_cases q : (p.length : Int) > 8
  · rw [if_pos (by simpa using q), if_pos q]
  rw [if_neg (by simpa using q), if_neg q]
  obtain ⟨z, hz, hc⟩ := scan_eqG (step := ref04_CheckMaximal_l1 p) (lo := 2) (L := 255) (l := p) .inl (.inr ()) (by omega) (fun k hk => by
    dsimp only [ref04_CheckMaximal_l1]
    rw [if_pos (by simpa using hk), getI_nat, getD_at hk, Option.bind_some, within_eq, Option.bind_some]
    by_cases q : 2 ≤ p.getD k 0 ∧ p.getD k 0 ≤ 255
    · rw [if_pos (by simpa using q)]
      by_cases q2 : 0 < k
      · rw [if_pos (by simpa using q2), getI_of (k := k - 1) (by rw [w64 (by omega)]; omega), getD_at (by omega), Option.bind_some]
        by_cases q3 : p.getD k 0 ≤ p.getD (k - 1) 0
        · rw [gk_9G q q2 q3, if_pos (by simpa using q3)]; rfl
        · rw [gk_0G q (fun _ => q3), if_neg (by simpa using q3), w64 (by omega)]; rfl
      · rw [if_neg (by simpa using q2), gk_0G q (fun h => absurd h q2), w64 (by omega)]; rfl
    · rw [gk_2G q, if_neg (by simpa using q)]; rfl) (by
    dsimp only [ref04_CheckMaximal_l1]
    rw [if_neg (by simp)])
  rw [hz, Option.bind_some]
  rcases hc with ⟨h3, rfl⟩ | ⟨h3, rfl⟩
  · rw [if_neg (by simpa using h3)]
    simp only [most_eq hr.most, Option.bind_some, prs_eq hr.two hr.most, intsE p _ (show p.length ≤ 2 ^ 40 by omega), rmax_eq hr hp hn]
    by_cases q3 : p = ints (prs L)
    · by_cases q4 : n = 2 ^ L - 1
      · simp [q3, q4]
      · simp [q3, q4]
    · simp [q3]
  · rw [if_pos h3]
end
end Go.Rex

namespace Go.Rex
/-! ### the first maximal register of a length -/
def orb (L : Nat) (ts : List Nat) : Nat → Nat → Nat → Nat
  | 0, _, _ => 0
  | f + 1, x, k => if x = 1 then k else orb L ts f (nx L ts x) (k + 1)
def maxB (L : Nat) (ts : List Nat) : Bool := decide (orb L ts 256 (nx L ts 1) 1 = 2 ^ L - 1)
theorem orb_eq {L : Nat} {ts : List Nat} {n : Nat} (hp : isPer L ts 1 n) : ∀ (f k : Nat), 1 ≤ k → k ≤ n → n - k < f → orb L ts f (stt L ts 1 k) k = n
  | 0, k, _, _, h => by omega
  | f + 1, k, h1, h2, h3 => by
    unfold orb
    by_cases q : stt L ts 1 k = 1
    · rw [if_pos q]
      rcases Nat.lt_or_ge k n with h | h
      · exact absurd ⟨h1, q⟩ (hp.2 k h)
      · omega
    · rw [if_neg q]
      have : k ≠ n := fun e => q (by rw [e]; exact hp.1.2)
      exact orb_eq hp f (k + 1) (by omega) (by omega) (by omega)
theorem maxB_iff {L : Nat} {ts : List Nat} (hr : Reg L ts) {n : Nat} (hp : isPer L ts 1 n) (hn : n ≤ 2 ^ L - 1) : decide (n = 2 ^ L - 1) = maxB L ts := by
  have h8 : 2 ^ L ≤ 256 := Nat.pow_le_pow_right (n := 2) (by omega) hr.most
  have h1 := hp.1.1
  have := orb_eq hp 256 1 (by omega) h1 (by omega)
  unfold maxB
  rw [show nx L ts 1 = stt L ts 1 1 from rfl, this]
/-- a register from a rule which taps it has -/
def tapsOf (L : Nat) (f : Nat → Bool) : List Nat := ((List.range (L - 1)).filter f).map (· + 1) ++ [L]
theorem reg_taps {L : Nat} (h2 : 2 ≤ L) (h8 : L ≤ 8) (f : Nat → Bool) : Reg L (tapsOf L f) := by
  have hm : ∀ t, t ∈ ((List.range (L - 1)).filter f).map (· + 1) → 1 ≤ t ∧ t < L := fun t ht => by
    obtain ⟨j, hj, rfl⟩ := List.mem_map.1 ht
    have := List.mem_range.1 (List.mem_filter.1 hj).1
    omega
  refine ⟨h2, h8, fun t ht => ?_, ⟨_, rfl, fun t ht => (hm t ht).2⟩, ?_⟩
  · rcases List.mem_append.1 ht with h | h
    · have := hm t h; omega
    · simp at h; omega
  · unfold tapsOf
    have := List.length_filter_le f (List.range (L - 1))
    simp at this ⊢
    omega
def tapsP (L d : Nat) : List Nat := tapsOf L fun j => decide (d / 2 ^ (L - 2 - j) % 2 = 1)
def tapsR (L c : Nat) : List Nat := tapsOf L fun j => decide (c / 2 ^ j % 2 = 1)
noncomputable def wtF (L d : Nat) : Option (Int × List Int) := (runF (pulse_withTaps_l1 L d) 10 ([], 1)).bind fun v12 => (appI 8 v12 ([(L : Int)] : List Int)).bind fun v13 => some ((L : Int), v13)
theorem wt_all {L : Nat} (h2 : 2 ≤ L) (h8 : L ≤ 8) : ((List.range (2 ^ (L - 1))).all fun d => decide (wtF L d = some ((L : Int), ints (tapsP L d)))) = true := by
  rcases lens h2 h8 with rfl | rfl | rfl | rfl | rfl | rfl | rfl <;> decide +kernel
theorem wt_eq {L d : Nat} (h2 : 2 ≤ L) (h8 : L ≤ 8) (hd : d < 2 ^ (L - 1)) : pulse_withTaps L d = some ((L : Int), ints (tapsP L d)) := by
  have h := List.all_eq_true.1 (wt_all h2 h8) d (List.mem_range.2 hd)
  simp only [decide_eq_true_eq] at h
  unfold wtF at h
  unfold pulse_withTaps
  simp only [Option.bind_eq_some_iff] at h ⊢
  obtain ⟨a, ha, hb⟩ := h
  exact ⟨a, run_of_F 10 ha, hb⟩
noncomputable def trF (L c : Nat) : Option (List Int) := (runF (ref04_FirstMaximal_l2 L) 10 ([], (c : Int), 1)).bind fun v => appI 8 v ([(L : Int)] : List Int)
theorem tr_all {L : Nat} (h2 : 2 ≤ L) (h8 : L ≤ 8) : ((List.range (2 ^ (L - 1))).all fun d => decide (trF L d = some (ints (tapsR L d)))) = true := by
  rcases lens h2 h8 with rfl | rfl | rfl | rfl | rfl | rfl | rfl <;> decide +kernel
theorem pmaxB {L : Nat} (h2 : 2 ≤ L) (h8 : L ≤ 8) (f : Nat → Bool) : pulse_generator_isMaximal L (ints (tapsOf L f)) = some (maxB L (tapsOf L f)) ∧ ref04_IsMaximal L (ints (tapsOf L f)) = some (maxB L (tapsOf L f)) := by
  have hr := reg_taps h2 h8 f
  obtain ⟨n, hp, hn⟩ := per_exists hr (s := 1) (by omega) (one_lt hr)
  rw [isMax_eq hr hp hn, rmax_eq hr hp hn, maxB_iff hr hp hn]
  exact ⟨rfl, rfl⟩
/-- the program's search, downwards -/
def runD (L : Nat) : Nat → Option Nat
  | 0 => if maxB L (tapsP L 0) = true then some 0 else none
  | d + 1 => if maxB L (tapsP L (d + 1)) = true then some (d + 1) else runD L d
theorem fD_run {L : Nat} (h2 : 2 ≤ L) (h8 : L ≤ 8) : ∀ (d e : Nat), d < 2 ^ (L - 1) → runD L d = some e → run (pulse_FirstMaximal_l1 L) (d : Int) = some (e : Int) := by
  have h7 : 2 ^ (L - 1) ≤ 128 := Nat.pow_le_pow_right (n := 2) (j := 7) (by omega) (by omega)
  have hst : ∀ d : Nat, d < 2 ^ (L - 1) → pulse_FirstMaximal_l1 L (d : Int) = if maxB L (tapsP L d) = true then some (.inr (d : Int)) else some (.inl (IntKind.i64.wrap ((d : Int) - 1))) := fun d hd => by
    dsimp only [pulse_FirstMaximal_l1]
    rw [wt_eq h2 h8 hd, Option.bind_some]
    dsimp only
    rw [show tapsP L d = tapsOf L _ from rfl, (pmaxB h2 h8 _).1, Option.bind_some]
  intro d
  induction d with
  | zero =>
    intro e hd h
    unfold runD at h
    split at h
    · rename_i q
      obtain rfl := Option.some.inj h
      exact run_stop (by rw [hst 0 hd, if_pos q])
    · cases h
  | succ d ih =>
    intro e hd h
    unfold runD at h
    split at h
    · rename_i q
      obtain rfl := Option.some.inj h
      exact run_stop (by rw [hst _ hd, if_pos q])
    · rename_i q
      rw [run_next (s' := (d : Int)) (by rw [hst _ hd, if_neg q, w64 (by omega)]; congr 2; omega)]
      exact ih e (by omega) h
/-- the reference's search, upwards -/
noncomputable def befV (a b : List Int) : Option Bool := match runF (base_Before_l1 a b) 10 0 with
  | some (.inl v) => some v
  | some (.inr _) => some (decide ((a.length : Int) < (b.length : Int)))
  | none => none
theorem befV_ok {a b : List Int} {v : Bool} (h : befV a b = some v) : base_Before a b = some v := by
  unfold befV at h
  unfold base_Before
  cases hr : runF (base_Before_l1 a b) 10 0 with
  | none => rw [hr] at h; cases h
  | some z =>
    rw [hr] at h
    rw [run_of_F 10 hr, Option.bind_some]
    cases z with
    | inl x => exact h
    | inr x => exact h
noncomputable def stepF (L : Nat) (b : Int × List Int) (c : Nat) : Option (Int × List Int) :=
  if maxB L (tapsR L c) = true then (if b.2.length = 0 then some ((L : Int), ints (tapsR L c)) else (befV (ints (tapsR L c)) b.2).bind fun v => some (if v = true then ((L : Int), ints (tapsR L c)) else b)) else some b
noncomputable def runR (L : Nat) : Nat → Nat → (Int × List Int) → Option (Int × List Int)
  | 0, _, b => some b
  | f + 1, c, b => (stepF L b c).bind (runR L f (c + 1))
theorem fR_run {L : Nat} (h2 : 2 ≤ L) (h8 : L ≤ 8) : ∀ (f c : Nat) (b e : Int × List Int), c + f = 2 ^ (L - 1) → runR L f c b = some e → run (ref04_FirstMaximal_l1 L ((2 ^ (L - 1) - 1 : Nat) : Int)) (b.1, b.2, (c : Int)) = some e := by
  have h7 : 2 ^ (L - 1) ≤ 128 := Nat.pow_le_pow_right (n := 2) (j := 7) (by omega) (by omega)
  have h0 := Nat.two_pow_pos (L - 1)
  intro f
  induction f with
  | zero =>
    intro c b e hc h
    obtain rfl := Option.some.inj h
    refine run_stop ?_
    dsimp only [ref04_FirstMaximal_l1]
    rw [if_neg (by simp only [decide_eq_true_eq]; omega)]
  | succ f ih =>
    intro c b e hc h
    have h' : (stepF L b c).bind (runR L f (c + 1)) = some e := h
    obtain ⟨b2, hb, hrest⟩ := Option.bind_eq_some_iff.1 h'
    have hin := List.all_eq_true.1 (tr_all h2 h8) c (List.mem_range.2 (by omega))
    simp only [decide_eq_true_eq] at hin
    unfold trF at hin
    obtain ⟨x, hx, hy⟩ := Option.bind_eq_some_iff.1 hin
    have hmx := (pmaxB h2 h8 (fun j => decide (c / 2 ^ j % 2 = 1))).2
    rw [run_next (s' := (b2.1, b2.2, ((c + 1 : Nat) : Int)))]
    · exact ih (c + 1) b2 e (by omega) hrest
    · dsimp only [ref04_FirstMaximal_l1]
      rw [if_pos (by simp only [decide_eq_true_eq]; omega), run_of_F 10 hx, Option.bind_some, hy, Option.bind_some, show tapsR L c = tapsOf L _ from rfl, hmx, Option.bind_some, w64 (x := (c : Int) + 1) (by omega)]
      unfold stepF at hb
      rw [show tapsR L c = tapsOf L _ from rfl] at hb
      by_cases q : maxB L (tapsOf L fun j => decide (c / 2 ^ j % 2 = 1)) = true
      · rw [if_pos q] at hb ⊢
        by_cases q2 : b.2.length = 0
        · rw [if_pos q2] at hb
          rw [if_pos (by simp only [decide_eq_true_eq]; omega), ← Option.some.inj hb]
          rfl
        · rw [if_neg q2] at hb
          rw [if_neg (by simp only [decide_eq_true_eq]; omega)]
          obtain ⟨v, hv, hb⟩ := Option.bind_eq_some_iff.1 hb
          rw [befV_ok hv, Option.bind_some, ← Option.some.inj hb]
          cases v <;> rfl
      · rw [if_neg q] at hb ⊢
        rw [← Option.some.inj hb]
        rfl
def fdg (L : Nat) : Nat := (runD L (2 ^ (L - 1) - 1)).getD 0
/-- both searches end at the same register -/
theorem both {L : Nat} (h2 : 2 ≤ L) (h8 : L ≤ 8) : runD L (2 ^ (L - 1) - 1) = some (fdg L) ∧ runR L (2 ^ (L - 1)) 0 (0, []) = some ((L : Int), ints (tapsP L (fdg L))) ∧ maxB L (tapsP L (fdg L)) = true ∧ fdg L < 2 ^ (L - 1) ∧ chk L (ints (tapsP L (fdg L))) = 0 := by
  rcases lens h2 h8 with rfl | rfl | rfl | rfl | rfl | rfl | rfl <;> decide +kernel
end Go.Rex

namespace Go.Rex
noncomputable def stepW : Int × List Int × Int → Option ((Int × List Int × Int) ⊕ List Int) := fun (v3, v4, v5) =>
  if v3 > 1 then
    (if v5 = 0 then none else
    (if v3.tmod v5 = 0 then
      ((appI 8 v4 ([v5] : List Int)).bind fun v9 =>
      (runF (pulse_without_l1 v5) 20 v3).bind fun v10 =>
      some (.inl (v10, v9, (IntKind.i64.wrap (v5 + 1)))))
    else some (.inl (v3, v4, (IntKind.i64.wrap (v5 + 1))))))
  else some (.inr v4)
theorem stepW_ok {s : Int × List Int × Int} {x : (Int × List Int × Int) ⊕ List Int} (h : stepW s = some x) : pulse_primesOf_l1 s = some x := by
  obtain ⟨v3, v4, v5⟩ := s
  unfold stepW at h
  unfold pulse_primesOf_l1
  simp only at h ⊢
  by_cases h1 : v3 > 1
  · rw [if_pos h1] at h
    rw [if_pos (by simpa using h1)]
    by_cases h2 : v5 = 0
    · rw [if_pos h2] at h; cases h
    · rw [if_neg h2] at h ⊢
      by_cases h3 : v3.tmod v5 = 0
      · rw [if_pos h3] at h
        rw [if_pos (by simpa using h3)]
        simp only [Option.bind_eq_some_iff] at h ⊢
        obtain ⟨a, ha, b, hb, hx⟩ := h
        refine ⟨a, ha, b, ?_, hx⟩
        unfold pulse_without
        rw [run_of_F 20 hb]
        rfl
      · rw [if_neg h3] at h
        rw [if_neg (by simpa using h3)]
        exact h
  · rw [if_neg h1] at h
    rw [if_neg (by simpa using h1)]
    exact h
theorem primesOf_of {k : Nat} {n : Int} {l : List Int} (h : runF stepW k (n, [], 2) = some l) : pulse_primesOf n = some l := by
  have key : ∀ (k : Nat) (s : Int × List Int × Int) (l : List Int), runF stepW k s = some l → run pulse_primesOf_l1 s = some l := by
    intro k
    induction k with
    | zero => intro s l h; cases h
    | succ k ih =>
      intro s l h
      unfold runF at h
      cases hs : stepW s with
      | none => rw [hs] at h; cases h
      | some r =>
        rw [hs] at h
        cases r with
        | inl s' => rw [run_next (stepW_ok hs)]; exact ih _ _ h
        | inr e' => obtain rfl := Option.some.inj h; exact run_stop (stepW_ok hs)
  unfold pulse_primesOf
  rw [key k _ l h]
  rfl
theorem pprs_eq {L : Nat} (h2 : 2 ≤ L) (h8 : L ≤ 8) : pulse_primesOf ((2 ^ L - 1 : Nat) : Int) = some (ints (prs L)) := by
  rcases lens h2 h8 with rfl | rfl | rfl | rfl | rfl | rfl | rfl <;> exact primesOf_of (k := 300) (by decide +kernel)
theorem most7 {L : Nat} (h2 : 2 ≤ L) (h8 : L ≤ 8) : ref04_Most_037b (IntKind.i64.wrap ((L : Int) - 1)) = some ((2 ^ (L - 1) - 1 : Nat) : Int) := by
  have key : ∀ (x : Int) (z : Int), runF (ref04_Most_037b_l1 x) 10 (1, 0) = some z → ref04_Most_037b x = some (IntKind.i64.wrap (z - 1)) := by
    intro x z h
    unfold ref04_Most_037b
    rw [run_of_F 10 h]
    rfl
  rw [w64 (by omega)]
  rcases lens h2 h8 with rfl | rfl | rfl | rfl | rfl | rfl | rfl
  · exact key _ 2 (by decide +kernel)
  · exact key _ 4 (by decide +kernel)
  · exact key _ 8 (by decide +kernel)
  · exact key _ 16 (by decide +kernel)
  · exact key _ 32 (by decide +kernel)
  · exact key _ 64 (by decide +kernel)
  · exact key _ 128 (by decide +kernel)
theorem rfirst_eq {L : Nat} (h2 : 2 ≤ L) (h8 : L ≤ 8) : ref04_FirstMaximal L = some ((L : Int), ints (tapsP L (fdg L))) := by
  unfold ref04_FirstMaximal
  rw [most7 h2 h8, Option.bind_some]
  have := fR_run h2 h8 (2 ^ (L - 1)) 0 (0, []) _ (by omega) (both h2 h8).2.1
  rw [show ((0 : Nat) : Int) = 0 from rfl] at this
  rw [this]
  rfl
theorem pfirst_eq {L : Nat} (h2 : 2 ≤ L) (h8 : L ≤ 8) : pulse_FirstMaximal L = some ((L : Int), ints (tapsP L (fdg L)), ints (prs L), 0) := by
  have h7 : 2 ^ (L - 1) ≤ 128 := Nat.pow_le_pow_right (n := 2) (j := 7) (by omega) (by omega)
  have h0 := Nat.two_pow_pos (L - 1)
  obtain ⟨ha, _, _, hd, _⟩ := both h2 h8
  unfold pulse_FirstMaximal
  rw [pwithin_eq, Option.bind_some]
  dsimp only
  rw [decide_eq_true (show (2 : Int) ≤ L ∧ (L : Int) ≤ 8 by omega), refuse1_eq, Option.bind_some, Bool.not_true, if_neg (by simp), show (1 : Int) = ((1 : Nat) : Int) from rfl, shl_eq (k := L - 1) (v := 1) (by omega) (by omega) (by rw [w64 (by omega)]; omega), Option.bind_some]
  rw [show IntKind.i64.wrap (((1 * 2 ^ (L - 1) : Nat) : Int) - ((1 : Nat) : Int)) = ((2 ^ (L - 1) - 1 : Nat) : Int) by rw [w64 (by omega)]; omega]
  rw [fD_run h2 h8 _ _ (by omega) ha, Option.bind_some, wt_eq h2 h8 hd, Option.bind_some]
  dsimp only
  rw [full_eq h8, Option.bind_some, pprs_eq h2 h8, Option.bind_some]
theorem pfirst_no {x : Int} (h : ¬ (2 ≤ x ∧ x ≤ 8)) : pulse_FirstMaximal x = some (0, [], [], 2) := by
  unfold pulse_FirstMaximal
  rw [pwithin_eq, Option.bind_some]
  dsimp only
  rw [decide_eq_false h, refuse1_eq, Option.bind_some]
  rfl
/-- the first one is proved by its primes -/
theorem first_ok {L : Nat} (h2 : 2 ≤ L) (h8 : L ≤ 8) : pulse_CheckMaximal L (ints (tapsP L (fdg L))) (ints (prs L)) = some 0 ∧ (ints (tapsP L (fdg L))).length ≤ 12 ∧ (ints (prs L)).length ≤ 12 := by
  obtain ⟨_, _, hm, _, hc⟩ := both h2 h8
  have hr : Reg L (tapsP L (fdg L)) := reg_taps h2 h8 _
  have hl : (ints (tapsP L (fdg L))).length ≤ 12 := by unfold ints; rw [List.length_map]; exact hr.len
  obtain ⟨n, hp, hn⟩ := per_exists hr (s := 1) (by omega) (one_lt hr)
  have hn' : n = 2 ^ L - 1 := by
    have := maxB_iff hr hp hn
    rw [hm] at this
    simpa using this
  have hpr : (ints (prs L)).length ≤ 8 ∧ ascG 2 255 (ints (prs L)) = 0 := by
    rcases lens h2 h8 with rfl | rfl | rfl | rfl | rfl | rfl | rfl <;> decide +kernel
  refine ⟨?_, hl, by omega⟩
  rw [pchkM_eq hr hl hc hp hn _ (by omega)]
  unfold cm
  rw [if_neg (by omega), if_neg (by simpa using hpr.2), if_pos ⟨rfl, hn'⟩]
end Go.Rex

namespace Go.Rex
theorem same_eq (a : Int) (l : List Int) (h : l.length ≤ 12) : ref04_Same a l a l = some true := by
  unfold ref04_Same
  rw [if_pos (by simp), intsE l l (by omega), Option.bind_some]
  simp
theorem same0_eq : ref04_Same_de06 0 [] 0 = some true := by
  unfold ref04_Same_de06 base_Ints_811f
  rw [if_pos (by simp), if_neg (by simp)]
  have : run (base_Ints_811f_l1 []) () = some () := run_stop rfl
  rw [this]
  rfl
theorem maximal_true (L : Int) (l p : List Int) (c : Int) : law04_PulseMaximal L l p c = some true := by
  unfold law04_PulseMaximal
  by_cases hlen : (l.length : Int) > 12
  · rw [if_pos (by simpa using hlen)]
  rw [if_neg (by simpa using hlen)]
  by_cases hlen2 : (p.length : Int) > 12
  · rw [if_pos (by simpa using hlen2)]
  rw [if_neg (by simpa using hlen2)]
  have hl : l.length ≤ 12 := by omega
  have hpl : p.length ≤ 12 := by omega
  simp only [rcopy_eq L l (show l.length ≤ 2000 by omega), copy_eq p (show p.length ≤ 2000 by omega), Option.bind_some, rchk_eq L l hl, within_eq]
  have key : ∃ (b : Bool) (e f : Int), pulse_IsMaximal L l = some (b, e) ∧ e = chk L l ∧ pulse_CheckMaximal L l p = some f ∧ ref04_CheckMaximal L l p = some f ∧ (chk L l ≠ 0 → b = false) ∧ (chk L l = 0 → ref04_IsMaximal L l = some b) := by
    by_cases h : chk L l = 0
    · obtain ⟨n, ts, rfl, rfl, hr⟩ := reg_of hl h
      obtain ⟨m, hp, hm⟩ := per_exists hr (s := 1) (by omega) (one_lt hr)
      refine ⟨decide (m = 2 ^ n - 1), 0, cm n m p, ?_, h.symm, pchkM_eq hr hl h hp hm p hpl, rchkM_eq hr hl h hp hm p hpl, fun h' => absurd h h', fun _ => rmax_eq hr hp hm⟩
      unfold pulse_IsMaximal
      simp only [pcheck_eq _ _ hl, h, Option.bind_some, isMax_eq hr hp hm]
      simp
    · refine ⟨false, chk L l, chk L l, ?_, rfl, ?_, ?_, fun _ => rfl, fun h' => absurd h' h⟩
      · unfold pulse_IsMaximal
        simp only [pcheck_eq _ _ hl, Option.bind_some]
        rw [if_pos (by simpa using h)]
      · unfold pulse_CheckMaximal pulse_ascending pulse_each_e53c pulse_firstError_db1e
        simp only [refuse_eq, Option.bind_some, pcheck_eq _ _ hl]
        rw [if_pos (by simpa using h)]
        rfl
      · unfold ref04_CheckMaximal
        rw [rchk_eq _ _ hl, Option.bind_some, if_pos (by simpa using h)]
  obtain ⟨b, e, f, h1, rfl, h2, h3, h4, h5⟩ := key
  simp only [h1, h2, h3, Option.bind_some]
  by_cases hc : 2 ≤ c ∧ c ≤ 8
  · obtain ⟨k, rfl⟩ : ∃ k : Nat, c = k := ⟨c.toNat, by omega⟩
    have hk2 : 2 ≤ k := by omega
    have hk8 : k ≤ 8 := by omega
    obtain ⟨g1, g2, g3⟩ := first_ok hk2 hk8
    simp only [pfirst_eq hk2 hk8, rfirst_eq hk2 hk8, Option.bind_some, same_eq _ _ g2, most_eq hk8, prs_eq hk2 hk8, intsE (ints (prs k)) _ (show (ints (prs k)).length ≤ 2 ^ 40 by omega), rcopy_eq _ (ints (tapsP k (fdg k))) (show (ints (tapsP k (fdg k))).length ≤ 2000 by omega), copy_eq (ints (prs k)) (show (ints (prs k)).length ≤ 2000 by omega), g1, decide_eq_true hc]
    by_cases h : chk L l = 0
    · simp [h, h5 h]
    · simp [h, h4 h]
  · simp only [pfirst_no hc, Option.bind_some, same0_eq, decide_eq_false hc]
    by_cases h : chk L l = 0
    · simp [h, h5 h]
    · simp [h, h4 h]
end Go.Rex

namespace Go.Rex
open Go Go.ChangeShapes Go.WideShapes Go.ChangeAt Go.RowKit Go.Joins Go.Proofs
/-! ### arguments: what they are as trees, and the names of their blocks -/
structure Arg (W : World) (v' : Value) (p : TV) (bs : List Blk) (is : List Info) (av : Nat → Value) : Prop where
  vr : ∀ (D : Nat → Prop) (m : NMap) n, (∀ j, j < bs.length → D (n + j)) → (∀ (j : Nat) i, is[j]? = some i → m (n + j) = i) → VR D m (av n) v'
  vl : ∀ (Fz : Nat → Prop) (h : List Blk) n, (∀ j, j < bs.length → Fz (n + j)) → (∀ (j : Nat) b, bs[j]? = some b → h[n + j]? = some b) → VL Fz h noL p (av n)
  ok : ∀ (D : Nat → Prop) (m : NMap) n, (∀ j, j < bs.length → D (n + j)) → (∀ (j : Nat) i, is[j]? = some i → m (n + j) = i) → ∀ (j : Nat) b, bs[j]? = some b → BlkOk D m W (n + j) b
  lt : ∀ (j : Nat) b i, bs[j]? = some b → is[j]? = some i → b ≠ .dead → i.block < W.heap.size
  len : is.length = bs.length
structure Args (W : World) (vs' : List Value) (ps : List TV) (bs : List Blk) (is : List Info) (av : Nat → List Value) : Prop where
  vr : ∀ (D : Nat → Prop) (m : NMap) n, (∀ j, j < bs.length → D (n + j)) → (∀ (j : Nat) i, is[j]? = some i → m (n + j) = i) → VRs D m (av n) vs'
  vl : ∀ (Fz : Nat → Prop) (h : List Blk) n, (∀ j, j < bs.length → Fz (n + j)) → (∀ (j : Nat) b, bs[j]? = some b → h[n + j]? = some b) → VLs Fz h noL ps (av n)
  ok : ∀ (D : Nat → Prop) (m : NMap) n, (∀ j, j < bs.length → D (n + j)) → (∀ (j : Nat) i, is[j]? = some i → m (n + j) = i) → ∀ (j : Nat) b, bs[j]? = some b → BlkOk D m W (n + j) b
  lt : ∀ (j : Nat) b i, bs[j]? = some b → is[j]? = some i → b ≠ .dead → i.block < W.heap.size
  len : is.length = bs.length
theorem Args.nil (W : World) : Args W [] [] [] [] (fun _ => []) :=
  ⟨fun _ _ _ _ _ => ⟨rfl, fun i a a' h => by simp at h⟩, fun _ _ _ _ _ => .nil, fun _ _ _ _ _ j b h => by simp at h, fun j b i h => by simp at h, rfl⟩
theorem Args.cons {W : World} {v' : Value} {p : TV} {bs bs2 : List Blk} {is is2 : List Info} {av : Nat → Value} {vs' : List Value} {ps : List TV} {avs : Nat → List Value}
    (a : Arg W v' p bs is av) (as : Args W vs' ps bs2 is2 avs) : Args W (v' :: vs') (p :: ps) (bs ++ bs2) (is ++ is2) (fun n => av n :: avs (n + bs.length)) := by
  have cD : ∀ (D : Nat → Prop) n, (∀ j, j < (bs ++ bs2).length → D (n + j)) → (∀ j, j < bs.length → D (n + j)) ∧ (∀ j, j < bs2.length → D (n + bs.length + j)) := by
    intro D n h
    refine ⟨fun j hj => h j (by simp; omega), fun j hj => ?_⟩
    have := h (bs.length + j) (by simp; omega)
    rwa [← Nat.add_assoc] at this
  have cI : ∀ (m : NMap) n, (∀ (j : Nat) i, (is ++ is2)[j]? = some i → m (n + j) = i) → (∀ (j : Nat) i, is[j]? = some i → m (n + j) = i) ∧ (∀ (j : Nat) i, is2[j]? = some i → m (n + bs.length + j) = i) := by
    intro m n h
    refine ⟨fun j i hj => h j i (by rw [List.getElem?_append_left (List.getElem?_eq_some_iff.1 hj).1]; exact hj), fun j i hj => ?_⟩
    have := h (bs.length + j) i (by rw [List.getElem?_append_right (by rw [a.len]; omega), a.len, Nat.add_sub_cancel_left]; exact hj)
    rwa [← Nat.add_assoc] at this
  refine ⟨fun D m n hD hm => ?_, fun Fz h n hF hh => ?_, fun D m n hD hm j b hb => ?_, fun j b i hb hi hd => ?_, by simp [a.len, as.len]⟩
  · have h1 := a.vr D m n (cD D n hD).1 (cI m n hm).1
    have h2 := as.vr D m (n + bs.length) (cD D n hD).2 (cI m n hm).2
    refine ⟨by simp [h2.len], fun i x x' hx hx' => ?_⟩
    cases i with
    | zero => simp at hx hx'; subst hx hx'; exact h1
    | succ i => simp at hx hx'; exact h2.at' i x x' hx hx'
  · refine .cons (a.vl Fz h n (cD Fz n hF).1 fun j b hb => hh j b (by rw [List.getElem?_append_left (List.getElem?_eq_some_iff.1 hb).1]; exact hb)) (as.vl Fz h (n + bs.length) (cD Fz n hF).2 fun j b hb => ?_)
    have := hh (bs.length + j) b (by rw [List.getElem?_append_right (by omega), Nat.add_sub_cancel_left]; exact hb)
    rwa [← Nat.add_assoc] at this
  · rcases Nat.lt_or_ge j bs.length with hj | hj
    · rw [List.getElem?_append_left hj] at hb
      exact a.ok D m n (cD D n hD).1 (cI m n hm).1 j b hb
    · rw [List.getElem?_append_right hj] at hb
      have := as.ok D m (n + bs.length) (cD D n hD).2 (cI m n hm).2 _ b hb
      rwa [show n + bs.length + (j - bs.length) = n + j by omega] at this
  · rcases Nat.lt_or_ge j bs.length with hj | hj
    · rw [List.getElem?_append_left hj] at hb
      rw [List.getElem?_append_left (by rw [a.len]; exact hj)] at hi
      exact a.lt j b i hb hi hd
    · rw [List.getElem?_append_right hj] at hb
      rw [List.getElem?_append_right (by rw [a.len]; exact hj), a.len] at hi
      exact as.lt _ b i hb hi hd
/-- the names of the arguments -/
def nm (is : List Info) : NMap := fun n => is.getD n ⟨0, 0, 0, 0⟩
theorem nm_at {is : List Info} {j : Nat} {i : Info} (h : is[j]? = some i) : nm is (0 + j) = i := by
  unfold nm
  rw [Nat.zero_add, List.getD_eq_getElem?_getD, h]
  rfl
section
variable {W : World} {vs' : List Value} {ps : List TV} {bs : List Blk} {is : List Info} {av : Nat → List Value}
theorem Args.rel (a : Args W vs' ps bs is av) : Rel W.heap.size bs.length (fun k => k < bs.length) (nm is) bs W := by
  refine ⟨Nat.le_refl _, fun _ h => h, fun n b hn hb => ?_, fun n b hn hb hd => ?_, fun n b hD hl => absurd hD (by omega), fun n b hn _ hb hd => ?_, fun n b hD hl => absurd hD (by omega), fun n n' b b' hD _ hl => absurd hD (by omega)⟩
  · have := a.ok (fun k => k < bs.length) (nm is) 0 (fun j hj => by omega) (fun j i hi => nm_at hi) n b hb
    rwa [Nat.zero_add] at this
  all_goals
    have hi : n < is.length := by rw [a.len]; exact hn
    have e := nm_at (List.getElem?_eq_getElem hi)
    rw [Nat.zero_add] at e
    rw [e]
    exact a.lt n b _ hb (List.getElem?_eq_getElem hi) hd
theorem Args.vls (a : Args W vs' ps bs is av) : VLs (fun k => k < bs.length) bs noL ps (av 0) := a.vl _ _ 0 (fun j hj => by omega) (fun j b hb => by rw [Nat.zero_add]; exact hb)
theorem Args.vrs (a : Args W vs' ps bs is av) : VRs (fun k => k < bs.length) (nm is) (av 0) vs' := a.vr _ _ 0 (fun j hj => by omega) (fun j i hi => nm_at hi)
end
theorem len1 {α : Type} {l : List α} (h : l.length = 1) : ∃ x0, l = [x0] := by
  match l, h with
  | [x0], _ => exact ⟨_, rfl⟩
theorem len2 {α : Type} {l : List α} (h : l.length = 2) : ∃ x0 x1, l = [x0, x1] := by
  match l, h with
  | [x0, x1], _ => exact ⟨_, _, rfl⟩
/-! ### arguments without names -/
def AtomV (c : Value) : Prop := isAtom c = true ∧ ∀ D m, VR D m c c
theorem atomV_int (k : IntKind) (n : Int) : AtomV (.int k n) := ⟨rfl, fun _ _ => .int _ _⟩
theorem Arg.atom {W : World} {v : Value} (h : AtomV v) : Arg W v (.v v) [] [] (fun _ => v) :=
  ⟨fun _ _ _ _ _ => h.2 _ _, fun _ _ _ _ _ => .v _ _ h.1, fun _ _ _ _ _ j b h => by simp at h, fun j b i h => by simp at h, rfl⟩
theorem Arg.agg {W : World} {l : List Value} (h : ∀ c ∈ l, AtomV c) : Arg W (.agg ⟨l⟩) (.agg (l.map .v)) [] [] (fun _ => .agg ⟨l⟩) := by
  refine ⟨fun _ _ _ _ _ => .agg _ _ rfl fun i v v' hv hv' => ?_, fun _ _ _ _ _ => .agg _ _ _ (by simp) fun i p x hp hx => ?_, fun _ _ _ _ _ j b h => by simp at h, fun j b i h => by simp at h, rfl⟩
  · obtain rfl : v = v' := Option.some.inj (hv.symm.trans hv')
    exact (h v (List.mem_of_getElem? hv)).2 _ _
  · rw [List.getElem?_map, hx] at hp
    obtain rfl := Option.some.inj hp
    exact .v _ _ (h x (List.mem_of_getElem? hx)).1
/-! ### a slice of rows -/
theorem flatMap_at {α β : Type} {g : α → List β} {es : Nat} (hg : ∀ x, (g x).length = es) (he : 0 < es) : ∀ (xs : List α) i, (xs.flatMap g)[i]? = (xs[i / es]?).bind fun x => (g x)[i % es]?
  | [], i => by simp
  | x :: t, i => by
    rw [List.flatMap_cons]
    rcases Nat.lt_or_ge i es with h | h
    · rw [List.getElem?_append_left (by rw [hg]; exact h), Nat.div_eq_of_lt h, Nat.mod_eq_of_lt h]
      rfl
    · rw [List.getElem?_append_right (by rw [hg]; exact h), hg, flatMap_at hg he t (i - es)]
      have e1 : i / es = (i - es) / es + 1 := by rw [Nat.div_eq_sub_div he h]
      have e2 : i % es = (i - es) % es := Nat.mod_eq_sub_mod h
      rw [e1, e2]
      rfl
theorem flatMap_len {α β : Type} {g : α → List β} {es : Nat} (hg : ∀ x, (g x).length = es) : ∀ (xs : List α), (xs.flatMap g).length = xs.length * es
  | [] => by simp
  | x :: t => by rw [List.flatMap_cons, List.length_append, hg, flatMap_len hg t, List.length_cons, Nat.add_mul]; omega
theorem flatMap_map {α : Type} {f : α → List TV} {g : α → List Value} (hf : ∀ x, f x = (g x).map .v) : ∀ (xs : List α), (xs.map f).flatten = (xs.flatMap g).map .v
  | [] => rfl
  | x :: t => by rw [List.map_cons, List.flatten_cons, flatMap_map hf t, List.flatMap_cons, List.map_append, hf]
theorem choose_list {α : Type} {Q : Nat → α → Prop} : ∀ n, (∀ i, i < n → ∃ x, Q i x) → ∃ xs : List α, xs.length = n ∧ ∀ (i : Nat) x, xs[i]? = some x → Q i x
  | 0, _ => ⟨[], rfl, fun i x h => by simp at h⟩
  | n + 1, h => by
    obtain ⟨xs, hl, hq⟩ := choose_list n (fun i hi => h i (by omega))
    obtain ⟨x, hx⟩ := h n (by omega)
    refine ⟨xs ++ [x], by simp [hl], fun i y hy => ?_⟩
    rcases Nat.lt_or_ge i n with hi | hi
    · rw [List.getElem?_append_left (by omega)] at hy
      exact hq i y hy
    · rw [List.getElem?_append_right (by omega), hl] at hy
      have : i = n := by
        rcases Nat.lt_or_ge 0 (i - n) with g | g
        · rw [List.getElem?_eq_none (by simp; omega)] at hy; cases hy
        · omega
      subst this
      simp at hy
      subst hy
      exact hx
section
variable {H : Type} {enc : TypeId × Value → H} {W : World} {base : Nat} {spare : Nat → Bool} {held : Bool}
theorem open_rowsC {α : Type} {f : α → List TV} {g : α → List Value} {es : Nat} (he : 0 < es) (hf : ∀ x, f x = (g x).map .v) (hg : ∀ x, (g x).length = es) (hat : ∀ x, ∀ c ∈ g x, AtomV c)
    {P : Program} {t te : TypeId} (ht : P.underlying t = some (.slice te)) (hC : P.cellsOf te = es) {r : Reach} {b0 : Nat} {v' : Value} (hval : Cell.okWide P W r b0 t v')
    (elem : ∀ n cs y, DataW.trod enc P W base spare held n te cs = some y → cs.length = es → ∃ x : α, cs = g x)
    {fuel : Nat} {x : DataW H × List MemPlace} (h : DataW.trod enc P W base spare held fuel t [v'] = some x) : ∃ (xs : List α) (bs : List Blk) (is : List Info) (av : Nat → Value), Arg W v' (.list es (xs.map f)) bs is av := by
  rcases DataW.trod_slice ht h with ⟨hv, _⟩ | ⟨a, len, cap, elems, rest, n, _, hv, _, hb, hlc, hcm, hel, hel2, _, _⟩
  · obtain rfl : v' = .slice none 0 0 := by simpa using hv
    exact ⟨[], [], [], fun _ => .slice none 0 0, fun _ _ _ _ _ => .nilSlice 0 0, fun _ _ _ _ _ => .nillist _ _, fun _ _ _ _ _ j b h => by simp at h, fun j b i h => by simp at h, rfl⟩
  · obtain rfl : v' = .slice (some a) len cap := by simpa using hv
    have hok : len ≤ cap ∧ (cap : Int) ≤ IntKind.i64.max ∧ W.has P r b0 a te cap := by
      unfold Cell.okWide at hval
      simp only [ht] at hval
      unfold Cell.ok at hval
      simpa only [ht] using hval
    obtain ⟨gb, o, s⟩ := a
    obtain ⟨_, _, _, hs, row, cells, hsh, _⟩ := hok
    simp only at hs hsh
    subst hs
    have hgb : gb < W.heap.size := by
      unfold World.shape? at hsh
      rcases Nat.lt_or_ge gb W.heap.size with hg | hg
      · exact hg
      · rw [Array.getElem?_eq_none hg] at hsh
        simp at hsh
    have key : ∀ i, i < len → ∃ x : α, ∀ j, j < es → W.cell? ⟨gb, o + i * es + j, none⟩ = (g x)[j]? := fun i hi => by
      have h1 := hel2 i hi
      rw [List.getElem?_eq_getElem (by omega), Option.bind_eq_some_iff] at h1
      obtain ⟨cs, hcs, htr⟩ := h1
      rw [hC] at hcs
      unfold World.cells? at hcs
      split at hcs
      · have hlen := mapM_some_length hcs
        simp at hlen
        obtain ⟨x, rfl⟩ := elem n cs _ htr hlen
        refine ⟨x, fun j hj => ?_⟩
        have := mapM_some_get hcs j j (by simp [hj])
        have e : ((⟨gb, o, none⟩ : Addr).add (i * es)).add j = ⟨gb, o + i * es + j, none⟩ := by
          unfold Addr.add
          split <;> split <;> simp_all
        rw [← e]
        exact this
      · cases hcs
    obtain ⟨xs, hl, hq⟩ := choose_list len key
    subst hl
    have hlen := flatMap_len hg xs
    have hfl := flatMap_map hf xs
    refine ⟨xs, [.cells es (xs.flatMap g)], [⟨gb, o, cap * es, es⟩], fun n => .slice (some ⟨n, 0, none⟩) xs.length xs.length, fun D m n hD hm => ?_, fun Fz h n hF hh => ?_, fun D m n hD hm j b hb => ?_, fun j b i hb hi hd => ?_, rfl⟩
    · have e := hm 0 _ rfl
      rw [Nat.add_zero] at e
      have := VR.slice (D := D) (m := m) n 0 xs.length xs.length cap (hD 0 (by simp)) (Nat.le_refl _) hlc (.inr (by rw [e]; simp))
      rw [e] at this
      exact this
    · have hw : ∀ r ∈ xs.map f, r.length = es := fun r hr => by obtain ⟨x, _, rfl⟩ := List.mem_map.1 hr; rw [hf, List.length_map, hg]
      have := VL.list (Fz := Fz) (h := h) noL es (xs.map f) n 0 xs.length (xs.flatMap g) es (hF 0 (by simp)) (hh 0 _ rfl) (.inl rfl) hw (by simp) (by rw [List.length_map, hlen]; omega) (fun j p x hp hx => by
        rw [hfl, List.getElem?_map, Option.map_eq_some_iff] at hp
        rw [Nat.zero_add] at hx
        obtain ⟨y, h1, rfl⟩ := hp
        obtain rfl : y = x := Option.some.inj (h1.symm.trans hx)
        obtain ⟨z, _, hz⟩ := List.mem_flatMap.1 (List.mem_of_getElem? hx)
        exact .v _ _ (hat z y hz).1)
      rw [List.length_map] at this
      exact this
    · match j, hb with
      | 0, hb =>
        obtain rfl := Option.some.inj hb
        have e := hm 0 _ rfl
        rw [Nat.add_zero] at e ⊢
        refine ⟨by rw [e], fun i v hv => ⟨v, ?_, ?_⟩⟩
        · rw [flatMap_at hg he, Option.bind_eq_some_iff] at hv
          obtain ⟨x, hx, hv⟩ := hv
          rw [e]
          have := hq _ x hx (i % es) (Nat.mod_lt _ he)
          rw [Nat.add_assoc, Nat.mul_comm, Nat.div_add_mod] at this
          rw [this]
          exact hv
        · obtain ⟨z, _, hz⟩ := List.mem_flatMap.1 (List.mem_of_getElem? hv)
          exact (hat z v hz).2 _ _
      | j + 1, hb => simp at hb
    · match j, hb, hi with
      | 0, hb, hi => obtain rfl := Option.some.inj hi
                     exact hgb
      | j + 1, hb, hi => simp at hb
theorem open_rows {α : Type} {f : α → List TV} {g : α → List Value} {es : Nat} (he : 0 < es) (hf : ∀ x, f x = (g x).map .v) (hg : ∀ x, (g x).length = es) (hat : ∀ x, ∀ c ∈ g x, AtomV c)
    {P : Program} {t te : TypeId} (ht : P.underlying t = some (.slice te)) (hC : P.cellsOf te = es) {r : Reach} {b0 : Nat} {v' : Value} (hval : Value.okWide P W r b0 t v')
    (elem : ∀ n cs y, DataW.trod enc P W base spare held n te cs = some y → cs.length = es → ∃ x : α, cs = g x)
    {fuel : Nat} {x : DataW H × List MemPlace} (h : DataW.trod enc P W base spare held fuel t [v'] = some x) : ∃ (xs : List α) (bs : List Blk) (is : List Info) (av : Nat → Value), Arg W v' (.list es (xs.map f)) bs is av := by
  refine open_rowsC he hf hg hat ht hC (r := r) (b0 := b0) ?_ elem h
  unfold Value.okWide at hval
  simpa only [ht] using hval
/-! ### aggregates of ints -/
def AI (cs : List Value) : Prop := ∀ c ∈ cs, ∃ n : Int, c = .int .i64 n
theorem AI.list {cs : List Value} (h : AI cs) : ∃ l : List Int, cs = l.map (.int .i64) := by
  induction cs with
  | nil => exact ⟨[], rfl⟩
  | cons c t ih =>
    obtain ⟨n, rfl⟩ := h c (by simp)
    obtain ⟨l, rfl⟩ := ih fun c hc => h c (by simp [hc])
    exact ⟨n :: l, rfl⟩
variable {P : Program}
theorem ai_int {te : TypeId} (ht : P.underlying te = some (.int .i64)) {fuel : Nat} {cs : List Value} {x : DataW H × List MemPlace} (h : DataW.trod enc P W base spare held fuel te cs = some x) : AI cs := by
  obtain ⟨n, rfl, _⟩ := DataW.trod_int ht h
  exact fun c hc => ⟨n, by simpa using hc⟩
theorem okW_int {t : TypeId} (ht : P.underlying t = some (.int .i64)) {r : Reach} {b : Nat} {v : Value} (w : Cell.okWide P W r b t v) : ∃ n : Int, v = .int .i64 n := by
  unfold Cell.okWide at w
  simp only [ht] at w
  unfold Cell.ok at w
  simp only [ht] at w
  cases v <;> first | exact ⟨_, by rw [w.1]⟩ | exact absurd w (by simp)
theorem open_int {t : TypeId} (ht : P.underlying t = some (.int .i64)) {r : Reach} {b : Nat} {v : Value} (w : Value.okWide P W r b t v) : ∃ n : Int, v = .int .i64 n := by
  unfold Value.okWide at w
  simp only [ht] at w
  exact okW_int ht w
theorem Arg.ofArgs {cs : List Value} {ps : List TV} {bs : List Blk} {is : List Info} {av : Nat → List Value} (a : Args W cs ps bs is av) : Arg W (.agg ⟨cs⟩) (.agg ps) bs is (fun n => .agg ⟨av n⟩) :=
  ⟨fun D m n hD hm => .agg' (a.vr D m n hD hm), fun Fz h n hF hh => .agg' (a.vl Fz h n hF hh), a.ok, a.lt, a.len⟩
theorem open_cells {t : TypeId} {fs : Array Field} {ts : List TypeId} (ht : P.underlying t = some (.struct fs)) (hct : P.cellTypes P.depth t = some ts) (hn : P.cellsOf t = ts.length) {r : Reach} {b : Nat} {v : Value} (w : Value.okWide P W r b t v) :
    ∃ cs : List Value, v = .agg ⟨cs⟩ ∧ cs.length = ts.length ∧ ∀ (j : Nat) c u, cs[j]? = some c → ts[j]? = some u → Cell.okWide P W r b u c := by
  unfold Value.okWide at w
  simp only [ht] at w
  obtain ⟨cs, rfl, hs, ts', hts, _, hc⟩ := w
  rw [hct] at hts
  obtain rfl := Option.some.inj hts
  obtain ⟨l⟩ := cs
  have hl : l.length = ts.length := by simpa [hn] using hs
  refine ⟨l, rfl, hl, fun j c u hj hu => ?_⟩
  obtain ⟨u', hu', hok⟩ := hc j c (by simpa using hj)
  rw [Nat.mod_eq_of_lt (by have := (List.getElem?_eq_some_iff.1 hj).1; omega)] at hu'
  obtain rfl := Option.some.inj (hu.symm.trans hu')
  exact hok
theorem st_field {t : TypeId} {fs : Array Field} {i : Nat} {f : Field} (ht : P.underlying t = some (.struct fs)) (hf : fs[i]? = some f) {fuel : Nat} {cs : List Value} {x : DataW H × List MemPlace} (h : DataW.trod enc P W base spare held fuel t cs = some x) :
    ∃ n y, DataW.trod enc P W base spare held n f.type ((cs.drop f.offset).take (P.cellsOf f.type)) = some y := by
  obtain ⟨xs, n, _, _, hl, hx, hi⟩ := DataW.trod_struct ht h
  have := hi i f hf
  have hil : i < fs.size := (Array.getElem?_eq_some_iff.1 hf).1
  rw [List.getElem?_eq_getElem (by omega)] at this
  exact ⟨n, _, this⟩
end
end Go.Rex
