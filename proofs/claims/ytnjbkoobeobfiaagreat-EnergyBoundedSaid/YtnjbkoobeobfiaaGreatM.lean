/- What these functions return: facts on lists and numbers. -/
import Derived.Test.YtnjbkoobeobfiaaGreatRexG9
import Derived.Test.YtnjbkoobeobfiaaGreatProg
import Derived.Test.YtnjbkoobeobfiaaGreatRexG7
import Derived.Test.YtnjbkoobeobfiaaGreatS
import Derived.Test.YtnjbkoobeobfiaaGreatRexG8
import Derived.ProofKit
import Derived.OpenShut
import Derived.ShutString
import Derived.ChangeOld
import Derived.Below
import Derived.Lib.SmallJoins
import Derived.ChangeShapes
import Derived.ChangeArms
import Derived.WideShapes
set_option linter.unusedSimpArgs false
set_option linter.unusedVariables false
set_option linter.defProp false
open Go Go.Rex
namespace Go.Rex
set_option maxRecDepth 100000
-- shoebox/hall.CheckHall
def pc0 : Piece := ⟨122, [.agg ⟨[.string ⟨⟨[104]⟩⟩, .int .i64 600, .string ⟨⟨[119]⟩⟩, .string ⟨⟨[119]⟩⟩, .slice (some ⟨0, 0, none⟩) 1 1, .slice (some ⟨1, 0, none⟩) 4 4, .slice (some ⟨2, 0, none⟩) 4 4, .slice none 0 0, .slice none 0 0]⟩], [.cells 6 [.string ⟨⟨[119]⟩⟩, .int .i64 100, .int .i64 100, .int .i64 100, .int .i64 100, .int .i64 0], .cells 2 [.int .i64 0, .int .i64 0, .int .i64 1000, .int .i64 0, .int .i64 1000, .int .i64 2000, .int .i64 0, .int .i64 2000], .cells 3 [.string ⟨⟨[97]⟩⟩, .string ⟨⟨[119]⟩⟩, .string ⟨⟨[]⟩⟩, .string ⟨⟨[98]⟩⟩, .string ⟨⟨[119]⟩⟩, .string ⟨⟨[]⟩⟩, .string ⟨⟨[99]⟩⟩, .string ⟨⟨[119]⟩⟩, .string ⟨⟨[]⟩⟩, .string ⟨⟨[100]⟩⟩, .string ⟨⟨[119]⟩⟩, .string ⟨⟨[]⟩⟩]], .tuple ⟨[.agg ⟨[.int .i64 0, .int .i64 0]⟩, .int .i64 0]⟩⟩
-- shoebox/image.FormatWalk
def pc1 : Piece := ⟨95, [.agg ⟨[.string ⟨⟨[104]⟩⟩, .int .i64 600, .string ⟨⟨[119]⟩⟩, .string ⟨⟨[119]⟩⟩, .slice (some ⟨0, 0, none⟩) 1 1, .slice (some ⟨1, 0, none⟩) 4 4, .slice (some ⟨2, 0, none⟩) 4 4, .slice none 0 0, .slice none 0 0]⟩, .slice (some ⟨3, 0, none⟩) 1 1], [.cells 6 [.string ⟨⟨[119]⟩⟩, .int .i64 100, .int .i64 100, .int .i64 100, .int .i64 100, .int .i64 0], .cells 2 [.int .i64 0, .int .i64 0, .int .i64 1000, .int .i64 0, .int .i64 1000, .int .i64 2000, .int .i64 0, .int .i64 2000], .cells 3 [.string ⟨⟨[97]⟩⟩, .string ⟨⟨[119]⟩⟩, .string ⟨⟨[]⟩⟩, .string ⟨⟨[98]⟩⟩, .string ⟨⟨[119]⟩⟩, .string ⟨⟨[]⟩⟩, .string ⟨⟨[99]⟩⟩, .string ⟨⟨[119]⟩⟩, .string ⟨⟨[]⟩⟩, .string ⟨⟨[100]⟩⟩, .string ⟨⟨[119]⟩⟩, .string ⟨⟨[]⟩⟩], .cells 1 [.int .i64 4]], .tuple ⟨[.string ⟨⟨[102, 108, 111, 111, 114]⟩⟩, .int .i64 0]⟩⟩
-- shoebox/energy.EnergyOf
def pc2 : Piece := ⟨41, [.agg ⟨[.string ⟨⟨[104]⟩⟩, .int .i64 600, .string ⟨⟨[119]⟩⟩, .string ⟨⟨[119]⟩⟩, .slice (some ⟨0, 0, none⟩) 1 1, .slice (some ⟨1, 0, none⟩) 4 4, .slice (some ⟨2, 0, none⟩) 4 4, .slice none 0 0, .slice none 0 0]⟩, .agg ⟨[.slice none 0 0, .slice none 0 0]⟩, .agg ⟨[.slice (some ⟨3, 0, none⟩) 1 1, .slice (some ⟨4, 0, none⟩) 1 1, .int .i64 50000]⟩, .agg ⟨[.int .i64 0, .int .i64 1000, .int .i64 34000]⟩], [.cells 6 [.string ⟨⟨[119]⟩⟩, .int .i64 100, .int .i64 100, .int .i64 100, .int .i64 100, .int .i64 0], .cells 2 [.int .i64 0, .int .i64 0, .int .i64 1000, .int .i64 0, .int .i64 1000, .int .i64 2000, .int .i64 0, .int .i64 2000], .cells 3 [.string ⟨⟨[97]⟩⟩, .string ⟨⟨[119]⟩⟩, .string ⟨⟨[]⟩⟩, .string ⟨⟨[98]⟩⟩, .string ⟨⟨[119]⟩⟩, .string ⟨⟨[]⟩⟩, .string ⟨⟨[99]⟩⟩, .string ⟨⟨[119]⟩⟩, .string ⟨⟨[]⟩⟩, .string ⟨⟨[100]⟩⟩, .string ⟨⟨[119]⟩⟩, .string ⟨⟨[]⟩⟩], .cells 1 [.int .i64 4], .cells 4 [.int .i64 0, .int .i64 0, .int .i64 0, .int .i64 0]], .tuple ⟨[.agg ⟨[.int .i64 17946053, .int .i64 17964018]⟩, .int .i64 0]⟩⟩
-- shoebox/hall.AbsorptionArea
def pc3 : Piece := ⟨101, [.agg ⟨[.string ⟨⟨[104]⟩⟩, .int .i64 600, .string ⟨⟨[119]⟩⟩, .string ⟨⟨[119]⟩⟩, .slice (some ⟨0, 0, none⟩) 1 1, .slice (some ⟨1, 0, none⟩) 4 4, .slice (some ⟨2, 0, none⟩) 4 4, .slice none 0 0, .slice none 0 0]⟩, .agg ⟨[.slice none 0 0, .slice none 0 0]⟩, .int .i64 0], [.cells 6 [.string ⟨⟨[119]⟩⟩, .int .i64 100, .int .i64 100, .int .i64 100, .int .i64 100, .int .i64 0], .cells 2 [.int .i64 0, .int .i64 0, .int .i64 1000, .int .i64 0, .int .i64 1000, .int .i64 2000, .int .i64 0, .int .i64 2000], .cells 3 [.string ⟨⟨[97]⟩⟩, .string ⟨⟨[119]⟩⟩, .string ⟨⟨[]⟩⟩, .string ⟨⟨[98]⟩⟩, .string ⟨⟨[119]⟩⟩, .string ⟨⟨[]⟩⟩, .string ⟨⟨[99]⟩⟩, .string ⟨⟨[119]⟩⟩, .string ⟨⟨[]⟩⟩, .string ⟨⟨[100]⟩⟩, .string ⟨⟨[119]⟩⟩, .string ⟨⟨[]⟩⟩]], .tuple ⟨[.agg ⟨[.int .i64 760000, .int .i64 760000]⟩, .int .i64 0]⟩⟩
-- (*shoebox/energy.room).surface
def pc4 : Piece := ⟨102, [.pointer (some ⟨0, 0, none⟩)], [.cells 0 [.string ⟨⟨[104]⟩⟩, .int .i64 600, .string ⟨⟨[119]⟩⟩, .string ⟨⟨[119]⟩⟩, .slice (some ⟨1, 0, none⟩) 1 1, .slice (some ⟨2, 0, none⟩) 4 4, .slice (some ⟨3, 0, none⟩) 4 4, .slice none 0 0, .slice none 0 0, .slice none 0 0, .slice none 0 0, .int .i64 6], .cells 6 [.string ⟨⟨[119]⟩⟩, .int .i64 100, .int .i64 100, .int .i64 100, .int .i64 100, .int .i64 0], .cells 2 [.int .i64 0, .int .i64 0, .int .i64 1000, .int .i64 0, .int .i64 1000, .int .i64 2000, .int .i64 0, .int .i64 2000], .cells 3 [.string ⟨⟨[97]⟩⟩, .string ⟨⟨[119]⟩⟩, .string ⟨⟨[]⟩⟩, .string ⟨⟨[98]⟩⟩, .string ⟨⟨[119]⟩⟩, .string ⟨⟨[]⟩⟩, .string ⟨⟨[99]⟩⟩, .string ⟨⟨[119]⟩⟩, .string ⟨⟨[]⟩⟩, .string ⟨⟨[100]⟩⟩, .string ⟨⟨[119]⟩⟩, .string ⟨⟨[]⟩⟩]], .agg ⟨[.int .i64 7600000, .int .i64 7600000]⟩⟩
end Go.Rex

open Go Go.Rex Go.Proofs
namespace Go.Rex
theorem follows : Tryz.prog.follows .mixedOrders = true := by decide +kernel
end Go.Rex


open Go Go.Rex Go.Proofs
namespace Go.Rex
set_option maxRecDepth 100000
theorem pok0 : CallOk Tryz.prog pc0 := piece_ok follows (tab := []) (tab_nil) (k := 100000) (d := 100) (by decide +kernel)
end Go.Rex

open Go Go.Rex Go.Proofs
namespace Go.Rex
set_option maxRecDepth 100000
theorem pok1 : CallOk Tryz.prog pc1 := piece_ok follows (tab := [pc0]) (tab_cons pok0 (tab_nil)) (k := 100000) (d := 100) (by decide +kernel)
end Go.Rex

open Go Go.Rex Go.Proofs
namespace Go.Rex
set_option maxRecDepth 100000
theorem pok2 : CallOk Tryz.prog pc2 := piece_ok follows (tab := [pc0, pc1]) (tab_cons pok0 (tab_cons pok1 (tab_nil))) (k := 100000) (d := 100) (by decide +kernel)
end Go.Rex

open Go Go.Rex Go.Proofs
namespace Go.Rex
set_option maxRecDepth 100000
theorem pok3 : CallOk Tryz.prog pc3 := piece_ok follows (tab := [pc0]) (tab_cons pok0 (tab_nil)) (k := 100000) (d := 100) (by decide +kernel)
end Go.Rex

open Go Go.Rex Go.Proofs
namespace Go.Rex
set_option maxRecDepth 100000
theorem pok4 : CallOk Tryz.prog pc4 := piece_ok follows (tab := [pc0]) (tab_cons pok0 (tab_nil)) (k := 100000) (d := 100) (by decide +kernel)
end Go.Rex

open Go Go.Rex Go.Proofs
namespace Go.Rex
set_option maxRecDepth 100000
theorem awake_true : AwT Tryz.prog 9 := awT_of_pieces follows (tab := [pc2, pc0, pc3, pc4]) (tab_cons pok2 (tab_cons pok0 (tab_cons pok3 (tab_cons pok4 (tab_nil))))) (k := 100000) (d := 100) (by decide +kernel)
end Go.Rex

namespace Go.Rex
/-! ### plain facts for shallow functions -/
theorem w64 {x : Int} (h : -9223372036854775808 ≤ x ∧ x ≤ 9223372036854775807) : IntKind.i64.wrap x = x:=IntWalk.i64_in x (by omega)
/-- a loop that counts -/
theorem run_count {σ ε : Type} {step : σ → Option (σ ⊕ ε)} (f : Nat → σ) {n : Nat} {e : ε} (h : ∀ k,k < n → step (f k) = some (.inl (f (k + 1)))) (hn : step (f n) = some (.inr e)) : run step (f 0) = some e:=by
  suffices H : ∀ j k,n - k = j → k ≤ n → run step (f k) = some e from H n 0 (by omega) (Nat.zero_le _)
  intro j
  induction j with
  | zero => intro k hj hk; obtain rfl : k = n := by omega
            exact run_stop hn
  | succ j ih=>intro k hj hk;rw [run_next (h k (by omega))];exact ih (k + 1) (by omega) (by omega)
theorem getI_nat {α : Type} {xs : List α} {k : Nat} : getI xs (k : Int) = xs[k]?:=by
  unfold getI
  rw [if_pos (by omega),Int.toNat_natCast]
theorem appI_one {α : Type} {b : Nat} {xs : List α} {y : α} (h : xs.length < 2 ^ 40) (hb : b ≤ 128) : appI b xs [y] = some (xs ++ [y]):=by
  unfold appI
  rw [if_pos]
  refine ⟨by simp;omega,?_⟩
  have h1 : (xs.length + [y].length) * b ≤ 2 ^ 40 * 128:=Nat.mul_le_mul (by simp;omega) hb
  omega
end Go.Rex

namespace Go.Rex
/-! ### a loop that walks a list,gathers,and may end early -/
end Go.Rex

open Go Go.Rex
namespace Go.Rex
set_option maxRecDepth 100000
/-! ### loops, once more -/
theorem wsucc {k : Nat} {n : Nat} (h : k ≤ n) (hn : n ≤ 2 ^ 62) : IntKind.i64.wrap ((k : Int) + 1) = ((k + 1 : Nat) : Int) := by rw [w64 (by omega)]; omega
/-- the first one that has an answer -/
def firstOf {ε : Type} (p : Nat → Option ε) (n : Nat) : Option ε := (List.range n).findSome? p
theorem firstOf_none {ε : Type} {p : Nat → Option ε} {n : Nat} : firstOf p n = none ↔ ∀ k, k < n → p k = none := by
  unfold firstOf
  rw [List.findSome?_eq_none_iff]
  constructor
  · intro h k hk; exact h k (List.mem_range.2 hk)
  · intro h k hk; exact h k (List.mem_range.1 hk)
theorem firstOf_succ {ε : Type} {p : Nat → Option ε} {n : Nat} : firstOf p (n + 1) = match firstOf p n with | some e => some e | none => p n := by
  unfold firstOf
  rw [List.range_succ, List.findSome?_append]
  cases h : List.findSome? p (List.range n) with
  | some e => rfl
  | none => simp
theorem firstOf_congr {ε : Type} {p q : Nat → Option ε} {n : Nat} (h : ∀ k, k < n → p k = q k) : firstOf p n = firstOf q n := by
  induction n with
  | zero => rfl
  | succ n ih => rw [firstOf_succ, firstOf_succ, ih (fun k hk => h k (by omega)), h n (by omega)]
theorem run_find {ε δ : Type} {step : Int → Option (Int ⊕ (ε ⊕ δ))} {n : Nat} {p : Nat → Option ε} {r : δ}
    (h : ∀ k : Nat, k < n → (∀ j, j < k → p j = none) → step (k : Int) = some (match p k with | none => .inl ((k + 1 : Nat) : Int) | some e => .inr (.inl e))) (he : (∀ j, j < n → p j = none) → step (n : Int) = some (.inr (.inr r))) : run step 0 = some (match firstOf p n with | some e => .inl e | none => .inr r) := by
  suffices H : ∀ m, m ≤ n → firstOf p m = none → run step 0 = run step (m : Int) by
    cases hf : firstOf p n with
    | none =>
      simp only
      rw [H n (Nat.le_refl _) hf]
      exact run_stop (he (firstOf_none.1 hf))
    | some e =>
      simp only
      have : ∃ m, m < n ∧ firstOf p m = none ∧ p m = some e := by
        clear h he H
        induction n with
        | zero => simp [firstOf] at hf
        | succ n ih =>
          rw [firstOf_succ] at hf
          cases hn : firstOf p n with
          | none => rw [hn] at hf; exact ⟨n, by omega, hn, hf⟩
          | some e' => rw [hn] at hf; cases hf; obtain ⟨m, h1, h2⟩ := ih hn; exact ⟨m, by omega, h2⟩
      obtain ⟨m, hm, h1, h2⟩ := this
      rw [H m (by omega) h1]
      have := h m hm (firstOf_none.1 h1)
      rw [h2] at this
      exact run_stop this
  intro m
  induction m with
  | zero => intro _ _; rfl
  | succ m ih =>
    intro hm hf
    have hf' := firstOf_none.1 hf
    rw [ih (by omega) (firstOf_none.2 fun k hk => hf' k (by omega))]
    have := h m (by omega) (fun j hj => hf' j (by omega))
    rw [hf' m (by omega)] at this
    exact run_next this
def iter {β : Type} (g : Nat → β → β) : Nat → β → β
  | 0, b => b
  | k + 1, b => g k (iter g k b)
theorem run_iter {β σ ε : Type} {step : σ → Option (σ ⊕ ε)} (st : Nat → β → σ) (g : Nat → β → β) (fin : β → ε) (n : Nat) (Inv : Nat → β → Prop) {b0 : β} (h0 : Inv 0 b0)
    (hs : ∀ k b, k < n → Inv k b → step (st k b) = some (.inl (st (k + 1) (g k b))) ∧ Inv (k + 1) (g k b)) (he : ∀ b, Inv n b → step (st n b) = some (.inr (fin b))) :
    run step (st 0 b0) = some (fin (iter g n b0)) ∧ ∀ k, k ≤ n → Inv k (iter g k b0) := by
  have hI : ∀ k, k ≤ n → Inv k (iter g k b0) := by
    intro k
    induction k with
    | zero => intro _; exact h0
    | succ k ih => intro hk; exact (hs k _ (by omega) (ih (by omega))).2
  refine ⟨?_, hI⟩
  exact run_count (fun k => st k (iter g k b0)) (fun k hk => (hs k _ hk (hI k (by omega))).1) (he _ (hI n (Nat.le_refl _)))
theorem getI_lt' {α : Type} {l : List α} {k : Nat} (h : k < l.length) : getI l (k : Int) = some l[k] := by
  rw [getI_nat]; exact List.getElem?_eq_getElem h
/-! ### small things -/
theorem copyI' {l : List Int} (h : l.length ≤ 1048576) : appI 8 ([] : List Int) l = some l := by
  unfold appI
  rw [if_pos (by simp; omega)]
  simp
theorem mkI_nat {n : Nat} (h : n ≤ 1048576) : mkI 8 (n : Int) (0 : Int) = some (List.replicate n 0) := by
  unfold mkI
  rw [if_pos (by omega), Int.toNat_natCast]
/-! ### sums of lists -/
def sumL : List Int → Int
  | [] => 0
  | x :: t => x + sumL t
theorem sumL_append (a b : List Int) : sumL (a ++ b) = sumL a + sumL b := by
  induction a with
  | nil => simp [sumL]
  | cons x t ih => simp only [List.cons_append, sumL, ih]; omega
theorem sumL_set : ∀ {l : List Int} {k : Nat} (h : k < l.length) (x : Int), sumL (l.set k x) = sumL l - l[k] + x
  | y :: t, 0, _, x => by simp only [List.set_cons_zero, sumL, List.getElem_cons_zero]; omega
  | y :: t, k + 1, h, x => by
    simp only [List.set_cons_succ, sumL, List.getElem_cons_succ]
    rw [sumL_set (by simpa using h)]
    omega
theorem sumL_replicate (n : Nat) : sumL (List.replicate n 0) = 0 := by
  induction n with
  | zero => rfl
  | succ n ih => simp only [List.replicate_succ, sumL, ih]; rfl
theorem sumL_take_succ {l : List Int} {k : Nat} (h : k < l.length) : sumL (l.take (k + 1)) = sumL (l.take k) + l[k] := by
  rw [List.take_add_one, sumL_append, List.getElem?_eq_getElem h]
  simp [sumL]
theorem sumL_nonneg : ∀ {l : List Int}, (∀ x ∈ l, 0 ≤ x) → 0 ≤ sumL l
  | [], _ => by simp [sumL]
  | x :: t, h => by
    have := sumL_nonneg (l := t) fun y hy => h y (by simp [hy])
    have := h x (by simp)
    simp only [sumL]; omega
theorem sumL_le {m : Int} : ∀ {l : List Int}, (∀ x ∈ l, x ≤ m) → sumL l ≤ m * l.length
  | [], _ => by simp [sumL]
  | x :: t, h => by
    have := sumL_le (l := t) fun y hy => h y (by simp [hy])
    have := h x (by simp)
    simp only [sumL, List.length_cons]
    rw [Int.natCast_add, Int.mul_add]
    simp; omega
theorem sumL_elem : ∀ {l : List Int}, (∀ x ∈ l, 0 ≤ x) → ∀ {x : Int}, x ∈ l → x ≤ sumL l
  | y :: t, h, x, hx => by
    have h1 := sumL_nonneg (l := t) fun y hy => h y (by simp [hy])
    have h2 := h y (by simp)
    simp only [sumL]
    rcases List.mem_cons.1 hx with rfl | hx
    · omega
    · have := sumL_elem (l := t) (fun y hy => h y (by simp [hy])) hx
      omega
theorem sumL_take_le {l : List Int} (h : ∀ x ∈ l, 0 ≤ x) (k : Nat) : sumL (l.take k) ≤ sumL l ∧ 0 ≤ sumL (l.take k) := by
  have e : sumL l = sumL (l.take k) + sumL (l.drop k) := by rw [← sumL_append, List.take_append_drop]
  have h1 := sumL_nonneg (l := l.take k) fun x hx => h x (List.mem_of_mem_take hx)
  have h2 := sumL_nonneg (l := l.drop k) fun x hx => h x (List.mem_of_mem_drop hx)
  omega
end Go.Rex

open Go Go.Rex
namespace Go.Rex
set_option maxRecDepth 100000
theorem within_eq (a b c : Int) : base_Within a b c = some (decide (b ≤ a ∧ a ≤ c)) := by
  unfold base_Within
  by_cases h1 : b ≤ a <;> by_cases h2 : a ≤ c <;> simp [h1, h2]
theorem eRefuse (b : Bool) (e : Int) : energy_refuse_c1_11f9 b e = some (if b = true then e else 0) := by
  unfold energy_refuse_c1_11f9; cases b <;> rfl
theorem eWithin (n a b : Int) : energy_within n a b = some (decide (n < a ∨ n > b), 2) := by
  unfold energy_within energy_refuse
  by_cases h : n < a
  · simp [h]
  · simp [h]
theorem copyInts {l : List Int} (h : l.length ≤ 1048576) : base_CopyInts l = some l := by
  unfold base_CopyInts
  rw [copyI' h]
  rfl
theorem app1 {α : Type} {xs : List α} {y : α} (h : xs.length < 2 ^ 30) : appI 24 xs [y] = some (xs ++ [y]) := appI_one (by omega) (by omega)
theorem copyLists {l : List (List Int)} (h : l.length ≤ 16) (h2 : ∀ r ∈ l, r.length ≤ 16) : base_CopyLists l = some l := by
  unfold base_CopyLists
  have := (run_iter (step := base_CopyLists_l1 l) (fun k (b : List (List Int)) => (b, (k : Int))) (fun k b => l.take (k + 1)) id l.length (fun k b => b = l.take k) (b0 := []) (by simp) (fun k b hk hI => by
    subst hI
    refine ⟨?_, rfl⟩
    unfold base_CopyLists_l1
    simp only
    have hm : l[k] ∈ l := List.getElem_mem hk
    rw [if_pos (by simp only [decide_eq_true_eq]; omega), getI_lt' hk, Option.bind_some, copyInts (by have := h2 _ hm; omega), Option.bind_some, app1 (by rw [List.length_take]; omega), Option.bind_some, wsucc (n := l.length) (by omega) (by omega)]
    have e : l.take (k + 1) = l.take k ++ [l[k]] := by rw [List.take_add_one, List.getElem?_eq_getElem hk]; rfl
    rw [e]) (fun b hI => by
    subst hI
    unfold base_CopyLists_l1
    simp only
    rw [if_neg (by simp)]
    rfl))
  obtain ⟨h1, h3⟩ := this
  rw [show ((([] : List (List Int)), (0 : Int)) = (([] : List (List Int)), ((0 : Nat) : Int))) from rfl, h1, h3 l.length (Nat.le_refl _), Option.bind_some]
  simp
/-- the patches of an exchange that the statements speak of -/
def FewP (x : List (List Int)) (lo e : List Int) : Prop := x.length ≤ 14 ∧ (∀ r ∈ x, r.length ≤ 16) ∧ lo.length ≤ 16 ∧ e.length ≤ 16
theorem patches_run {x : List (List Int)} (hx : x.length ≤ 14) {step : Int → Option (Int ⊕ (Unit ⊕ Unit))} (hs : step = law03_patches_l1 x ∨ step = law03_patches_l2 x) : ∃ b : Bool, run step 0 = some (if b = true then .inr () else .inl ()) ∧ (b = true → ∀ r ∈ x, r.length ≤ 16) := by
  have := run_find (step := step) (n := x.length) (p := fun k => if (x.getD k []).length > 16 then some () else none) (r := ()) (fun k hk _ => by
    have e : x.getD k [] = x[k] := by simp [List.getD_eq_getElem?_getD, List.getElem?_eq_getElem hk]
    rw [e]
    rcases hs with rfl | rfl
    · unfold law03_patches_l1
      rw [if_pos (by simp only [decide_eq_true_eq]; omega), getI_lt' hk, Option.bind_some, wsucc (n := x.length) (by omega) (by omega)]
      by_cases c : x[k].length > 16
      · rw [if_pos (by simp only [decide_eq_true_eq]; omega), if_pos c]
      · rw [if_neg (by simp only [decide_eq_true_eq]; omega), if_neg c]
    · unfold law03_patches_l2
      rw [if_pos (by simp only [decide_eq_true_eq]; omega), getI_lt' hk, Option.bind_some, wsucc (n := x.length) (by omega) (by omega)]
      by_cases c : x[k].length > 16
      · rw [if_pos (by simp only [decide_eq_true_eq]; omega), if_pos c]
      · rw [if_neg (by simp only [decide_eq_true_eq]; omega), if_neg c]) (fun _ => by
    rcases hs with rfl | rfl
    · unfold law03_patches_l1; rw [if_neg (by simp)]
    · unfold law03_patches_l2; rw [if_neg (by simp)])
  cases hf : firstOf (fun k => if (x.getD k []).length > 16 then some () else none) x.length with
  | some e => rw [hf] at this; exact ⟨false, this, fun h => by cases h⟩
  | none =>
    rw [hf] at this
    refine ⟨true, this, fun _ r hr => ?_⟩
    obtain ⟨k, hk, rfl⟩ := List.getElem_of_mem hr
    have h0 := firstOf_none.1 hf k hk
    have e : x.getD k [] = x[k] := by simp [List.getD_eq_getElem?_getD, List.getElem?_eq_getElem hk]
    rw [e] at h0
    by_cases c : x[k].length > 16
    · rw [if_pos c] at h0; cases h0
    · omega
theorem patches_eq (x : List (List Int)) (lo e : List Int) : ∃ b : Bool, law03_patches x lo e = some b ∧ (b = true → FewP x lo e) := by
  have no : ∃ b : Bool, some false = some b ∧ (b = true → FewP x lo e) := ⟨false, rfl, fun h => by cases h⟩
  have fin : x.length ≤ 14 → lo.length ≤ 16 → e.length ≤ 16 → ∀ step, (step = law03_patches_l1 x ∨ step = law03_patches_l2 x) → ∃ b : Bool, ((run step 0).bind fun v => match v with | (.inl _) => some false | (.inr _) => some true) = some b ∧ (b = true → FewP x lo e) := by
    intro h1 h2 h3 step hs
    obtain ⟨b, hb, hb2⟩ := patches_run h1 hs
    rw [hb, Option.bind_some]
    cases b with
    | true => exact ⟨true, rfl, fun _ => ⟨h1, hb2 rfl, h2, h3⟩⟩
    | false => exact ⟨false, rfl, fun h => by cases h⟩
  unfold law03_patches
  by_cases c1 : (x.length : Int) > 5
  · rw [if_pos (by simpa using c1)]
    by_cases c2 : (x.length : Int) ≤ 12
    · rw [if_pos (by simpa using c2)]; exact no
    rw [if_neg (by simpa using c2)]
    by_cases c3 : (x.length : Int) > 14
    · rw [if_pos (by simpa using c3)]; exact no
    rw [if_neg (by simpa using c3)]
    by_cases c4 : (lo.length : Int) > 16
    · rw [if_pos (by simpa using c4)]; exact no
    rw [if_neg (by simpa using c4)]
    by_cases c5 : (e.length : Int) > 16
    · rw [if_pos (by simpa using c5)]; exact no
    rw [if_neg (by simpa using c5)]
    exact fin (by omega) (by omega) (by omega) _ (.inl rfl)
  · rw [if_neg (by simpa using c1)]
    by_cases c3 : (x.length : Int) > 14
    · rw [if_pos (by simpa using c3)]; exact no
    rw [if_neg (by simpa using c3)]
    by_cases c4 : (lo.length : Int) > 16
    · rw [if_pos (by simpa using c4)]; exact no
    rw [if_neg (by simpa using c4)]
    by_cases c5 : (e.length : Int) > 16
    · rw [if_pos (by simpa using c5)]; exact no
    rw [if_neg (by simpa using c5)]
    exact fin (by omega) (by omega) (by omega) _ (.inr rfl)
theorem copyExchange {x : List (List Int)} {lo e : List Int} (h : FewP x lo e) : ref03_CopyExchange x lo = some (x, lo) := by
  unfold ref03_CopyExchange
  rw [copyLists (by have := h.1; omega) h.2.1, Option.bind_some, copyInts (by have := h.2.2.1; omega)]
  rfl
/-! ### which exchanges are right -/
def okL (l : List Int) (a b : Int) : Prop := ∀ k (h : k < l.length), a ≤ l[k] ∧ l[k] ≤ b
def outK (l : List Int) (a b : Int) (k : Nat) : Option Unit := if a ≤ l.getD k 0 ∧ l.getD k 0 ≤ b then none else some ()
theorem getD_lt {l : List Int} {k : Nat} (h : k < l.length) : l.getD k 0 = l[k] := by simp [List.getD_eq_getElem?_getD, List.getElem?_eq_getElem h]
def outL (l : List Int) (a b : Int) : Option Unit := firstOf (outK l a b) l.length
theorem outL_none {l : List Int} {a b : Int} : outL l a b = none ↔ ∀ x ∈ l, a ≤ x ∧ x ≤ b := by
  unfold outL
  rw [firstOf_none]
  constructor
  · intro h x hx
    obtain ⟨k, hk, rfl⟩ := List.getElem_of_mem hx
    have := h k hk
    unfold outK at this
    rw [getD_lt hk] at this
    by_cases c : a ≤ l[k] ∧ l[k] ≤ b
    · exact c
    · rw [if_neg c] at this; cases this
  · intro h k hk
    unfold outK
    rw [getD_lt hk, if_pos (h _ (List.getElem_mem hk))]
/-- the error of a row -/
def rowErr (n : Nat) (r : List Int) (lo : Int) : Int := if r.length ≠ n then 10 else if outL r 0 1000 ≠ none then 2 else if sumL r ≠ 1000 then 21 else if 0 ≤ lo ∧ lo ≤ 1000 then 0 else 2
def chk (x : List (List Int)) (lo : List Int) : Int × Int := if x.length = 0 then (0, 10) else if x.length > 12 then (0, 8) else if lo.length ≠ x.length then (0, 10) else
  match firstOf (fun k => if rowErr x.length (x.getD k []) (lo.getD k 0) ≠ 0 then some ((k : Int), rowErr x.length (x.getD k []) (lo.getD k 0)) else none) x.length with
  | some e => e
  | none => (0, 0)
theorem allWithin_eq {l : List Int} (hl : l.length ≤ 1048576) (a b : Int) (hab : a ≤ b) : energy_allWithin l a b = some (if outL l a b = none then 0 else 2) := by
  unfold energy_allWithin energy_firstWrong_b2dc
  have h1 : ∀ k, k < l.length → energy_allWithin_c1_ea58 (k : Int) l a b = some (match outK l a b k with | none => 0 | some _ => 2) := fun k hk => by
    unfold energy_allWithin_c1_ea58 outK
    rw [getI_lt' hk, Option.bind_some, eWithin, Option.bind_some]
    simp only
    rw [eRefuse, Option.bind_some, getD_lt hk]
    by_cases c : a ≤ l[k] ∧ l[k] ≤ b
    · rw [if_pos c, if_neg (by simp only [decide_eq_true_eq]; omega)]
    · rw [if_neg c, if_pos (by simp only [decide_eq_true_eq]; omega)]
  have := run_find (step := energy_firstWrong_b2dc_l1 (l.length : Int) l a b) (n := l.length) (p := fun k => (outK l a b k).map fun _ => ((k : Int), 2)) (r := ()) (fun k hk _ => by
    unfold energy_firstWrong_b2dc_l1
    rw [if_pos (by simp only [decide_eq_true_eq]; omega), h1 k hk, Option.bind_some, wsucc (n := l.length) (by omega) (by omega)]
    cases outK l a b k <;> rfl) (fun _ => by
    unfold energy_firstWrong_b2dc_l1
    rw [if_neg (by simp)])
  rw [this, Option.bind_some]
  have e : firstOf (fun k => (outK l a b k).map fun _ => ((k : Int), (2 : Int))) l.length = none ↔ outL l a b = none := by
    unfold outL
    rw [firstOf_none, firstOf_none]
    simp
  cases hf : firstOf (fun k => (outK l a b k).map fun _ => ((k : Int), (2 : Int))) l.length with
  | none =>
    rw [if_pos (e.1 hf)]
    rfl
  | some v =>
    have hv : v.2 = 2 := by
      unfold firstOf at hf
      obtain ⟨k, _, hk⟩ := List.exists_of_findSome?_eq_some hf
      cases ho : outK l a b k with
      | none => simp [ho] at hk
      | some u => simp [ho] at hk; rw [← hk]
    rw [if_neg (fun c => by rw [e.2 c] at hf; cases hf)]
    obtain ⟨v1, v2⟩ := v
    subst hv
    rfl
theorem sumOf_eq {l : List Int} (hl : l.length ≤ 1048576) (h : ∀ x ∈ l, 0 ≤ x ∧ x ≤ 20000000000000) (hs : l.length ≤ 100000) : energy_sumOf l = some (sumL l) := by
  unfold energy_sumOf
  have h0 : ∀ k, k ≤ l.length → 0 ≤ sumL (l.take k) ∧ sumL (l.take k) ≤ 20000000000000 * 100000 := fun k hk => by
    have a := sumL_nonneg (l := l.take k) fun x hx => (h x (List.mem_of_mem_take hx)).1
    have b := sumL_le (m := 20000000000000) (l := l.take k) fun x hx => (h x (List.mem_of_mem_take hx)).2
    rw [List.length_take] at b
    omega
  have := (run_iter (step := energy_sumOf_l1 l) (fun k (b : Int) => (b, (k : Int))) (fun k b => sumL (l.take (k + 1))) id l.length (fun k b => b = sumL (l.take k)) (b0 := 0) rfl (fun k b hk hI => by
    subst hI
    refine ⟨?_, rfl⟩
    unfold energy_sumOf_l1
    simp only
    have e := sumL_take_succ hk
    have := h0 (k + 1) (by omega)
    rw [if_pos (by simp only [decide_eq_true_eq]; omega), getI_lt' hk, Option.bind_some, wsucc (n := l.length) (by omega) (by omega), w64 (by omega), e]) (fun b hI => by
    unfold energy_sumOf_l1
    simp only
    rw [if_neg (by simp)]
    rfl))
  obtain ⟨h1, h2⟩ := this
  rw [show (((0 : Int), (0 : Int)) = ((0 : Int), ((0 : Nat) : Int))) from rfl, h1, h2 l.length (Nat.le_refl _)]
  simp
theorem sumOf_any {l : List Int} (hl : l.length ≤ 1048576) : ∃ s, energy_sumOf l = some s := by
  unfold energy_sumOf
  have := (run_iter (step := energy_sumOf_l1 l) (fun k (b : Int) => (b, (k : Int))) (fun k b => IntKind.i64.wrap (b + l.getD k 0)) id l.length (fun k b => True) (b0 := 0) trivial (fun k b hk hI => by
    refine ⟨?_, trivial⟩
    unfold energy_sumOf_l1
    simp only
    rw [if_pos (by simp only [decide_eq_true_eq]; omega), getI_lt' hk, Option.bind_some, wsucc (n := l.length) (by omega) (by omega), getD_lt hk]) (fun b hI => by
    unfold energy_sumOf_l1
    simp only
    rw [if_neg (by simp)]
    rfl)).1
  rw [show (((0 : Int), (0 : Int)) = ((0 : Int), ((0 : Nat) : Int))) from rfl, this]
  exact ⟨_, rfl⟩
theorem rowP {x : List (List Int)} {lo : List Int} (h2 : ∀ r ∈ x, r.length ≤ 16) {k : Nat} (hk : k < x.length) (hl : lo.length = x.length) : energy_CheckExchange_c1_c586 (k : Int) x lo (x.length : Int) = some (rowErr x.length (x.getD k []) (lo.getD k 0)) := by
  have hm := h2 _ (List.getElem_mem hk)
  have e : x.getD k [] = x[k] := by simp [List.getD_eq_getElem?_getD, List.getElem?_eq_getElem hk]
  rw [e, getD_lt (show k < lo.length by omega)]
  generalize x[k] = r at hm e ⊢
  have hk' : k < lo.length := by omega
  unfold energy_CheckExchange_c1_c586
  rw [getI_nat, show x[k]? = some r by rw [List.getElem?_eq_getElem hk]; congr 1; rw [← e]; simp [List.getD_eq_getElem?_getD, List.getElem?_eq_getElem hk], Option.bind_some]
  obtain ⟨s, hs⟩ := sumOf_any (l := r) (by omega)
  rw [show ∀ (b : Bool) (e : Int), energy_refuse b e = some (b, e) from fun _ _ => rfl, Option.bind_some]
  simp only
  rw [allWithin_eq (by omega) 0 1000 (by omega), Option.bind_some, hs, Option.bind_some, show ∀ (b : Bool) (e : Int), energy_refuse b e = some (b, e) from fun _ _ => rfl, Option.bind_some]
  simp only
  rw [getI_lt' hk', Option.bind_some, eWithin, Option.bind_some]
  simp only
  unfold energy_firstError_2863 energy_unnumbered_c1_662c rowErr
  simp only [eRefuse, Option.bind_some]
  by_cases c1 : r.length ≠ x.length
  · have : (r.length : Int) ≠ (x.length : Int) := by omega
    simp [c1, this]
  · have c1' : ¬ ((r.length : Int) ≠ (x.length : Int)) := by omega
    rw [if_neg c1]
    by_cases c2 : outL r 0 1000 = none
    · have hw := outL_none.1 c2
      have hs2 := sumOf_eq (l := r) (by omega) (fun y hy => by have := hw y hy; omega) (by omega)
      rw [hs2] at hs
      obtain rfl : sumL r = s := by cases hs; rfl
      by_cases c3 : sumL r = 1000
      · by_cases c4 : 0 ≤ lo[k] ∧ lo[k] ≤ 1000
        · have : ¬ (lo[k] < 0 ∨ lo[k] > 1000) := by omega
          simp [c1', c2, c3, c4, this]
        · have : lo[k] < 0 ∨ lo[k] > 1000 := by omega
          simp [c1', c2, c3, c4, this]
      · simp [c1', c2, c3]
    · simp [c1', c2]
theorem chkP {x : List (List Int)} {lo e : List Int} (h : FewP x lo e) : energy_CheckExchange x lo = some (chk x lo) := by
  unfold energy_CheckExchange chk
  have hn := h.1
  rw [show ∀ (b : Bool) (e : Int), energy_refuse b e = some (b, e) from fun _ _ => rfl, Option.bind_some]
  simp only
  rw [show ∀ (b : Bool) (e : Int), energy_refuse b e = some (b, e) from fun _ _ => rfl, Option.bind_some]
  simp only
  rw [show ∀ (b : Bool) (e : Int), energy_refuse b e = some (b, e) from fun _ _ => rfl, Option.bind_some]
  simp only
  unfold energy_firstError_b825
  simp only [eRefuse, Option.bind_some]
  by_cases c1 : x.length = 0
  · have : (x.length : Int) = 0 := by omega
    simp [c1]
  by_cases c2 : x.length > 12
  · have : (x.length : Int) > 12 := by omega
    have c1' : ¬ (x.length : Int) = 0 := by omega
    simp [c1, c2, this, c1']
  by_cases c3 : lo.length ≠ x.length
  · have d1 : ¬ (x.length : Int) > 12 := by omega
    have d2 : ¬ (x.length : Int) = 0 := by omega
    have d3 : (lo.length : Int) ≠ (x.length : Int) := by omega
    simp [c1, c2, c3, d1, d2, d3]
  have d1 : ¬ (x.length : Int) > 12 := by omega
  have d2 : ¬ (x.length : Int) = 0 := by omega
  have d3 : ¬ (lo.length : Int) ≠ (x.length : Int) := by omega
  rw [if_neg c1, if_neg c2, if_neg c3]
  simp only [d1, d2, d3, decide_false, Bool.false_eq_true, if_false, decide_true, ne_eq, not_true, Option.bind_some]
  unfold energy_firstWrong_eb6f
  have := run_find (step := energy_firstWrong_eb6f_l1 (x.length : Int) x lo (x.length : Int)) (n := x.length) (p := fun k => if rowErr x.length (x.getD k []) (lo.getD k 0) ≠ 0 then some ((k : Int), rowErr x.length (x.getD k []) (lo.getD k 0)) else none) (r := ()) (fun k hk _ => by
    unfold energy_firstWrong_eb6f_l1
    rw [if_pos (by simp only [decide_eq_true_eq]; omega), rowP h.2.1 hk (by omega), Option.bind_some, wsucc (n := x.length) (by omega) (by omega)]
    generalize rowErr x.length (x.getD k []) (lo.getD k 0) = re
    by_cases c : re = 0 <;> simp [c]) (fun _ => by
    unfold energy_firstWrong_eb6f_l1
    rw [if_neg (by simp)])
  rw [this, Option.bind_some]
  cases firstOf (fun k => if rowErr x.length (x.getD k []) (lo.getD k 0) ≠ 0 then some ((k : Int), rowErr x.length (x.getD k []) (lo.getD k 0)) else none) x.length with
  | none => rfl
  | some e => rfl
theorem exchangedP {x : List (List Int)} {lo e : List Int} (h : FewP x lo e) : energy_exchanged x lo = some (chk x lo).2 := by
  unfold energy_exchanged
  rw [chkP h, Option.bind_some]
  rfl
end Go.Rex

open Go Go.Rex
namespace Go.Rex
set_option maxRecDepth 100000
theorem outK_take {l : List Int} {a b : Int} {k : Nat} (h : ∀ j, j < k → outK l a b j = none) (hk : k ≤ l.length) : ∀ x ∈ l.take k, a ≤ x ∧ x ≤ b := by
  intro x hx
  obtain ⟨j, hj, rfl⟩ := List.getElem_of_mem hx
  rw [List.length_take] at hj
  have := h j (by omega)
  unfold outK at this
  rw [getD_lt (by omega)] at this
  rw [List.getElem_take]
  by_cases c : a ≤ l[j] ∧ l[j] ≤ b
  · exact c
  · rw [if_neg c] at this; cases this
theorem rowSum {r : List Int} {x : List (List Int)} (hr : r.length = x.length) (hx : x.length ≤ 14) : run (ref03_CheckExchange_l2 x r) (0, 0) = some (match outL r 0 1000 with | some _ => .inl () | none => .inr (sumL r)) := by
  suffices H : ∀ k, k ≤ x.length → (∀ j, j < k → outK r 0 1000 j = none) → run (ref03_CheckExchange_l2 x r) (0, 0) = run (ref03_CheckExchange_l2 x r) (sumL (r.take k), (k : Int)) by
    cases hf : outL r 0 1000 with
    | none =>
      rw [H x.length (Nat.le_refl _) (fun j hj => firstOf_none.1 hf j (by omega))]
      refine run_stop ?_
      unfold ref03_CheckExchange_l2
      simp only
      rw [if_neg (by simp), ← hr, List.take_length]
    | some u =>
      have : ∃ m, m < r.length ∧ (∀ j, j < m → outK r 0 1000 j = none) ∧ outK r 0 1000 m = some u := by
        unfold outL at hf
        revert hf
        generalize r.length = n
        induction n with
        | zero => intro hf; simp [firstOf] at hf
        | succ n ih =>
          intro hf
          rw [firstOf_succ] at hf
          cases hn : firstOf (outK r 0 1000) n with
          | none => rw [hn] at hf; exact ⟨n, by omega, firstOf_none.1 hn, hf⟩
          | some e' => rw [hn] at hf; cases hf; obtain ⟨m, h1, h2⟩ := ih hn; exact ⟨m, by omega, h2⟩
      obtain ⟨m, hm, h1, h2⟩ := this
      rw [H m (by omega) h1]
      refine run_stop ?_
      unfold ref03_CheckExchange_l2
      simp only
      rw [if_pos (by simp only [decide_eq_true_eq]; omega), getI_lt' hm, Option.bind_some, within_eq, Option.bind_some]
      unfold outK at h2
      rw [getD_lt hm] at h2
      by_cases c : 0 ≤ r[m] ∧ r[m] ≤ 1000
      · rw [if_pos c] at h2; cases h2
      · rw [if_neg (by simpa using c)]
  intro k
  induction k with
  | zero => intro _ _; rfl
  | succ k ih =>
    intro hk hn
    rw [ih (by omega) (fun j hj => hn j (by omega))]
    have hk' : k < r.length := by omega
    have ht := outK_take hn (by omega)
    have b1 := sumL_nonneg (l := r.take (k + 1)) fun y hy => (ht y hy).1
    have b2 := sumL_le (m := 1000) (l := r.take (k + 1)) fun y hy => (ht y hy).2
    rw [List.length_take] at b2
    have e := sumL_take_succ hk'
    refine run_next ?_
    unfold ref03_CheckExchange_l2
    simp only
    have hw : 0 ≤ r[k] ∧ r[k] ≤ 1000 := by
      have := hn k (by omega)
      unfold outK at this
      rw [getD_lt hk'] at this
      by_cases c : 0 ≤ r[k] ∧ r[k] ≤ 1000
      · exact c
      · rw [if_neg c] at this; cases this
    rw [if_pos (by simp only [decide_eq_true_eq]; omega), getI_lt' hk', Option.bind_some, within_eq, Option.bind_some, if_pos (by simpa using hw), w64 (by omega), wsucc (n := x.length) (by omega) (by omega), e]
theorem chkR {x : List (List Int)} {lo e : List Int} (h : FewP x lo e) : ref03_CheckExchange x lo = some (chk x lo) := by
  unfold ref03_CheckExchange chk
  have hn := h.1
  by_cases c1 : x.length = 0
  · have : (x.length : Int) = 0 := by omega
    rw [if_pos (by simpa using c1), if_pos c1]
  rw [if_neg (by simpa using c1), if_neg c1]
  by_cases c2 : x.length > 12
  · rw [if_pos (by simp only [decide_eq_true_eq]; omega), if_pos c2]
  rw [if_neg (by simp only [decide_eq_true_eq]; omega), if_neg c2]
  by_cases c3 : lo.length ≠ x.length
  · rw [if_pos (by simp only [decide_eq_true_eq]; omega), if_pos c3]
  rw [if_neg (by simp only [decide_eq_true_eq]; omega), if_neg c3]
  have := run_find (step := ref03_CheckExchange_l1 x lo) (n := x.length) (p := fun k => if rowErr x.length (x.getD k []) (lo.getD k 0) ≠ 0 then some ((k : Int), rowErr x.length (x.getD k []) (lo.getD k 0)) else none) (r := ()) (fun k hk _ => by
    have e : x.getD k [] = x[k] := by simp [List.getD_eq_getElem?_getD, List.getElem?_eq_getElem hk]
    have hk' : k < lo.length := by omega
    rw [getD_lt hk', e]
    unfold ref03_CheckExchange_l1
    rw [if_pos (by simp only [decide_eq_true_eq]; omega), getI_lt' hk, Option.bind_some, wsucc (n := x.length) (by omega) (by omega)]
    generalize x[k] = r
    unfold rowErr
    by_cases d1 : r.length ≠ x.length
    · rw [if_pos (by simp only [decide_eq_true_eq]; omega), if_pos d1]; rfl
    rw [if_neg (by simp only [decide_eq_true_eq]; omega), if_neg d1, rowSum (by omega) hn, Option.bind_some]
    cases d2 : outL r 0 1000 with
    | some u => rw [if_pos (by simp)]; rfl
    | none =>
      simp only
      rw [if_neg (show ¬ (none : Option Unit) ≠ none by simp)]
      by_cases d3 : sumL r ≠ 1000
      · rw [if_pos (by simpa using d3), if_pos d3]; rfl
      rw [if_neg (by simpa using d3), if_neg d3, getI_lt' hk', Option.bind_some, within_eq, Option.bind_some]
      by_cases d4 : 0 ≤ lo[k] ∧ lo[k] ≤ 1000
      · rw [if_pos (by simpa using d4), if_pos d4]; rfl
      · rw [if_neg (by simpa using d4), if_neg d4]; rfl) (fun _ => by
    unfold ref03_CheckExchange_l1
    rw [if_neg (by simp)])
  rw [this, Option.bind_some]
  cases firstOf (fun k => if rowErr x.length (x.getD k []) (lo.getD k 0) ≠ 0 then some ((k : Int), rowErr x.length (x.getD k []) (lo.getD k 0)) else none) x.length with
  | none => rfl
  | some e => rfl
/-- what a right exchange is -/
structure RightX (x : List (List Int)) (lo : List Int) : Prop where
  pos : 1 ≤ x.length
  len : x.length ≤ 12
  los : lo.length = x.length
  row : ∀ k (h : k < x.length), x[k].length = x.length ∧ (∀ y ∈ x[k], 0 ≤ y ∧ y ≤ 1000) ∧ sumL x[k] = 1000
  lost : ∀ y ∈ lo, 0 ≤ y ∧ y ≤ 1000
theorem chk_right {x : List (List Int)} {lo : List Int} (h : (chk x lo).2 = 0) : RightX x lo := by
  unfold chk at h
  by_cases c1 : x.length = 0
  · rw [if_pos c1] at h; cases h
  rw [if_neg c1] at h
  by_cases c2 : x.length > 12
  · rw [if_pos c2] at h; cases h
  rw [if_neg c2] at h
  by_cases c3 : lo.length ≠ x.length
  · rw [if_pos c3] at h; cases h
  rw [if_neg c3] at h
  have hf : firstOf (fun k => if rowErr x.length (x.getD k []) (lo.getD k 0) ≠ 0 then some ((k : Int), rowErr x.length (x.getD k []) (lo.getD k 0)) else none) x.length = none := by
    cases hf : firstOf (fun k => if rowErr x.length (x.getD k []) (lo.getD k 0) ≠ 0 then some ((k : Int), rowErr x.length (x.getD k []) (lo.getD k 0)) else none) x.length with
    | none => rfl
    | some v =>
      rw [hf] at h
      unfold firstOf at hf
      obtain ⟨k, _, hk⟩ := List.exists_of_findSome?_eq_some hf
      by_cases c : rowErr x.length (x.getD k []) (lo.getD k 0) ≠ 0
      · rw [if_pos c] at hk
        cases hk
        exact absurd h c
      · rw [if_neg c] at hk; cases hk
  have hr : ∀ k (hk : k < x.length), rowErr x.length x[k] (lo.getD k 0) = 0 := fun k hk => by
    have := firstOf_none.1 hf k hk
    have e : x.getD k [] = x[k] := by simp [List.getD_eq_getElem?_getD, List.getElem?_eq_getElem hk]
    rw [e] at this
    by_cases c : rowErr x.length x[k] (lo.getD k 0) ≠ 0
    · rw [if_pos c] at this; cases this
    · simpa using c
  have hrow : ∀ k (hk : k < x.length), x[k].length = x.length ∧ (∀ y ∈ x[k], 0 ≤ y ∧ y ≤ 1000) ∧ sumL x[k] = 1000 ∧ 0 ≤ lo.getD k 0 ∧ lo.getD k 0 ≤ 1000 := fun k hk => by
    have := hr k hk
    unfold rowErr at this
    by_cases d1 : x[k].length ≠ x.length
    · rw [if_pos d1] at this; cases this
    rw [if_neg d1] at this
    by_cases d2 : outL x[k] 0 1000 ≠ none
    · rw [if_pos d2] at this; cases this
    rw [if_neg d2] at this
    by_cases d3 : sumL x[k] ≠ 1000
    · rw [if_pos d3] at this; cases this
    rw [if_neg d3] at this
    by_cases d4 : 0 ≤ lo.getD k 0 ∧ lo.getD k 0 ≤ 1000
    · exact ⟨by simpa using d1, outL_none.1 (by simpa using d2), by simpa using d3, d4⟩
    · rw [if_neg d4] at this; cases this
  exact ⟨by omega, by omega, by omega, fun k hk => ⟨(hrow k hk).1, (hrow k hk).2.1, (hrow k hk).2.2.1⟩, fun y hy => by
    obtain ⟨k, hk, rfl⟩ := List.getElem_of_mem hy
    have := (hrow k (by omega)).2.2.2
    rwa [getD_lt hk] at this⟩
end Go.Rex

open Go Go.Rex
namespace Go.Rex
set_option maxRecDepth 100000
/-! ### the first greatest one -/
def FirstMax (l : List Int) (m : Nat) : Prop := ∃ h : m < l.length, (∀ k (h' : k < l.length), l[k] ≤ l[m]) ∧ ∀ k (h' : k < m), l[k] < l[m]
theorem FirstMax.unique {l : List Int} {a b : Nat} (ha : FirstMax l a) (hb : FirstMax l b) : a = b := by
  obtain ⟨h1, h2, h3⟩ := ha
  obtain ⟨g1, g2, g3⟩ := hb
  rcases Nat.lt_trichotomy a b with h | h | h
  · have := g3 a h; have := h2 b g1; omega
  · exact h
  · have := h3 b h; have := g2 a h1; omega
theorem maxP {l : List Int} (h0 : 0 < l.length) (hl : l.length ≤ 1048576) : ∃ m, slices_Max_int_int l = some m ∧ m ∈ l ∧ ∀ x ∈ l, x ≤ m := by
  unfold slices_Max_int_int
  rw [if_neg (by simp only [decide_eq_true_eq]; omega), show getI l 0 = some l[0] from getI_lt' h0, Option.bind_some]
  have := run_iter (step := slices_Max_int_int_l1 l) (fun k (b : Int) => (b, ((k + 1 : Nat) : Int))) (fun k b => if l.getD (k + 1) 0 > b then l.getD (k + 1) 0 else b) id (l.length - 1) (fun k b => b ∈ l ∧ ∀ j (hj : j < l.length), j ≤ k → l[j] ≤ b) (b0 := l[0]) ⟨List.getElem_mem h0, fun j hj h => by have hz : j = 0 := (by omega); subst hz; exact Int.le_refl _⟩ (fun k b hk hI => by
    have hk' : k + 1 < l.length := by omega
    refine ⟨?_, ?_⟩
    · unfold slices_Max_int_int_l1
      simp only
      rw [if_pos (by simp only [decide_eq_true_eq]; omega), getI_lt' hk', Option.bind_some, wsucc (n := l.length) (by omega) (by omega), getD_lt hk']
    · rw [getD_lt hk']
      refine ⟨?_, fun j hj h => ?_⟩
      · split
        · exact List.getElem_mem hk'
        · exact hI.1
      · by_cases e : j = k + 1
        · subst e
          split
          · exact Int.le_refl _
          · omega
        · have := hI.2 j hj (by omega)
          split <;> omega) (fun b hI => by
    unfold slices_Max_int_int_l1
    simp only
    rw [if_neg (by simp only [decide_eq_true_eq]; omega)]
    rfl)
  obtain ⟨h1, h2⟩ := this
  have h3 := h2 _ (Nat.le_refl _)
  rw [show ((l[0], (1 : Int)) = (l[0], ((0 + 1 : Nat) : Int))) from rfl, h1, Option.bind_some]
  refine ⟨_, rfl, h3.1, fun x hx => ?_⟩
  obtain ⟨j, hj, rfl⟩ := List.getElem_of_mem hx
  exact h3.2 j hj (by omega)
theorem indexP {l : List Int} {m : Int} (hl : l.length ≤ 1048576) (hm : m ∈ l) (hx : ∀ x ∈ l, x ≤ m) : ∃ i : Nat, slices_Index_int_int l m = some (i : Int) ∧ FirstMax l i := by
  unfold slices_Index_int_int
  have := run_find (step := slices_Index_int_int_l1 l m) (n := l.length) (p := fun k => if m = l.getD k 0 then some (k : Int) else none) (r := ()) (fun k hk _ => by
    unfold slices_Index_int_int_l1
    rw [if_pos (by simp only [decide_eq_true_eq]; omega), getI_lt' hk, Option.bind_some, wsucc (n := l.length) (by omega) (by omega), getD_lt hk]
    by_cases c : m = l[k]
    · rw [if_pos (by simpa using c), if_pos c]
    · rw [if_neg (by simpa using c), if_neg c]) (fun _ => by
    unfold slices_Index_int_int_l1
    rw [if_neg (by simp)])
  rw [this, Option.bind_some]
  obtain ⟨q, hq, rfl⟩ := List.getElem_of_mem hm
  have : ∀ n, n ≤ l.length → (∃ i : Nat, firstOf (fun k => if l[q] = l.getD k 0 then some (k : Int) else none) n = some (i : Int) ∧ FirstMax l i) ∨ ∀ k (h : k < n) (h' : k < l.length), l[k] ≠ l[q] := by
    intro n
    induction n with
    | zero => intro _; exact .inr fun k h => by omega
    | succ n ih =>
      intro hn
      rcases ih (by omega) with ⟨i, h1, h2⟩ | h
      · exact .inl ⟨i, by rw [firstOf_succ, h1], h2⟩
      · by_cases c : l[q] = l[n]
        · refine .inl ⟨n, ?_, by omega, fun k hk => ?_, fun k hk => ?_⟩
          · rw [firstOf_succ, firstOf_none.2 (fun k hk => by
              have := h k hk (by omega)
              rw [getD_lt (by omega), if_neg (fun e => this e.symm)])]
            simp only
            rw [getD_lt (by omega), if_pos c]
          · have := hx _ (List.getElem_mem hk); omega
          · have h1 := h k hk (by omega)
            have := hx _ (List.getElem_mem (show k < l.length by omega))
            omega
        · refine .inr fun k hk h' => ?_
          by_cases e : k = n
          · subst e; exact fun h => c h.symm
          · exact h k (by omega) h'
  rcases this l.length (Nat.le_refl _) with ⟨i, h1, h2⟩ | h
  · rw [h1]; exact ⟨i, rfl, h2⟩
  · exact absurd rfl (h q hq hq)
/-! ### one row of a step -/
/-- what a patch gets of an energy by a share -/
def part (e s : Int) : Int := e * s / 1000
def spK (sh : List Int) (e : Int) (k : Nat) (b : List Int × Int) : List Int × Int := (b.1.set k (b.1.getD k 0 + part e (sh.getD k 0)), b.2 - part e (sh.getD k 0))
def spr (to sh : List Int) (e : Int) : List Int × Int := iter (spK sh e) sh.length (to, e)
theorem part_le {e s : Int} (he : 0 ≤ e) (hs : 0 ≤ s ∧ s ≤ 1000) : 0 ≤ part e s ∧ part e s ≤ e ∧ 1000 * part e s ≤ e * s ∧ e * s < 1000 * part e s + 1000 := by
  unfold part
  have h1 : 0 ≤ e * s := Int.mul_nonneg he hs.1
  have h2 : e * s ≤ e * 1000 := Int.mul_le_mul_of_nonneg_left hs.2 he
  omega
theorem tdiv_k {a : Int} (h : 0 ≤ a) (k : Int) : a.tdiv k = a / k := Int.tdiv_eq_ediv_of_nonneg h
/-- what holds while a row is spread -/
structure SpI (to sh : List Int) (e : Int) (k : Nat) (b : List Int × Int) : Prop where
  len : b.1.length = to.length
  sum : sumL b.1 + b.2 = sumL to + e
  at_ : ∀ j, j < to.length → b.1.getD j 0 = if j < k then to.getD j 0 + part e (sh.getD j 0) else to.getD j 0
  left : 1000 * b.2 = 1000 * e - e * sumL (sh.take k) + (1000 * b.2 - (1000 * e - e * sumL (sh.take k))) ∧ 0 ≤ 1000 * b.2 - (1000 * e - e * sumL (sh.take k)) ∧ 1000 * b.2 - (1000 * e - e * sumL (sh.take k)) ≤ 999 * k
theorem getD_set {l : List Int} {k j : Nat} {x : Int} (hk : k < l.length) : (l.set k x).getD j 0 = if j = k then x else l.getD j 0 := by
  simp only [List.getD_eq_getElem?_getD, List.getElem?_set]
  by_cases c : k = j
  · subst c
    simp [hk]
  · rw [if_neg c, if_neg (fun h => c h.symm)]
theorem SpI.next {to sh : List Int} {e : Int} {k : Nat} {b : List Int × Int} (he : 0 ≤ e) (hs : ∀ y ∈ sh, 0 ≤ y ∧ y ≤ 1000) (hl : sh.length = to.length) (hk : k < sh.length) (h : SpI to sh e k b) : SpI to sh e (k + 1) (spK sh e k b) := by
  have hp := part_le he (hs _ (List.getElem_mem hk))
  unfold spK
  rw [getD_lt hk]
  refine ⟨by simp [h.len], ?_, fun j hj => ?_, ?_⟩
  · have := sumL_set (l := b.1) (k := k) (by rw [h.len]; omega) (b.1.getD k 0 + part e sh[k])
    simp only
    rw [this, getD_lt (by rw [h.len]; omega)]
    have := h.sum
    omega
  · simp only
    rw [getD_set (by rw [h.len]; omega)]
    have h1 := h.at_ j hj
    by_cases c : j = k
    · subst c
      rw [if_pos rfl, h1, if_neg (by omega), if_pos (by omega), getD_lt hk]
    · rw [if_neg c, h1]
      by_cases d : j < k
      · rw [if_pos d, if_pos (by omega)]
      · rw [if_neg d, if_neg (by omega)]
  · simp only
    rw [sumL_take_succ hk, Int.mul_add]
    have := h.left
    omega
theorem SpI.all {to sh : List Int} {e : Int} (he : 0 ≤ e) (hs : ∀ y ∈ sh, 0 ≤ y ∧ y ≤ 1000) (hl : sh.length = to.length) : ∀ k, k ≤ sh.length → SpI to sh e k (iter (spK sh e) k (to, e))
  | 0, _ => ⟨rfl, rfl, fun j hj => by rw [if_neg (by omega)]; rfl, by simp [iter, sumL]⟩
  | k + 1, hk => SpI.next he hs hl (by omega) (SpI.all he hs hl k (by omega))
/-- a row that is spread -/
noncomputable def mxI (l : List Int) : Nat := open Classical in if h : ∃ m, FirstMax l m then h.choose else 0
theorem mxI_of {l : List Int} {m : Nat} (h : FirstMax l m) : mxI l = m := by
  unfold mxI
  have h' : ∃ m, FirstMax l m := ⟨m, h⟩
  rw [dif_pos h']
  exact h'.choose_spec.unique h
noncomputable def spread (to sh : List Int) (e : Int) : List Int := (spr to sh e).1.set (mxI sh) ((spr to sh e).1.getD (mxI sh) 0 + (spr to sh e).2)
theorem spread_len {to sh : List Int} {e : Int} (he : 0 ≤ e) (hs : ∀ y ∈ sh, 0 ≤ y ∧ y ≤ 1000) (hl : sh.length = to.length) : (spread to sh e).length = to.length := by
  unfold spread
  rw [List.length_set]
  exact (SpI.all he hs hl _ (Nat.le_refl _)).len
theorem spread_sum {to sh : List Int} {e : Int} (he : 0 ≤ e) (hs : ∀ y ∈ sh, 0 ≤ y ∧ y ≤ 1000) (hl : sh.length = to.length) {m : Nat} (hm : FirstMax sh m) : sumL (spread to sh e) = sumL to + e := by
  have h := SpI.all he hs hl _ (Nat.le_refl _)
  have hm' := hm.1
  unfold spread
  rw [mxI_of hm]
  have hlt : m < (spr to sh e).1.length := by unfold spr; rw [h.len]; omega
  rw [sumL_set hlt, getD_lt hlt]
  have := h.sum
  unfold spr
  omega
theorem spread_at {to sh : List Int} {e : Int} (he : 0 ≤ e) (hs : ∀ y ∈ sh, 0 ≤ y ∧ y ≤ 1000) (hl : sh.length = to.length) (hsum : sumL sh = 1000) {m : Nat} (hm : FirstMax sh m) {j : Nat} (hj : j < to.length) : e * sh.getD j 0 - 999 ≤ 1000 * ((spread to sh e).getD j 0 - to.getD j 0) ∧ 1000 * ((spread to sh e).getD j 0 - to.getD j 0) ≤ e * sh.getD j 0 + 999 * sh.length ∧ to.getD j 0 ≤ (spread to sh e).getD j 0 := by
  have h := SpI.all he hs hl _ (Nat.le_refl _)
  have hm' := hm.1
  have hlt : m < (spr to sh e).1.length := by unfold spr; rw [h.len]; omega
  have hat := h.at_ j hj
  rw [if_pos (by omega)] at hat
  have hleft := h.left
  rw [List.take_length, hsum] at hleft
  have hp := part_le he (hs _ (List.getElem_mem (show j < sh.length by omega)))
  rw [getD_lt (show j < sh.length by omega)] at hat ⊢
  have hle : 0 ≤ (iter (spK sh e) sh.length (to, e)).2 ∧ 1000 * (iter (spK sh e) sh.length (to, e)).2 ≤ 999 * sh.length := by omega
  unfold spread
  rw [mxI_of hm, getD_set hlt]
  unfold spr
  by_cases c : j = m
  · subst c
    rw [if_pos rfl, hat]
    omega
  · rw [if_neg c, hat]
    omega
/-- the program spreads so -/
theorem spreadP {to sh : List Int} {e : Int} (he : 0 ≤ e ∧ e ≤ 1000000000000000) (hs : ∀ y ∈ sh, 0 ≤ y ∧ y ≤ 1000) (hl : sh.length = to.length) (h1 : 1 ≤ sh.length) (h2 : sh.length ≤ 12) (ht : ∀ y ∈ to, 0 ≤ y ∧ y ≤ 1000000000000000) : (∃ m, FirstMax sh m) ∧ energy_spread_9c9e to sh e = some (spread to sh e) := by
  obtain ⟨mx, hm1, hm2, hm3⟩ := maxP (l := sh) (by omega) (by omega)
  obtain ⟨m, hi1, hi2⟩ := indexP (l := sh) (by omega) hm2 hm3
  refine ⟨⟨m, hi2⟩, ?_⟩
  unfold energy_spread_9c9e
  have hto : ∀ j, j < to.length → 0 ≤ to.getD j 0 ∧ to.getD j 0 ≤ 1000000000000000 := fun j hj => by rw [getD_lt hj]; exact ht _ (List.getElem_mem hj)
  have := run_iter (step := energy_spread_9c9e_l1 sh e) (fun k (b : List Int × Int) => (b.1, b.2, (k : Int))) (spK sh e) id sh.length (SpI to sh e) (b0 := (to, e)) (SpI.all he.1 hs hl 0 (by omega)) (fun k b hk hI => by
    refine ⟨?_, hI.next he.1 hs hl hk⟩
    have hp := part_le he.1 (hs _ (List.getElem_mem hk))
    have hw := hs _ (List.getElem_mem hk)
    have m1 : 0 ≤ e * sh[k] := Int.mul_nonneg he.1 hw.1
    have m2 : e * sh[k] ≤ e * 1000 := Int.mul_le_mul_of_nonneg_left hw.2 he.1
    have hat := hI.at_ k (by omega)
    rw [if_neg (by omega)] at hat
    have := hto k (by omega)
    have hlen := hI.len
    have hleft := hI.left
    have hst := sumL_take_le (l := sh) (fun y hy => (hs y hy).1) k
    have hsl := sumL_le (m := 1000) (l := sh.take k) (fun y hy => (hs y (List.mem_of_mem_take hy)).2)
    rw [List.length_take] at hsl
    have p1 : 0 ≤ e * sumL (sh.take k) := Int.mul_nonneg he.1 hst.2
    have p2 : e * sumL (sh.take k) ≤ e * 12000 := Int.mul_le_mul_of_nonneg_left (by omega) he.1
    unfold energy_spread_9c9e_l1
    simp only
    rw [if_pos (by simp only [decide_eq_true_eq]; omega), getI_lt' hk, Option.bind_some, w64 (x := e * sh[k]) (by omega)]
    unfold energy_down
    rw [if_neg (by decide), tdiv_k m1, show e * sh[k] / 1000 = part e sh[k] from rfl, w64 (x := part e sh[k]) (by omega), Option.bind_some, getI_lt' (show k < b.1.length by omega), Option.bind_some, wsucc (n := sh.length) (by omega) (by omega), Int.toNat_natCast]
    rw [getD_lt (show k < b.1.length by omega)] at hat
    rw [w64 (x := b.1[k] + part e sh[k]) (by omega), w64 (x := b.2 - part e sh[k]) (by omega)]
    unfold spK
    rw [getD_lt hk, getD_lt (show k < b.1.length by omega)]) (fun b hI => by
    unfold energy_spread_9c9e_l1
    simp only
    rw [if_neg (by simp)]
    rfl)
  obtain ⟨r1, r2⟩ := this
  have hI := r2 _ (Nat.le_refl _)
  rw [show ((to, e, (0 : Int)) = (to, e, ((0 : Nat) : Int))) from rfl, r1, Option.bind_some]
  simp only [id_eq]
  rw [hm1, Option.bind_some, hi1, Option.bind_some]
  have hlt : m < (iter (spK sh e) sh.length (to, e)).1.length := by rw [hI.len]; have := hi2.1; omega
  rw [getI_lt' hlt, Option.bind_some, Int.toNat_natCast]
  have hat := hI.at_ m (by have := hi2.1; omega)
  have hmm := hi2.1
  rw [if_pos hmm, getD_lt hlt] at hat
  have := hto m (by omega)
  have hp := part_le he.1 (hs _ (List.getElem_mem hmm))
  rw [getD_lt hmm] at hat
  have hleft := hI.left
  rw [List.take_length] at hleft
  have hst := sumL_nonneg (l := sh) (fun y hy => (hs y hy).1)
  have hsl := sumL_le (m := 1000) (l := sh) (fun y hy => (hs y hy).2)
  have p1 : 0 ≤ e * sumL sh := Int.mul_nonneg he.1 hst
  have p2 : e * sumL sh ≤ e * 12000 := Int.mul_le_mul_of_nonneg_left (by omega) he.1
  rw [w64 (by omega)]
  unfold spread
  rw [mxI_of hi2]
  unfold spr
  rw [getD_lt hlt]
end Go.Rex

open Go Go.Rex
namespace Go.Rex
set_option maxRecDepth 100000
/-! ### a step -/
/-- what is lost of an energy by a share -/
def gone (e s : Int) : Int := (e * s + 999) / 1000
theorem gone_le {e s : Int} (he : 0 ≤ e) (hs : 0 ≤ s ∧ s ≤ 1000) : 0 ≤ gone e s ∧ gone e s ≤ e ∧ e * s ≤ 1000 * gone e s ∧ 1000 * gone e s ≤ e * s + 999 := by
  unfold gone
  have h1 : 0 ≤ e * s := Int.mul_nonneg he hs.1
  have h2 : e * s ≤ e * 1000 := Int.mul_le_mul_of_nonneg_left hs.2 he
  omega
noncomputable def stK (x : List (List Int)) (lo e : List Int) (k : Nat) (b : List Int × Int) : List Int × Int := (spread b.1 (x.getD k []) (e.getD k 0 - gone (e.getD k 0) (lo.getD k 0)), b.2 + gone (e.getD k 0) (lo.getD k 0))
noncomputable def stp (x : List (List Int)) (lo e : List Int) : List Int × Int := iter (stK x lo e) e.length (List.replicate e.length 0, 0)
/-- energies that fit an exchange -/
structure FitE (x : List (List Int)) (e : List Int) : Prop where
  len : e.length = x.length
  pos : ∀ y ∈ e, 0 ≤ y
  top : sumL e ≤ 12000000000000
theorem getX {x : List (List Int)} {k : Nat} (hk : k < x.length) : x.getD k [] = x[k] := by simp [List.getD_eq_getElem?_getD, List.getElem?_eq_getElem hk]
structure StI (x : List (List Int)) (e : List Int) (k : Nat) (b : List Int × Int) : Prop where
  len : b.1.length = x.length
  pos : ∀ y ∈ b.1, 0 ≤ y
  sum : sumL b.1 + b.2 = sumL (e.take k)
  lost : 0 ≤ b.2
theorem firstMax_ex {l : List Int} (h0 : 0 < l.length) (hl : l.length ≤ 1048576) : ∃ m, FirstMax l m := by
  obtain ⟨mx, hm1, hm2, hm3⟩ := maxP h0 hl
  obtain ⟨m, hi1, hi2⟩ := indexP hl hm2 hm3
  exact ⟨m, hi2⟩
theorem StI.next {x : List (List Int)} {lo e : List Int} (hx : RightX x lo) (he : FitE x e) {k : Nat} {b : List Int × Int} (hk : k < e.length) (h : StI x e k b) : StI x e (k + 1) (stK x lo e k b) := by
  have hk1 : k < x.length := by have := he.len; omega
  have hk2 : k < lo.length := by rw [hx.los]; exact hk1
  have he0 : 0 ≤ e[k] := he.pos _ (List.getElem_mem hk)
  have hg := gone_le he0 (hx.lost _ (List.getElem_mem hk2))
  obtain ⟨r1, r2, r3⟩ := hx.row k hk1
  obtain ⟨m, hm⟩ := firstMax_ex (l := x[k]) (by have := hx.pos; omega) (by have := hx.len; omega)
  unfold stK
  rw [getX hk1, getD_lt hk, getD_lt hk2]
  have hkept : 0 ≤ e[k] - gone e[k] lo[k] := by omega
  have hrl : x[k].length = b.1.length := by rw [r1, h.len]
  refine ⟨by rw [spread_len hkept r2 hrl]; exact h.len, fun y hy => ?_, ?_, by simp only; have := h.lost; omega⟩
  · simp only at hy
    obtain ⟨j, hj, rfl⟩ := List.getElem_of_mem hy
    have hj' : j < b.1.length := by rw [spread_len hkept r2 hrl] at hj; exact hj
    have := (spread_at hkept r2 hrl r3 hm hj').2.2
    rw [getD_lt hj, getD_lt hj'] at this
    have := h.pos _ (List.getElem_mem hj')
    omega
  · simp only
    rw [spread_sum hkept r2 hrl hm, sumL_take_succ hk]
    have := h.sum
    omega
theorem StI.zero {x : List (List Int)} {lo e : List Int} (hx : RightX x lo) (he : FitE x e) : StI x e 0 (List.replicate e.length 0, 0) :=
  ⟨by simp [he.len], fun y hy => by rw [List.eq_of_mem_replicate hy]; exact Int.le_refl _, by simp [sumL_replicate, sumL], Int.le_refl _⟩
theorem StI.all {x : List (List Int)} {lo e : List Int} (hx : RightX x lo) (he : FitE x e) : ∀ k, k ≤ e.length → StI x e k (iter (stK x lo e) k (List.replicate e.length 0, 0))
  | 0, _ => StI.zero hx he
  | k + 1, hk => StI.next hx he (by omega) (StI.all hx he k (by omega))
theorem stp_fit {x : List (List Int)} {lo e : List Int} (hx : RightX x lo) (he : FitE x e) : FitE x (stp x lo e).1 ∧ sumL (stp x lo e).1 + (stp x lo e).2 = sumL e ∧ 0 ≤ (stp x lo e).2 := by
  have h := StI.all hx he _ (Nat.le_refl _)
  have hs := h.sum
  rw [List.take_length] at hs
  have := h.lost
  have := he.top
  exact ⟨⟨h.len, h.pos, by unfold stp; omega⟩, hs, h.lost⟩
/-- the program's step -/
theorem stepP {x : List (List Int)} {lo e : List Int} (hx : RightX x lo) (he : FitE x e) : energy_stepFrom x lo e = some (stp x lo e) := by
  have hl := he.len
  have hx12 := hx.len
  unfold energy_stepFrom
  rw [mkI_nat (by omega), Option.bind_some]
  have := run_iter (step := energy_stepFrom_l1 x lo e) (fun k (b : List Int × Int) => (b.1, b.2, (k : Int))) (stK x lo e) id e.length (StI x e) (b0 := (List.replicate e.length 0, 0)) (StI.zero hx he) (fun k b hk hI => by
    refine ⟨?_, hI.next hx he hk⟩
    have hk1 : k < x.length := by omega
    have hk2 : k < lo.length := by rw [hx.los]; exact hk1
    have he0 : 0 ≤ e[k] := he.pos _ (List.getElem_mem hk)
    have hw := hx.lost _ (List.getElem_mem hk2)
    have hg := gone_le he0 hw
    obtain ⟨r1, r2, r3⟩ := hx.row k hk1
    have htop : e[k] ≤ 12000000000000 := Int.le_trans (sumL_elem he.pos (List.getElem_mem hk)) he.top
    have m1 : 0 ≤ e[k] * lo[k] := Int.mul_nonneg he0 hw.1
    have m2 : e[k] * lo[k] ≤ e[k] * 1000 := Int.mul_le_mul_of_nonneg_left hw.2 he0
    have hst := sumL_take_le he.pos k
    have hst1 := sumL_take_le he.pos (k + 1)
    have htt := he.top
    have hsum := hI.sum
    have hlo := hI.lost
    have hb : ∀ y ∈ b.1, 0 ≤ y ∧ y ≤ 1000000000000000 := fun y hy => ⟨hI.pos y hy, by have := sumL_elem hI.pos hy; omega⟩
    have hb1 := sumL_nonneg hI.pos
    have hrl : x[k].length = b.1.length := by rw [r1, hI.len]
    unfold energy_stepFrom_l1
    simp only
    rw [if_pos (by simp only [decide_eq_true_eq]; omega), getI_lt' hk, Option.bind_some, getI_lt' hk2, Option.bind_some]
    unfold energy_up
    rw [if_neg (by decide), w64 (x := e[k] * lo[k]) (by omega), w64 (x := e[k] * lo[k] + 1000) (by omega), w64 (x := e[k] * lo[k] + 1000 - 1) (by omega), tdiv_k (by omega), show (e[k] * lo[k] + 1000 - 1) / 1000 = gone e[k] lo[k] from by unfold gone; congr 1; omega, w64 (x := gone e[k] lo[k]) (by omega), Option.bind_some, getI_lt' hk1, Option.bind_some, w64 (x := e[k] - gone e[k] lo[k]) (by omega)]
    rw [(spreadP (to := b.1) (sh := x[k]) (e := e[k] - gone e[k] lo[k]) (by omega) r2 hrl (by have := hx.pos; omega) (by omega) hb).2, Option.bind_some, lenAs_of (spread_len (by omega) r2 hrl), wsucc (n := e.length) (by omega) (by omega), w64 (x := b.2 + gone e[k] lo[k]) (by omega)]
    unfold stK
    rw [getX hk1, getD_lt hk, getD_lt hk2]) (fun b hI => by
    unfold energy_stepFrom_l1
    simp only
    rw [if_neg (by simp)]
    rfl)
  rw [show ((List.replicate e.length (0 : Int), (0 : Int), (0 : Int)) = (List.replicate e.length (0 : Int), (0 : Int), ((0 : Nat) : Int))) from rfl, this.1, Option.bind_some]
  rfl
/-- some steps -/
noncomputable def runK (x : List (List Int)) (lo : List Int) (k : Nat) (b : List Int × Int) : List Int × Int := ((stp x lo b.1).1, b.2 + (stp x lo b.1).2)
noncomputable def runN (x : List (List Int)) (lo e : List Int) (n : Nat) : List Int × Int := iter (runK x lo) n (e, 0)
structure RunI (x : List (List Int)) (e : List Int) (b : List Int × Int) : Prop where
  fit : FitE x b.1
  sum : sumL b.1 + b.2 = sumL e
  lost : 0 ≤ b.2
theorem RunI.next {x : List (List Int)} {lo e : List Int} (hx : RightX x lo) {k : Nat} {b : List Int × Int} (h : RunI x e b) : RunI x e (runK x lo k b) := by
  obtain ⟨h1, h2, h3⟩ := stp_fit hx h.fit
  have := h.sum
  have := h.lost
  exact ⟨h1, by unfold runK; simp only; omega, by unfold runK; simp only; omega⟩
theorem runN_inv {x : List (List Int)} {lo e : List Int} (hx : RightX x lo) (he : FitE x e) : ∀ n, RunI x e (runN x lo e n)
  | 0 => ⟨he, by simp [runN, iter], Int.le_refl _⟩
  | n + 1 => (runN_inv hx he n).next hx (k := n)
/-- right energies -/
def energiesErr (x : List (List Int)) (e : List Int) : Int := if e.length ≠ x.length then 10 else if outL e 0 1000000000000 = none then 0 else 2
theorem energies_fit {x : List (List Int)} {lo e : List Int} (hx : RightX x lo) (h : energiesErr x e = 0) : FitE x e ∧ ∀ y ∈ e, 0 ≤ y ∧ y ≤ 1000000000000 := by
  unfold energiesErr at h
  by_cases c : e.length ≠ x.length
  · rw [if_pos c] at h; cases h
  rw [if_neg c] at h
  by_cases d : outL e 0 1000000000000 = none
  · have hw := outL_none.1 d
    have := sumL_le (m := 1000000000000) (l := e) fun y hy => (hw y hy).2
    have := hx.len
    exact ⟨⟨by omega, fun y hy => (hw y hy).1, by omega⟩, hw⟩
  · rw [if_neg d] at h; cases h
theorem perP {x : List (List Int)} {lo e : List Int} (h : FewP x lo e) (a b : Int) (hab : a ≤ b) : energy_perPatch_c1_e525 e x lo a b = some (if e.length ≠ x.length then 10 else if outL e a b = none then 0 else 2) := by
  unfold energy_perPatch_c1_e525
  rw [show ∀ (b : Bool) (e : Int), energy_refuse b e = some (b, e) from fun _ _ => rfl, Option.bind_some]
  simp only
  rw [allWithin_eq (by have := h.2.2.2; omega) a b hab, Option.bind_some]
  unfold energy_firstError_fcdf energy_unnumbered_c1_662c
  simp only [eRefuse, Option.bind_some]
  by_cases c : e.length ≠ x.length
  · have : (e.length : Int) ≠ (x.length : Int) := by omega
    simp [c, this]
  · have : ¬ (e.length : Int) ≠ (x.length : Int) := by omega
    by_cases d : outL e a b = none <;> simp [c, this, d]
theorem clone_eq {l : List Int} (h : l.length ≤ 1048576) : slices_Clone_int_int l = some l := by
  unfold slices_Clone_int_int nilq
  rw [copyI' h, Option.bind_some]
  by_cases c : l = []
  · subst c; simp
  · rw [if_neg c]
/-- the error of a run -/
def runErr (x : List (List Int)) (lo e : List Int) (n : Int) : Int := if (chk x lo).2 ≠ 0 then (chk x lo).2 else if energiesErr x e ≠ 0 then energiesErr x e else if n < 0 ∨ n > 1000 then 2 else 0
theorem firstP {x : List (List Int)} {lo e : List Int} (h : FewP x lo e) (a : Int) (n : Int) : energy_firstError_7416 a e x lo 0 1000000000000 (decide (n < 0 ∨ n > 1000)) 2 = some (if a ≠ 0 then a else if energiesErr x e ≠ 0 then energiesErr x e else if n < 0 ∨ n > 1000 then 2 else 0) := by
  unfold energy_firstError_7416 energy_unnumbered_c1_662c
  rw [perP h 0 1000000000000 (by omega)]
  simp only [eRefuse, Option.bind_some]
  rw [show (if e.length ≠ x.length then 10 else if outL e 0 1000000000000 = none then 0 else 2) = energiesErr x e from rfl]
  by_cases c : a = 0
  · by_cases d : energiesErr x e = 0
    · by_cases f : n < 0 ∨ n > 1000 <;> simp [c, d, f]
    · simp [c, d]
  · simp [c]
theorem runP {x : List (List Int)} {lo e : List Int} (h : FewP x lo e) (n : Int) : energy_Run x lo e n = some (if runErr x lo e n = 0 then ((runN x lo e n.toNat).1, (runN x lo e n.toNat).2, 0) else ([], 0, runErr x lo e n)) := by
  unfold energy_Run
  rw [exchangedP h, Option.bind_some]
  unfold energy_energies energy_perPatch energy_stepped
  simp only [Option.bind_some, eWithin]
  rw [firstP h, Option.bind_some]
  rw [show (if (chk x lo).2 ≠ 0 then (chk x lo).2 else if energiesErr x e ≠ 0 then energiesErr x e else if n < 0 ∨ n > 1000 then 2 else 0) = runErr x lo e n from rfl]
  by_cases c : runErr x lo e n = 0
  · rw [if_neg (by simpa using c), if_pos c, clone_eq (by have := h.2.2.2; omega), Option.bind_some]
    unfold runErr at c
    by_cases c1 : (chk x lo).2 = 0
    · rw [if_neg (by simpa using c1)] at c
      have hx := chk_right c1
      by_cases c2 : energiesErr x e = 0
      · rw [if_neg (by simpa using c2)] at c
        obtain ⟨hf, _⟩ := energies_fit hx c2
        have hn : 0 ≤ n ∧ n ≤ 1000 := by
          by_cases d : n < 0 ∨ n > 1000
          · rw [if_pos d] at c; cases c
          · omega
        have := run_iter (step := energy_Run_l1 x lo n) (fun k (b : List Int × Int) => (b.1, b.2, (k : Int))) (runK x lo) id n.toNat (fun _ => RunI x e) (b0 := (e, 0)) ⟨hf, by simp, Int.le_refl _⟩ (fun k b hk hI => by
          refine ⟨?_, hI.next hx⟩
          obtain ⟨g1, g2, g3⟩ := stp_fit hx hI.fit
          have := hI.sum
          have := hI.lost
          have := hf.top
          have := sumL_nonneg g1.pos
          unfold energy_Run_l1
          simp only
          rw [if_pos (by simp only [decide_eq_true_eq]; omega), stepP hx hI.fit, Option.bind_some, wsucc (n := n.toNat) (by omega) (by omega), w64 (x := b.2 + (stp x lo b.1).2) (by omega)]
          rfl) (fun b hI => by
          unfold energy_Run_l1
          simp only
          rw [if_neg (by simp only [decide_eq_true_eq]; omega)]
          rfl)
        rw [show ((e, (0 : Int), (0 : Int)) = (e, (0 : Int), ((0 : Nat) : Int))) from rfl, this.1, Option.bind_some]
        rfl
      · rw [if_pos (by simpa using c2)] at c; exact absurd c c2
    · rw [if_pos (by simpa using c1)] at c; exact absurd c c1
  · rw [if_pos (by simpa using c), if_neg c]
end Go.Rex

open Go Go.Rex
namespace Go.Rex
set_option maxRecDepth 100000
theorem ints_refl {l : List Int} (h : l.length ≤ 1048576) : base_Ints l l = some true := by
  unfold base_Ints
  rw [if_neg (by simp)]
  have := run_find (step := base_Ints_l1 l l) (n := l.length) (p := fun _ => (none : Option Unit)) (r := ()) (fun k hk _ => by
    unfold base_Ints_l1
    rw [if_pos (by simp only [decide_eq_true_eq]; omega), getI_lt' hk, Option.bind_some, Option.bind_some, if_neg (by simp), wsucc (n := l.length) (by omega) (by omega)]) (fun _ => by
    unfold base_Ints_l1
    rw [if_neg (by simp)])
  rw [firstOf_none.2 (fun _ _ => rfl)] at this
  rw [this]
  rfl
theorem energiesR {x : List (List Int)} {lo e : List Int} (h : FewP x lo e) : ref03_EnergiesErr x lo e = some (energiesErr x e) := by
  have he := h.2.2.2
  unfold ref03_EnergiesErr energiesErr
  by_cases c : e.length ≠ x.length
  · rw [if_pos (by simp only [decide_eq_true_eq]; omega), if_pos c]
  rw [if_neg (by simp only [decide_eq_true_eq]; omega), if_neg c]
  have := run_find (step := ref03_EnergiesErr_l1 e) (n := e.length) (p := outK e 0 1000000000000) (r := ()) (fun k hk _ => by
    unfold ref03_EnergiesErr_l1 outK
    rw [if_pos (by simp only [decide_eq_true_eq]; omega), getI_lt' hk, Option.bind_some, within_eq, Option.bind_some, wsucc (n := e.length) (by omega) (by omega), getD_lt hk]
    by_cases c : 0 ≤ e[k] ∧ e[k] ≤ 1000000000000
    · rw [if_pos (by simpa using c), if_pos c]
    · rw [if_neg (by simpa using c), if_neg c]) (fun _ => by
    unfold ref03_EnergiesErr_l1
    rw [if_neg (by simp)])
  rw [this, Option.bind_some]
  unfold outL
  cases firstOf (outK e 0 1000000000000) e.length with
  | none => rfl
  | some u => rfl
theorem exErr {x : List (List Int)} {lo e : List Int} (h : FewP x lo e) : law03_exchangeErr x lo e = some (if (chk x lo).2 ≠ 0 then (chk x lo).2 else energiesErr x e) := by
  unfold law03_exchangeErr
  rw [chkR h, Option.bind_some]
  by_cases c : (chk x lo).2 = 0
  · rw [show chk x lo = ((chk x lo).1, (chk x lo).2) from rfl]
    simp only
    rw [if_neg (by simpa using c), energiesR h]
    simp [c]
  · rw [show chk x lo = ((chk x lo).1, (chk x lo).2) from rfl]
    simp only
    rw [if_pos (by simpa using c), if_pos c]
theorem stepsR (n : Int) : ref03_StepsErr n = some (if n < 0 ∨ n > 1000 then 2 else 0) := by
  unfold ref03_StepsErr
  rw [within_eq, Option.bind_some]
  by_cases c : n < 0 ∨ n > 1000
  · rw [if_neg (by simp only [decide_eq_true_eq]; omega), if_pos c]
  · rw [if_pos (by simp only [decide_eq_true_eq]; omega), if_neg c]
end Go.Rex

open Go Go.Rex
namespace Go.Rex
set_option maxRecDepth 100000
theorem totalR {l : List Int} (hl : l.length ≤ 1048576) (h : ∀ x ∈ l, 0 ≤ x) (ht : sumL l ≤ 1000000000000000) : ref03_Total l = some (sumL l) := by
  unfold ref03_Total
  have := (run_iter (step := ref03_Total_l1 l) (fun k (b : Int) => (b, (k : Int))) (fun k b => sumL (l.take (k + 1))) id l.length (fun k b => b = sumL (l.take k)) (b0 := 0) rfl (fun k b hk hI => by
    subst hI
    refine ⟨?_, rfl⟩
    unfold ref03_Total_l1
    simp only
    have e := sumL_take_succ hk
    have := sumL_take_le h (k + 1)
    rw [if_pos (by simp only [decide_eq_true_eq]; omega), getI_lt' hk, Option.bind_some, wsucc (n := l.length) (by omega) (by omega), w64 (by omega), e]) (fun b hI => by
    unfold ref03_Total_l1
    simp only
    rw [if_neg (by simp)]
    rfl))
  obtain ⟨h1, h2⟩ := this
  rw [show (((0 : Int), (0 : Int)) = ((0 : Int), ((0 : Nat) : Int))) from rfl, h1, h2 l.length (Nat.le_refl _)]
  simp
end Go.Rex

open Go Go.Rex
namespace Go.Rex
set_option maxRecDepth 100000
theorem floorB' {a : Int} (h0 : 0 ≤ a) (h1 : a ≤ 9000000000000000000) : base_Floor a 1000 = some (a / 1000) := by
  unfold base_Floor
  rw [if_neg (by decide), if_neg (by simp only [decide_eq_true_eq]; rw [Int.tmod_eq_emod_of_nonneg h0]; omega), tdiv_k h0, w64 (by omega)]
theorem ceilB' {a : Int} (h0 : 0 ≤ a) (h1 : a ≤ 9000000000000000000) : base_Ceil a 1000 = some ((a + 999) / 1000) := by
  have e : (0 - a).tdiv 1000 = - (a / 1000) := by rw [Int.zero_sub, Int.neg_tdiv, tdiv_k h0]
  have f : (0 - a).tmod 1000 = - (a % 1000) := by rw [Int.zero_sub, Int.neg_tmod, Int.tmod_eq_emod_of_nonneg h0]
  unfold base_Ceil base_Floor
  rw [w64 (x := 0 - a) (by omega), if_neg (by decide), e, f]
  by_cases c : -(a % 1000) < 0
  · rw [if_pos (by simpa using c), Option.bind_some, w64 (x := -(a / 1000)) (by omega), w64 (x := -(a / 1000) - 1) (by omega), w64 (by omega)]
    congr 1; omega
  · rw [if_neg (by simpa using c), Option.bind_some, w64 (x := -(a / 1000)) (by omega), w64 (by omega)]
    congr 1; omega
/-! ### least and greatest -/
def IsMin (l : List Int) (m : Int) : Prop := m ∈ l ∧ ∀ x ∈ l, m ≤ x
def IsMax (l : List Int) (m : Int) : Prop := m ∈ l ∧ ∀ x ∈ l, x ≤ m
theorem IsMin.unique {l : List Int} {a b : Int} (h : IsMin l a) (g : IsMin l b) : a = b := by
  have := h.2 _ g.1; have := g.2 _ h.1; omega
theorem IsMax.unique {l : List Int} {a b : Int} (h : IsMax l a) (g : IsMax l b) : a = b := by
  have := h.2 _ g.1; have := g.2 _ h.1; omega
theorem minP {l : List Int} (h0 : 0 < l.length) (hl : l.length ≤ 1048576) : ∃ m, slices_Min_int_int l = some m ∧ IsMin l m := by
  unfold slices_Min_int_int
  rw [if_neg (by simp only [decide_eq_true_eq]; omega), show getI l 0 = some l[0] from getI_lt' h0, Option.bind_some]
  have := run_iter (step := slices_Min_int_int_l1 l) (fun k (b : Int) => (b, ((k + 1 : Nat) : Int))) (fun k b => if l.getD (k + 1) 0 < b then l.getD (k + 1) 0 else b) id (l.length - 1) (fun k b => b ∈ l ∧ ∀ j (hj : j < l.length), j ≤ k → b ≤ l[j]) (b0 := l[0]) ⟨List.getElem_mem h0, fun j hj h => by have hz : j = 0 := (by omega); subst hz; exact Int.le_refl _⟩ (fun k b hk hI => by
    have hk' : k + 1 < l.length := by omega
    refine ⟨?_, ?_⟩
    · unfold slices_Min_int_int_l1
      simp only
      rw [if_pos (by simp only [decide_eq_true_eq]; omega), getI_lt' hk', Option.bind_some, wsucc (n := l.length) (by omega) (by omega), getD_lt hk']
    · rw [getD_lt hk']
      refine ⟨?_, fun j hj h => ?_⟩
      · split
        · exact List.getElem_mem hk'
        · exact hI.1
      · by_cases e : j = k + 1
        · subst e
          split
          · exact Int.le_refl _
          · omega
        · have := hI.2 j hj (by omega)
          split <;> omega) (fun b hI => by
    unfold slices_Min_int_int_l1
    simp only
    rw [if_neg (by simp only [decide_eq_true_eq]; omega)]
    rfl)
  obtain ⟨h1, h2⟩ := this
  have h3 := h2 _ (Nat.le_refl _)
  rw [show ((l[0], (1 : Int)) = (l[0], ((0 + 1 : Nat) : Int))) from rfl, h1, Option.bind_some]
  refine ⟨_, rfl, h3.1, fun x hx => ?_⟩
  obtain ⟨j, hj, rfl⟩ := List.getElem_of_mem hx
  exact h3.2 j hj (by omega)
theorem bothR {l : List Int} (h0 : 0 < l.length) (hl : l.length ≤ 1048576) : ∃ a b, run (ref03_BoundOf_l1 l) (l[0], l[0], 0) = some (a, b) ∧ IsMin l a ∧ IsMax l b := by
  have := run_iter (step := ref03_BoundOf_l1 l) (fun k (b : Int × Int) => (b.1, b.2, (k : Int))) (fun k b => (if l.getD k 0 < b.1 then l.getD k 0 else b.1, if l.getD k 0 > b.2 then l.getD k 0 else b.2)) id l.length (fun k b => (b.1 ∈ l ∧ ∀ j (hj : j < l.length), j < k → b.1 ≤ l[j]) ∧ (b.2 ∈ l ∧ ∀ j (hj : j < l.length), j < k → l[j] ≤ b.2)) (b0 := (l[0], l[0])) ⟨⟨List.getElem_mem h0, fun j hj h => by omega⟩, ⟨List.getElem_mem h0, fun j hj h => by omega⟩⟩ (fun k b hk hI => by
    refine ⟨?_, ?_⟩
    · unfold ref03_BoundOf_l1
      simp only
      rw [if_pos (by simp only [decide_eq_true_eq]; omega), getI_lt' hk, Option.bind_some, wsucc (n := l.length) (by omega) (by omega), getD_lt hk]
    · rw [getD_lt hk]
      refine ⟨⟨?_, fun j hj h => ?_⟩, ⟨?_, fun j hj h => ?_⟩⟩
      · simp only; split
        · exact List.getElem_mem hk
        · exact hI.1.1
      · simp only
        by_cases e : j = k
        · subst e
          split
          · exact Int.le_refl _
          · omega
        · have := hI.1.2 j hj (by omega)
          split <;> omega
      · simp only; split
        · exact List.getElem_mem hk
        · exact hI.2.1
      · simp only
        by_cases e : j = k
        · subst e
          split
          · exact Int.le_refl _
          · omega
        · have := hI.2.2 j hj (by omega)
          split <;> omega) (fun b hI => by
    unfold ref03_BoundOf_l1
    simp only
    rw [if_neg (by simp)]
    rfl)
  obtain ⟨h1, h2⟩ := this
  have h3 := h2 _ (Nat.le_refl _)
  refine ⟨_, _, h1, ⟨h3.1.1, fun x hx => ?_⟩, h3.2.1, fun x hx => ?_⟩
  · obtain ⟨j, hj, rfl⟩ := List.getElem_of_mem hx
    exact h3.1.2 j hj hj
  · obtain ⟨j, hj, rfl⟩ := List.getElem_of_mem hx
    exact h3.2.2 j hj hj
/-! ### the bound -/
def bndK (n a b : Int) (k : Nat) (r : Int × Int) : Int × Int := (if 0 > r.1 - part r.1 b - n then 0 else r.1 - part r.1 b - n, r.2 - gone r.2 a)
def bndN (n a b y : Int) (k : Nat) : Int × Int := iter (bndK n a b) k (y, y)
def BI (r : Int × Int) : Prop := (0 ≤ r.1 ∧ r.1 ≤ 12000000000000) ∧ 0 ≤ r.2 ∧ r.2 ≤ 12000000000000
theorem BI.next {n a b : Int} {r : Int × Int} (k : Nat) (hn : 0 ≤ n ∧ n ≤ 12) (ha : 0 ≤ a ∧ a ≤ 1000) (hb : 0 ≤ b ∧ b ≤ 1000) (h : BI r) : BI (bndK n a b k r) := by
  have p := part_le h.1.1 hb
  have g := gone_le h.2.1 ha
  obtain ⟨h1, h2⟩ := h
  unfold bndK
  refine ⟨?_, ?_⟩
  · simp only; split <;> omega
  · simp only; omega
def bndErr (x : List (List Int)) (lo : List Int) (y n : Int) : Int := if (chk x lo).2 ≠ 0 then (chk x lo).2 else if y < 0 ∨ y > 12000000000000 then 2 else if n < 0 ∨ n > 1000 then 2 else 0
theorem boundP {x : List (List Int)} {lo e : List Int} (h : FewP x lo e) (y n : Int) : ∃ a b, (bndErr x lo y n = 0 → IsMin lo a ∧ IsMax lo b) ∧ energy_BoundOf x lo y n = some (if bndErr x lo y n = 0 then ((bndN lo.length a b y n.toNat).1, (bndN lo.length a b y n.toNat).2, 0) else (0, 0, bndErr x lo y n)) := by
  have hfe : energy_firstError_f1be (chk x lo).2 (decide (y < 0 ∨ y > 12000000000000)) 2 (decide (n < 0 ∨ n > 1000)) 2 = some (bndErr x lo y n) := by
    unfold energy_firstError_f1be energy_unnumbered_c1_662c bndErr
    simp only [eRefuse, Option.bind_some]
    by_cases c : (chk x lo).2 = 0
    · by_cases d : y < 0 ∨ y > 12000000000000
      · simp [c, d]
      · by_cases f : n < 0 ∨ n > 1000 <;> simp [c, d, f]
    · simp [c]
  unfold energy_BoundOf
  rw [exchangedP h, Option.bind_some]
  unfold energy_stepped
  simp only [Option.bind_some, eWithin]
  rw [hfe, Option.bind_some]
  by_cases c : bndErr x lo y n = 0
  · have c0 := c
    unfold bndErr at c
    by_cases c1 : (chk x lo).2 = 0
    · rw [if_neg (by simpa using c1)] at c
      have hx := chk_right c1
      by_cases c2 : y < 0 ∨ y > 12000000000000
      · rw [if_pos c2] at c; cases c
      rw [if_neg c2] at c
      by_cases c3 : n < 0 ∨ n > 1000
      · rw [if_pos c3] at c; cases c
      have hlen := hx.len
      have hpos := hx.pos
      have hlos := hx.los
      obtain ⟨a, ha, hma⟩ := minP (l := lo) (by omega) (by omega)
      obtain ⟨b, hb, hmb⟩ := maxP (l := lo) (by omega) (by omega)
      refine ⟨a, b, fun _ => ⟨hma, hmb⟩, ?_⟩
      have wa := hx.lost _ hma.1
      have wb := hx.lost _ hmb.1
      rw [if_neg (by simpa using c0), if_pos c0, ha, Option.bind_some, hb, Option.bind_some]
      unfold energy_exactly energy_between
      simp only [Option.bind_some]
      have := run_iter (step := energy_BoundOf_l1 lo n a b) (fun k (r : Int × Int) => (r.1, r.2, (k : Int))) (bndK lo.length a b) id n.toNat (fun _ => BI) (b0 := (y, y)) ⟨⟨by simp only; omega, by simp only; omega⟩, by simp only; omega, by simp only; omega⟩ (fun k r hk hI => by
        refine ⟨?_, hI.next k (show 0 ≤ (lo.length : Int) ∧ (lo.length : Int) ≤ 12 by omega) wa wb⟩
        have p := part_le hI.1.1 wb
        have g := gone_le hI.2.1 wa
        obtain ⟨i1, i2⟩ := hI
        have m1 : 0 ≤ r.2 * a := Int.mul_nonneg i2.1 wa.1
        have m2 : r.2 * a ≤ r.2 * 1000 := Int.mul_le_mul_of_nonneg_left wa.2 i2.1
        have n1 : 0 ≤ r.1 * b := Int.mul_nonneg i1.1 wb.1
        have n2 : r.1 * b ≤ r.1 * 1000 := Int.mul_le_mul_of_nonneg_left wb.2 i1.1
        unfold energy_BoundOf_l1 energy_up energy_down
        simp only
        rw [if_pos (by simp only [decide_eq_true_eq]; omega), if_neg (by decide), if_neg (by decide), w64 (x := r.2 * a) (by omega), w64 (x := r.2 * a + 1000) (by omega), w64 (x := r.2 * a + 1000 - 1) (by omega), tdiv_k (by omega), show (r.2 * a + 1000 - 1) / 1000 = gone r.2 a from by unfold gone; congr 1; omega, w64 (x := gone r.2 a) (by omega), Option.bind_some, w64 (x := r.1 * b) (by omega), tdiv_k n1, show r.1 * b / 1000 = part r.1 b from rfl, w64 (x := part r.1 b) (by omega), Option.bind_some, w64 (x := r.1 - part r.1 b) (by omega), w64 (x := r.1 - part r.1 b - (lo.length : Int)) (by omega), w64 (x := r.2 - gone r.2 a) (by omega), wsucc (n := n.toNat) (by omega) (by omega)]
        rfl) (fun r hI => by
        unfold energy_BoundOf_l1
        simp only
        rw [if_neg (by simp only [decide_eq_true_eq]; omega)]
        rfl)
      rw [show (y, y, (0 : Int)) = (y, y, ((0 : Nat) : Int)) from rfl, this.1, Option.bind_some]
      rfl
    · rw [if_pos (by simpa using c1)] at c; exact absurd c c1
  · refine ⟨0, 0, fun h => absurd h c, ?_⟩
    rw [if_pos (by simpa using c), if_neg c]
theorem boundR {x : List (List Int)} {lo : List Int} (hx : RightX x lo) {y n : Int} (hy : 0 ≤ y ∧ y ≤ 12000000000000) (hn : 0 ≤ n ∧ n ≤ 1000) {a b : Int} (ha : IsMin lo a) (hb : IsMax lo b) : ref03_BoundOf x lo y n = some (bndN lo.length a b y n.toNat) := by
  have hlen := hx.len
  have hpos := hx.pos
  have hlos := hx.los
  obtain ⟨a', b', hr, ha', hb'⟩ := bothR (l := lo) (by omega) (by omega)
  obtain rfl := ha.unique ha'
  obtain rfl := hb.unique hb'
  have wa := hx.lost _ ha.1
  have wb := hx.lost _ hb.1
  unfold ref03_BoundOf
  rw [show getI lo 0 = some lo[0] from getI_lt' (l := lo) (k := 0) (by omega), Option.bind_some, hr, Option.bind_some]
  simp only
  have := run_iter (step := ref03_BoundOf_l2 lo n a b) (fun k (r : Int × Int) => (r.1, r.2, (k : Int))) (bndK lo.length a b) id n.toNat (fun _ => BI) (b0 := (y, y)) ⟨⟨by simp only; omega, by simp only; omega⟩, by simp only; omega, by simp only; omega⟩ (fun k r hk hI => by
    refine ⟨?_, hI.next k (show 0 ≤ (lo.length : Int) ∧ (lo.length : Int) ≤ 12 by omega) wa wb⟩
    have p := part_le hI.1.1 wb
    have g := gone_le hI.2.1 wa
    obtain ⟨i1, i2⟩ := hI
    have m1 : 0 ≤ r.2 * a := Int.mul_nonneg i2.1 wa.1
    have m2 : r.2 * a ≤ r.2 * 1000 := Int.mul_le_mul_of_nonneg_left wa.2 i2.1
    have n1 : 0 ≤ r.1 * b := Int.mul_nonneg i1.1 wb.1
    have n2 : r.1 * b ≤ r.1 * 1000 := Int.mul_le_mul_of_nonneg_left wb.2 i1.1
    unfold ref03_BoundOf_l2
    simp only
    rw [if_pos (by simp only [decide_eq_true_eq]; omega), w64 (x := r.2 * a) (by omega), ceilB' m1 (by omega), Option.bind_some, show (r.2 * a + 999) / 1000 = gone r.2 a from rfl, w64 (x := r.1 * b) (by omega), floorB' n1 (by omega), Option.bind_some, show r.1 * b / 1000 = part r.1 b from rfl, w64 (x := r.1 - part r.1 b) (by omega), w64 (x := r.1 - part r.1 b - (lo.length : Int)) (by omega), w64 (x := r.2 - gone r.2 a) (by omega), wsucc (n := n.toNat) (by omega) (by omega)]
    unfold bndK
    have e : (if r.1 - part r.1 b - (lo.length : Int) > 0 then r.1 - part r.1 b - (lo.length : Int) else 0) = if 0 > r.1 - part r.1 b - (lo.length : Int) then 0 else r.1 - part r.1 b - (lo.length : Int) := by
      split <;> split <;> omega
    rw [e]) (fun r hI => by
    unfold ref03_BoundOf_l2
    simp only
    rw [if_neg (by simp only [decide_eq_true_eq]; omega)]
    rfl)
  rw [show (y, y, (0 : Int)) = (y, y, ((0 : Nat) : Int)) from rfl, this.1, Option.bind_some]
  rfl
/-! ### what is left lies in the bound -/
theorem lost_of {x : List (List Int)} {lo e : List Int} (hx : RightX x lo) (he : FitE x e) {a b : Int} (ha : IsMin lo a) (hb : IsMax lo b) : ∀ k, k ≤ e.length → a * sumL (e.take k) ≤ 1000 * (iter (stK x lo e) k (List.replicate e.length 0, 0)).2 ∧ 1000 * (iter (stK x lo e) k (List.replicate e.length 0, 0)).2 ≤ b * sumL (e.take k) + 999 * k
  | 0, _ => by simp [iter, sumL]
  | k + 1, hk => by
    obtain ⟨h1, h2⟩ := lost_of hx he ha hb k (by omega)
    have hel := he.len
    have hlos := hx.los
    have hk1 : k < e.length := by omega
    have hk2 : k < lo.length := by omega
    have he0 : 0 ≤ e[k] := he.pos _ (List.getElem_mem hk1)
    have hw := hx.lost _ (List.getElem_mem hk2)
    have g := gone_le he0 hw
    have u1 : a * e[k] ≤ lo[k] * e[k] := Int.mul_le_mul_of_nonneg_right (ha.2 _ (List.getElem_mem hk2)) he0
    have u2 : lo[k] * e[k] ≤ b * e[k] := Int.mul_le_mul_of_nonneg_right (hb.2 _ (List.getElem_mem hk2)) he0
    rw [Int.mul_comm lo[k]] at u1 u2
    rw [sumL_take_succ hk1, Int.mul_add, Int.mul_add]
    simp only [iter]
    unfold stK
    simp only
    rw [getD_lt hk1, getD_lt hk2]
    unfold stK at h1 h2
    omega
theorem step_in {x : List (List Int)} {lo e : List Int} (hx : RightX x lo) (he : FitE x e) {a b : Int} (ha : IsMin lo a) (hb : IsMax lo b) {k : Nat} {r : Int × Int} (hr : r.1 ≤ sumL e ∧ sumL e ≤ r.2) (hI : BI r) : (bndK lo.length a b k r).1 ≤ sumL (stp x lo e).1 ∧ sumL (stp x lo e).1 ≤ (bndK lo.length a b k r).2 := by
  obtain ⟨l1, l2⟩ := lost_of hx he ha hb _ (Nat.le_refl _)
  rw [List.take_length] at l1 l2
  obtain ⟨f1, f2, f3⟩ := stp_fit hx he
  have wa := hx.lost _ ha.1
  have wb := hx.lost _ hb.1
  have p := part_le hI.1.1 wb
  have g := gone_le hI.2.1 wa
  have hn := sumL_nonneg f1.pos
  have hel := he.len
  have hlos := hx.los
  have hpos := hx.pos
  change a * sumL e ≤ 1000 * (stp x lo e).2 at l1
  change 1000 * (stp x lo e).2 ≤ b * sumL e + 999 * (e.length : Int) at l2
  have u1 : 0 ≤ (r.2 - sumL e) * (1000 - a) := Int.mul_nonneg (by omega) (by omega)
  have u2 : 0 ≤ (sumL e - r.1) * (1000 - b) := Int.mul_nonneg (by omega) (by omega)
  have e1 : (r.2 - sumL e) * (1000 - a) = 1000 * r.2 - 1000 * sumL e - r.2 * a + a * sumL e := by grind
  have e2 : (sumL e - r.1) * (1000 - b) = 1000 * sumL e - 1000 * r.1 - b * sumL e + r.1 * b := by grind
  unfold bndK
  simp only
  refine ⟨?_, ?_⟩
  · split
    · exact hn
    · omega
  · omega
theorem run_in {x : List (List Int)} {lo e : List Int} (hx : RightX x lo) (he : FitE x e) {a b : Int} (ha : IsMin lo a) (hb : IsMax lo b) : ∀ k, BI (bndN lo.length a b (sumL e) k) ∧ (bndN lo.length a b (sumL e) k).1 ≤ sumL (runN x lo e k).1 ∧ sumL (runN x lo e k).1 ≤ (bndN lo.length a b (sumL e) k).2
  | 0 => ⟨⟨⟨sumL_nonneg he.pos, he.top⟩, sumL_nonneg he.pos, he.top⟩, Int.le_refl _, Int.le_refl _⟩
  | k + 1 => by
    obtain ⟨h1, h2⟩ := run_in hx he ha hb k
    have hlen := hx.len
    have hlos := hx.los
    have hr := runN_inv hx he k
    exact ⟨h1.next k (by omega) (hx.lost _ ha.1) (hx.lost _ hb.1), step_in (k := k) hx hr.fit ha hb h2 h1⟩
end Go.Rex

open Go Go.Rex
namespace Go.Rex
set_option maxRecDepth 100000
theorem body_true {x : List (List Int)} {lo e : List Int} {y n : Int} (h : FewP x lo e) : ((ref03_CopyExchange x lo).bind fun (v8, v9) =>
        (energy_BoundOf v8 v9 y n).bind fun (v10, v11, v12) =>
        (ref03_CheckExchange x lo).bind fun (v13, v14) =>
        if (decide (v14 = 0)) = true then
          ((base_Within y 0 12000000000000).bind fun v15 =>
          if v15 = true then
            ((ref03_StepsErr n).bind fun v16 =>
            if (decide (v16 ≠ 0)) = true then
              (if (decide (v12 = v16)) = true then
                (some (([v10 == 0, v11 == 0].all id)))
              else
                (some (false)))
            else
              (if (decide (v12 ≠ 0)) = true then
                (some (false))
              else
                ((ref03_BoundOf x lo y n).bind fun (v17, v18) =>
                if ([v10 == v17, v11 == v18].all id) = true then
                  ((ref03_EnergiesErr x lo e).bind fun v19 =>
                  if (decide (v19 ≠ 0)) = true then
                    (some (true))
                  else
                    ((ref03_CopyExchange x lo).bind fun (v20, v21) =>
                    (ref03_Total e).bind fun v22 =>
                    (energy_BoundOf v20 v21 v22 n).bind fun (v23, v24, v25) =>
                    (ref03_CopyExchange x lo).bind fun (v26, v27) =>
                    (base_CopyInts e).bind fun v28 =>
                    (energy_Run v26 v27 v28 n).bind fun (v29, v30, v31) =>
                    if (decide (v25 = 0)) = true then
                      (if (decide (v31 = 0)) = true then
                        ((ref03_Total v29).bind fun v32 =>
                        (base_Within v32 v23 v24).bind fun v33 =>
                        some (v33))
                      else
                        (some (false)))
                    else
                      (some (false))))
                else
                  (some (false)))))
          else
            (if (decide (v12 = 2)) = true then
              (some (([v10 == 0, v11 == 0].all id)))
            else
              (some (false))))
        else
          (if (decide (v14 ≠ 0)) = true then
            (if (decide (v12 = v14)) = true then
              (some (([v10 == 0, v11 == 0].all id)))
            else
              (some (false)))
          else
            (if (decide (v12 ≠ 0)) = true then
              (some (false))
            else
              ((ref03_BoundOf x lo y n).bind fun (v34, v35) =>
              if ([v10 == v34, v11 == v35].all id) = true then
                ((ref03_EnergiesErr x lo e).bind fun v36 =>
                if (decide (v36 ≠ 0)) = true then
                  (some (true))
                else
                  ((ref03_CopyExchange x lo).bind fun (v37, v38) =>
                  (ref03_Total e).bind fun v39 =>
                  (energy_BoundOf v37 v38 v39 n).bind fun (v40, v41, v42) =>
                  (ref03_CopyExchange x lo).bind fun (v43, v44) =>
                  (base_CopyInts e).bind fun v45 =>
                  (energy_Run v43 v44 v45 n).bind fun (v46, v47, v48) =>
                  if (decide (v42 = 0)) = true then
                    (if (decide (v48 = 0)) = true then
                      ((ref03_Total v46).bind fun v49 =>
                      (base_Within v49 v40 v41).bind fun v50 =>
                      some (v50))
                    else
                      (some (false)))
                  else
                    (some (false))))
              else
                (some (false)))))) = some true := by
    have fin : ∀ {p q : Int}, (([p == p, q == q] : List Bool).all id) = true := fun {p q} => by simp
    rw [copyExchange h, Option.bind_some]
    try simp only
    obtain ⟨a, b, hab, hB⟩ := boundP h y n
    rw [hB, Option.bind_some]
    try simp only
    rw [chkR h, Option.bind_some]
    by_cases c : (chk x lo).2 = 0
    · have hx : RightX x lo := chk_right c
      rw [if_pos (by simpa using c), within_eq, Option.bind_some]
      by_cases cy : 0 ≤ y ∧ y ≤ 12000000000000
      · rw [if_pos (by simpa using cy), stepsR, Option.bind_some]
        by_cases cn : n < 0 ∨ n > 1000
        · have g : bndErr x lo y n = 2 := by
            unfold bndErr
            rw [if_neg (by simpa using c), if_neg (by omega), if_pos cn]
          rw [if_pos cn, if_pos (by simp)]
          simp [g]
        · have g : bndErr x lo y n = 0 := by
            unfold bndErr
            rw [if_neg (by simpa using c), if_neg (by omega), if_neg cn]
          obtain ⟨ma, mb⟩ := hab g
          simp only [g, if_true]
          rw [if_neg cn, if_neg (by simp), if_neg (by simp), boundR hx cy (by omega) ma mb, Option.bind_some]
          try simp only
          rw [if_pos fin, energiesR h, Option.bind_some]
          by_cases d : energiesErr x e = 0
          · obtain ⟨hf, _⟩ := energies_fit hx d
            have hel := hf.len
            have hx12 := hx.len
            have ht := hf.top
            have ht0 := sumL_nonneg hf.pos
            have g2 : bndErr x lo (sumL e) n = 0 := by
              unfold bndErr
              rw [if_neg (by simpa using c), if_neg (by omega), if_neg cn]
            have g3 : runErr x lo e n = 0 := by
              unfold runErr
              rw [if_neg (by simpa using c), if_neg (by simpa using d), if_neg cn]
            obtain ⟨a2, b2, hab2, hB2⟩ := boundP h (sumL e) n
            obtain ⟨ma2, mb2⟩ := hab2 g2
            obtain rfl := ma.unique ma2
            obtain rfl := mb.unique mb2
            have hr := runN_inv hx hf n.toNat
            have hrl := hr.fit.len
            have hrt := hr.fit.top
            obtain ⟨i1, i2, i3⟩ := run_in hx hf ma mb n.toNat
            rw [if_neg (by simpa using d), Option.bind_some]
            try simp only
            rw [totalR (by omega) hf.pos (by omega), Option.bind_some, hB2, Option.bind_some]
            simp only [g2, if_true]
            rw [Option.bind_some]
            try simp only
            rw [copyInts (by omega), Option.bind_some, runP h, Option.bind_some]
            simp only [g3, if_true]
            rw [if_pos (by simp), if_pos (by simp), totalR (by omega) hr.fit.pos (by omega), Option.bind_some, within_eq, Option.bind_some]
            simp [i2, i3]
          · rw [if_pos (by simpa using d)]
      · have g : bndErr x lo y n = 2 := by
          unfold bndErr
          rw [if_neg (by simpa using c), if_pos (by omega)]
        rw [if_neg (by simpa using cy)]
        simp [g]
    · have g : bndErr x lo y n = (chk x lo).2 := by
        unfold bndErr
        rw [if_pos (by simpa using c)]
      rw [if_neg (by simpa using c), if_pos (by simpa using c), g]
      simp [c]
theorem bounded_true (x : List (List Int)) (lo e : List Int) (y n : Int) : law03_EnergyBounded x lo e y n = some true := by
  unfold law03_EnergyBounded
  obtain ⟨b, hb, hfew⟩ := patches_eq x lo e
  rw [hb, Option.bind_some]
  cases b with
  | false => rw [if_neg (by simp)]
  | true =>
    have h := hfew rfl
    rw [if_pos rfl]
    by_cases c1 : n > 20
    · rw [if_pos (by simpa using c1)]
      by_cases c2 : n ≤ 1000
      · rw [if_pos (by simpa using c2)]
      · rw [if_neg (by simpa using c2)]
        exact body_true h
    · rw [if_neg (by simpa using c1)]
      exact body_true h
end Go.Rex

namespace Go.Rex
open Go Go.ChangeShapes Go.WideShapes Go.ChangeAt Go.RowKit Go.Joins Go.Proofs
/-! ### arguments: what they are as trees,and the names of their blocks -/
structure Arg (W : World) (v' : Value) (p : TV) (bs : List Blk) (is : List Info) (av : Nat → Value) : Prop where
  vr : ∀ (D : Nat → Prop) (m : NMap) n,(∀ j,j < bs.length → D (n + j)) → (∀ (j : Nat) i,is[j]? = some i → m (n + j) = i) → VR D m (av n) v'
  vl : ∀ (Fz : Nat → Prop) (h : List Blk) n,(∀ j,j < bs.length → Fz (n + j)) → (∀ (j : Nat) b,bs[j]? = some b → h[n + j]? = some b) → VL Fz h noL p (av n)
  ok : ∀ (D : Nat → Prop) (m : NMap) n,(∀ j,j < bs.length → D (n + j)) → (∀ (j : Nat) i,is[j]? = some i → m (n + j) = i) → ∀ (j : Nat) b,bs[j]? = some b → BlkOk D m W (n + j) b
  lt : ∀ (j : Nat) b i,bs[j]? = some b → is[j]? = some i → b ≠ .dead → i.block < W.heap.size
  len : is.length = bs.length
structure Args (W : World) (vs' : List Value) (ps : List TV) (bs : List Blk) (is : List Info) (av : Nat → List Value) : Prop where
  vr : ∀ (D : Nat → Prop) (m : NMap) n,(∀ j,j < bs.length → D (n + j)) → (∀ (j : Nat) i,is[j]? = some i → m (n + j) = i) → VRs D m (av n) vs'
  vl : ∀ (Fz : Nat → Prop) (h : List Blk) n,(∀ j,j < bs.length → Fz (n + j)) → (∀ (j : Nat) b,bs[j]? = some b → h[n + j]? = some b) → VLs Fz h noL ps (av n)
  ok : ∀ (D : Nat → Prop) (m : NMap) n,(∀ j,j < bs.length → D (n + j)) → (∀ (j : Nat) i,is[j]? = some i → m (n + j) = i) → ∀ (j : Nat) b,bs[j]? = some b → BlkOk D m W (n + j) b
  lt : ∀ (j : Nat) b i,bs[j]? = some b → is[j]? = some i → b ≠ .dead → i.block < W.heap.size
  len : is.length = bs.length
theorem Args.nil (W : World) : Args W [] [] [] [] (fun _=>[]) :=
  ⟨fun _ _ _ _ _=>⟨rfl,fun i a a' h=>by simp at h⟩,fun _ _ _ _ _=>.nil,fun _ _ _ _ _ j b h=>by simp at h,fun j b i h=>by simp at h,rfl⟩
theorem Args.cons {W : World} {v' : Value} {p : TV} {bs bs2 : List Blk} {is is2 : List Info} {av : Nat → Value} {vs' : List Value} {ps : List TV} {avs : Nat → List Value}
    (a : Arg W v' p bs is av) (az : Args W vs' ps bs2 is2 avs) : Args W (v' :: vs') (p :: ps) (bs ++ bs2) (is ++ is2) (fun n=>av n :: avs (n + bs.length)):=by
  have cD : ∀ (D : Nat → Prop) n,(∀ j,j < (bs ++ bs2).length → D (n + j)) → (∀ j,j < bs.length → D (n + j)) ∧ (∀ j,j < bs2.length → D (n + bs.length + j)):=by
    intro D n h
    refine ⟨fun j hj=>h j (by simp;omega),fun j hj=>?_⟩
    have:=h (bs.length + j) (by simp;omega)
    rwa [← Nat.add_assoc] at this
  have cI : ∀ (m : NMap) n,(∀ (j : Nat) i,(is ++ is2)[j]? = some i → m (n + j) = i) → (∀ (j : Nat) i,is[j]? = some i → m (n + j) = i) ∧ (∀ (j : Nat) i,is2[j]? = some i → m (n + bs.length + j) = i):=by
    intro m n h
    refine ⟨fun j i hj=>h j i (by rw [List.getElem?_append_left (List.getElem?_eq_some_iff.1 hj).1];exact hj),fun j i hj=>?_⟩
    have:=h (bs.length + j) i (by rw [List.getElem?_append_right (by rw [a.len];omega),a.len,Nat.add_sub_cancel_left];exact hj)
    rwa [← Nat.add_assoc] at this
  refine ⟨fun D m n hD hm=>?_,fun Fz h n hF hh=>?_,fun D m n hD hm j b hb=>?_,fun j b i hb hi hd=>?_,by simp [a.len,az.len]⟩
  · have h1:=a.vr D m n (cD D n hD).1 (cI m n hm).1
    have h2:=az.vr D m (n + bs.length) (cD D n hD).2 (cI m n hm).2
    refine ⟨by simp [h2.len],fun i x x' hx hx'=>?_⟩
    cases i with
    | zero=>simp at hx hx';subst hx hx';exact h1
    | succ i=>simp at hx hx';exact h2.at' i x x' hx hx'
  · refine .cons (a.vl Fz h n (cD Fz n hF).1 fun j b hb=>hh j b (by rw [List.getElem?_append_left (List.getElem?_eq_some_iff.1 hb).1];exact hb)) (az.vl Fz h (n + bs.length) (cD Fz n hF).2 fun j b hb=>?_)
    have:=hh (bs.length + j) b (by rw [List.getElem?_append_right (by omega),Nat.add_sub_cancel_left];exact hb)
    rwa [← Nat.add_assoc] at this
  · rcases Nat.lt_or_ge j bs.length with hj|hj
    · rw [List.getElem?_append_left hj] at hb
      exact a.ok D m n (cD D n hD).1 (cI m n hm).1 j b hb
    · rw [List.getElem?_append_right hj] at hb
      have:=az.ok D m (n + bs.length) (cD D n hD).2 (cI m n hm).2 _ b hb
      rwa [show n + bs.length + (j - bs.length) = n + j by omega] at this
  · rcases Nat.lt_or_ge j bs.length with hj|hj
    · rw [List.getElem?_append_left hj] at hb
      rw [List.getElem?_append_left (by rw [a.len];exact hj)] at hi
      exact a.lt j b i hb hi hd
    · rw [List.getElem?_append_right hj] at hb
      rw [List.getElem?_append_right (by rw [a.len];exact hj),a.len] at hi
      exact az.lt _ b i hb hi hd
/-- the names of the arguments -/
def nm (is : List Info) : NMap:=fun n=>is.getD n ⟨0,0,0,0⟩
theorem nm_at {is : List Info} {j : Nat} {i : Info} (h : is[j]? = some i) : nm is (0 + j) = i:=by
  unfold nm
  rw [Nat.zero_add,List.getD_eq_getElem?_getD,h]
  rfl
section
variable {W : World} {vs' : List Value} {ps : List TV} {bs : List Blk} {is : List Info} {av : Nat → List Value}
theorem Args.rel (a : Args W vs' ps bs is av) : Rel W.heap.size bs.length (fun k=>k < bs.length) (nm is) bs W:=by
  refine ⟨Nat.le_refl _,fun _ h=>h,fun n b hn hb=>?_,fun n b hn hb hd=>?_,fun n b hD hl=>absurd hD (by omega),fun n b hn _ hb hd=>?_,fun n b hD hl=>absurd hD (by omega),fun n n' b b' hD _ hl=>absurd hD (by omega)⟩
  · have:=a.ok (fun k=>k < bs.length) (nm is) 0 (fun j hj=>by omega) (fun j i hi=>nm_at hi) n b hb
    rwa [Nat.zero_add] at this
  all_goals
    have hi : n < is.length:=by rw [a.len];exact hn
    have e:=nm_at (List.getElem?_eq_getElem hi)
    rw [Nat.zero_add] at e
    rw [e]
    exact a.lt n b _ hb (List.getElem?_eq_getElem hi) hd
theorem Args.vls (a : Args W vs' ps bs is av) : VLs (fun k=>k < bs.length) bs noL ps (av 0):=a.vl _ _ 0 (fun j hj=>by omega) (fun j b hb=>by rw [Nat.zero_add];exact hb)
theorem Args.vrs (a : Args W vs' ps bs is av) : VRs (fun k=>k < bs.length) (nm is) (av 0) vs':=a.vr _ _ 0 (fun j hj=>by omega) (fun j i hi=>nm_at hi)
end
theorem len1 {α : Type} {l : List α} (h : l.length = 1) : ∃ x0,l = [x0]:=by
  match l,h with
  | [x0],_=>exact ⟨_,rfl⟩
theorem len2 {α : Type} {l : List α} (h : l.length = 2) : ∃ x0 x1,l = [x0,x1]:=by
  match l,h with
  | [x0,x1],_=>exact ⟨_,_,rfl⟩
/-! ### arguments without names -/
def AtomV (c : Value) : Prop:=isAtom c = true ∧ ∀ D m,VR D m c c
theorem atomV_int (k : IntKind) (n : Int) : AtomV (.int k n):=⟨rfl,fun _ _=>.int _ _⟩
theorem Arg.atom {W : World} {v : Value} (h : AtomV v) : Arg W v (.v v) [] [] (fun _=>v) :=
  ⟨fun _ _ _ _ _=>h.2 _ _,fun _ _ _ _ _=>.v _ _ h.1,fun _ _ _ _ _ j b h=>by simp at h,fun j b i h=>by simp at h,rfl⟩
theorem Arg.agg {W : World} {l : List Value} (h : ∀ c ∈ l,AtomV c) : Arg W (.agg ⟨l⟩) (.agg (l.map .v)) [] [] (fun _=>.agg ⟨l⟩):=by
  refine ⟨fun _ _ _ _ _=>.agg _ _ rfl fun i v v' hv hv'=>?_,fun _ _ _ _ _=>.agg _ _ _ (by simp) fun i p x hp hx=>?_,fun _ _ _ _ _ j b h=>by simp at h,fun j b i h=>by simp at h,rfl⟩
  · obtain rfl : v = v':=Option.some.inj (hv.symm.trans hv')
    exact (h v (List.mem_of_getElem? hv)).2 _ _
  · rw [List.getElem?_map,hx] at hp
    obtain rfl:=Option.some.inj hp
    exact .v _ _ (h x (List.mem_of_getElem? hx)).1
/-! ### a slice of rows -/
theorem flatMap_at {α β : Type} {g : α → List β} {es : Nat} (hg : ∀ x,(g x).length = es) (he : 0 < es) : ∀ (xs : List α) i,(xs.flatMap g)[i]? = (xs[i / es]?).bind fun x=>(g x)[i % es]?
  | [],i=>by simp
  | x :: t,i=>by
    rw [List.flatMap_cons]
    rcases Nat.lt_or_ge i es with h|h
    · rw [List.getElem?_append_left (by rw [hg];exact h),Nat.div_eq_of_lt h,Nat.mod_eq_of_lt h]
      rfl
    · rw [List.getElem?_append_right (by rw [hg];exact h),hg,flatMap_at hg he t (i - es)]
      have e1 : i / es = (i - es) / es + 1:=by rw [Nat.div_eq_sub_div he h]
      have e2 : i % es = (i - es) % es:=Nat.mod_eq_sub_mod h
      rw [e1,e2]
      rfl
theorem flatMap_len {α β : Type} {g : α → List β} {es : Nat} (hg : ∀ x,(g x).length = es) : ∀ (xs : List α),(xs.flatMap g).length = xs.length * es
  | []=>by simp
  | x :: t=>by rw [List.flatMap_cons,List.length_append,hg,flatMap_len hg t,List.length_cons,Nat.add_mul];omega
theorem flatMap_map {α : Type} {f : α → List TV} {g : α → List Value} (hf : ∀ x,f x = (g x).map .v) : ∀ (xs : List α),(xs.map f).flatten = (xs.flatMap g).map .v
  | []=>rfl
  | x :: t=>by rw [List.map_cons,List.flatten_cons,flatMap_map hf t,List.flatMap_cons,List.map_append,hf]
theorem choose_list {α : Type} {Q : Nat → α → Prop} : ∀ n,(∀ i,i < n → ∃ x,Q i x) → ∃ xs : List α,xs.length = n ∧ ∀ (i : Nat) x,xs[i]? = some x → Q i x
  | 0,_=>⟨[],rfl,fun i x h=>by simp at h⟩
  | n + 1,h=>by
    obtain ⟨xs,hl,hq⟩:=choose_list n (fun i hi=>h i (by omega))
    obtain ⟨x,hx⟩:=h n (by omega)
    refine ⟨xs ++ [x],by simp [hl],fun i y hy=>?_⟩
    rcases Nat.lt_or_ge i n with hi|hi
    · rw [List.getElem?_append_left (by omega)] at hy
      exact hq i y hy
    · rw [List.getElem?_append_right (by omega),hl] at hy
      have : i = n:=by
        rcases Nat.lt_or_ge 0 (i - n) with g|g
        · rw [List.getElem?_eq_none (by simp;omega)] at hy;cases hy
        · omega
      subst this
      simp at hy
      subst hy
      exact hx
section
variable {H : Type} {enc : TypeId × Value → H} {W : World} {base : Nat} {spare : Nat → Bool} {held : Bool}
theorem open_rowsC {α : Type} {f : α → List TV} {g : α → List Value} {es : Nat} (he : 0 < es) (hf : ∀ x, f x = (g x).map .v) (hg : ∀ x, (g x).length = es) (hat : ∀ x, ∀ c ∈ g x, AtomV c)
    {P : Program} {t te : TypeId} (ht : P.underlying t = some (.slice te)) (hC : P.cellsOf te = es) {r : Reach} {b0 : Nat} {v' : Value} (hval : Cell.okWide P W r b0 t v')
    (elem : ∀ n cs y,DataW.trod enc P W base spare held n te cs = some y → cs.length = es → ∃ x : α,cs = g x)
    {fuel : Nat} {x : DataW H × List MemPlace} (h : DataW.trod enc P W base spare held fuel t [v'] = some x) : ∃ (xs : List α) (bs : List Blk) (is : List Info) (av : Nat → Value),Arg W v' (.list es (xs.map f)) bs is av:=by
  rcases DataW.trod_slice ht h with ⟨hv,_⟩|⟨a,len,cap,elems,rest,n,_,hv,_,hb,hlc,hcm,hel,hel2,_,_⟩
  · obtain rfl : v' = .slice none 0 0:=by simpa using hv
    exact ⟨[],[],[],fun _=>.slice none 0 0,fun _ _ _ _ _=>.nilSlice 0 0,fun _ _ _ _ _=>.nillist _ _,fun _ _ _ _ _ j b h=>by simp at h,fun j b i h=>by simp at h,rfl⟩
  · obtain rfl : v' = .slice (some a) len cap:=by simpa using hv
    have hok : len ≤ cap ∧ (cap : Int) ≤ IntKind.i64.max ∧ W.has P r b0 a te cap:=by
      unfold Cell.okWide at hval
      simp only [ht] at hval
      unfold Cell.ok at hval
      simpa only [ht] using hval
    obtain ⟨gb,o,s⟩:=a
    obtain ⟨_,_,_,hs,row,cells,hsh,_⟩:=hok
    simp only at hs hsh
    subst hs
    have hgb : gb < W.heap.size:=by
      unfold World.shape? at hsh
      rcases Nat.lt_or_ge gb W.heap.size with hg|hg
      · exact hg
      · rw [Array.getElem?_eq_none hg] at hsh
        simp at hsh
    have key : ∀ i,i < len → ∃ x : α,∀ j,j < es → W.cell? ⟨gb,o + i * es + j,none⟩ = (g x)[j]?:=fun i hi=>by
      have h1:=hel2 i hi
      rw [List.getElem?_eq_getElem (by omega),Option.bind_eq_some_iff] at h1
      obtain ⟨cs,hcs,htr⟩:=h1
      rw [hC] at hcs
      unfold World.cells? at hcs
      split at hcs
      · have hlen:=mapM_some_length hcs
        simp at hlen
        obtain ⟨x,rfl⟩:=elem n cs _ htr hlen
        refine ⟨x,fun j hj=>?_⟩
        have:=mapM_some_get hcs j j (by simp [hj])
        have e : ((⟨gb,o,none⟩ : Addr).add (i * es)).add j = ⟨gb,o + i * es + j,none⟩:=by
          unfold Addr.add
          split<;>split<;>simp_all
        rw [← e]
        exact this
      · cases hcs
    obtain ⟨xs,hl,hq⟩:=choose_list len key
    subst hl
    have hlen:=flatMap_len hg xs
    have hfl:=flatMap_map hf xs
    refine ⟨xs,[.cells es (xs.flatMap g)],[⟨gb,o,cap * es,es⟩],fun n=>.slice (some ⟨n,0,none⟩) xs.length xs.length,fun D m n hD hm=>?_,fun Fz h n hF hh=>?_,fun D m n hD hm j b hb=>?_,fun j b i hb hi hd=>?_,rfl⟩
    · have e:=hm 0 _ rfl
      rw [Nat.add_zero] at e
      have:=VR.slice (D:=D) (m:=m) n 0 xs.length xs.length cap (hD 0 (by simp)) (Nat.le_refl _) hlc (.inr (by rw [e];simp))
      rw [e] at this
      exact this
    · have hw : ∀ r ∈ xs.map f,r.length = es:=fun r hr=>by obtain ⟨x,_,rfl⟩:=List.mem_map.1 hr;rw [hf,List.length_map,hg]
      have:=VL.list (Fz:=Fz) (h:=h) noL es (xs.map f) n 0 xs.length (xs.flatMap g) es (hF 0 (by simp)) (hh 0 _ rfl) (.inl rfl) hw (by simp) (by rw [List.length_map,hlen];omega) (fun j p x hp hx=>by
        rw [hfl,List.getElem?_map,Option.map_eq_some_iff] at hp
        rw [Nat.zero_add] at hx
        obtain ⟨y,h1,rfl⟩:=hp
        obtain rfl : y = x:=Option.some.inj (h1.symm.trans hx)
        obtain ⟨z,_,hz⟩:=List.mem_flatMap.1 (List.mem_of_getElem? hx)
        exact .v _ _ (hat z y hz).1)
      rw [List.length_map] at this
      exact this
    · match j,hb with
      | 0,hb =>
        obtain rfl:=Option.some.inj hb
        have e:=hm 0 _ rfl
        rw [Nat.add_zero] at e ⊢
        refine ⟨by rw [e],fun i v hv=>⟨v,?_,?_⟩⟩
        · rw [flatMap_at hg he,Option.bind_eq_some_iff] at hv
          obtain ⟨x,hx,hv⟩:=hv
          rw [e]
          have:=hq _ x hx (i % es) (Nat.mod_lt _ he)
          rw [Nat.add_assoc,Nat.mul_comm,Nat.div_add_mod] at this
          rw [this]
          exact hv
        · obtain ⟨z,_,hz⟩:=List.mem_flatMap.1 (List.mem_of_getElem? hv)
          exact (hat z v hz).2 _ _
      | j + 1,hb=>simp at hb
    · match j,hb,hi with
      | 0, hb, hi => obtain rfl := Option.some.inj hi
                     exact hgb
      | j + 1,hb,hi=>simp at hb
theorem open_rows {α : Type} {f : α → List TV} {g : α → List Value} {es : Nat} (he : 0 < es) (hf : ∀ x, f x = (g x).map .v) (hg : ∀ x, (g x).length = es) (hat : ∀ x, ∀ c ∈ g x, AtomV c)
    {P : Program} {t te : TypeId} (ht : P.underlying t = some (.slice te)) (hC : P.cellsOf te = es) {r : Reach} {b0 : Nat} {v' : Value} (hval : Value.okWide P W r b0 t v')
    (elem : ∀ n cs y,DataW.trod enc P W base spare held n te cs = some y → cs.length = es → ∃ x : α,cs = g x)
    {fuel : Nat} {x : DataW H × List MemPlace} (h : DataW.trod enc P W base spare held fuel t [v'] = some x) : ∃ (xs : List α) (bs : List Blk) (is : List Info) (av : Nat → Value),Arg W v' (.list es (xs.map f)) bs is av:=by
  refine open_rowsC he hf hg hat ht hC (r:=r) (b0:=b0) ?_ elem h
  unfold Value.okWide at hval
  simpa only [ht] using hval
/-! ### aggregates of ints -/
def AI (cs : List Value) : Prop:=∀ c ∈ cs,∃ n : Int,c = .int .i64 n
theorem AI.list {cs : List Value} (h : AI cs) : ∃ l : List Int,cs = l.map (.int .i64):=by
  induction cs with
  | nil=>exact ⟨[],rfl⟩
  | cons c t ih =>
    obtain ⟨n,rfl⟩:=h c (by simp)
    obtain ⟨l,rfl⟩:=ih fun c hc=>h c (by simp [hc])
    exact ⟨n :: l,rfl⟩
variable {P : Program}
theorem ai_int {te : TypeId} (ht : P.underlying te = some (.int .i64)) {fuel : Nat} {cs : List Value} {x : DataW H × List MemPlace} (h : DataW.trod enc P W base spare held fuel te cs = some x) : AI cs:=by
  obtain ⟨n,rfl,_⟩:=DataW.trod_int ht h
  exact fun c hc=>⟨n,by simpa using hc⟩
theorem okW_int {t : TypeId} (ht : P.underlying t = some (.int .i64)) {r : Reach} {b : Nat} {v : Value} (w : Cell.okWide P W r b t v) : ∃ n : Int,v = .int .i64 n:=by
  unfold Cell.okWide at w
  simp only [ht] at w
  unfold Cell.ok at w
  simp only [ht] at w
  cases v<;>first|exact ⟨_,by rw [w.1]⟩|exact absurd w (by simp)
theorem open_ari {t ti e : TypeId} {k n : Nat} (ht : P.underlying t = some (.array k e)) (hti : P.underlying ti = some (.int .i64)) (hct : P.cellTypes P.depth t = some (List.replicate n ti)) (hn : P.cellsOf t = n)
    {r : Reach} {b : Nat} {v : Value} (w : Value.okWide P W r b t v) : ∃ l : List Int,l.length = n ∧ v = .agg ⟨l.map (.int .i64)⟩:=by
  unfold Value.okWide at w
  simp only [ht] at w
  obtain ⟨cs,rfl,hs,ts,hts,_,hc⟩:=w
  rw [hct] at hts
  obtain rfl:=Option.some.inj hts
  obtain ⟨l⟩:=cs
  have : AI l:=by
    intro c hcm
    obtain ⟨j,hj,rfl⟩:=List.mem_iff_getElem.1 hcm
    obtain ⟨u,hu,hok⟩:=hc j l[j] (by simp)
    have:=List.eq_of_mem_replicate (List.mem_of_getElem? hu)
    subst this
    exact okW_int hti hok
  obtain ⟨l',rfl⟩:=this.list
  refine ⟨l',?_,rfl⟩
  simpa [hn] using hs
theorem arg_ints (l : List Int) : Arg W (.agg ⟨l.map (.int .i64)⟩) (.agg (l.map fun x=>.v (.int .i64 x))) [] [] (fun _=>.agg ⟨l.map (.int .i64)⟩):=by
  have:=Arg.agg (W:=W) (l:=l.map (.int .i64)) fun c hc=>by obtain ⟨x,_,rfl⟩:=List.mem_map.1 hc;exact atomV_int _ _
  rwa [List.map_map] at this
theorem Arg.ofArgs {cs : List Value} {ps : List TV} {bs : List Blk} {is : List Info} {av : Nat → List Value} (a : Args W cs ps bs is av) : Arg W (.agg ⟨cs⟩) (.agg ps) bs is (fun n=>.agg ⟨av n⟩) :=
  ⟨fun D m n hD hm=>.agg' (a.vr D m n hD hm),fun Fz h n hF hh=>.agg' (a.vl Fz h n hF hh),a.ok,a.lt,a.len⟩
theorem open_cells {t : TypeId} {fs : Array Field} {ts : List TypeId} (ht : P.underlying t = some (.struct fs)) (hct : P.cellTypes P.depth t = some ts) (hn : P.cellsOf t = ts.length) {r : Reach} {b : Nat} {v : Value} (w : Value.okWide P W r b t v) :
    ∃ cs : List Value,v = .agg ⟨cs⟩ ∧ cs.length = ts.length ∧ ∀ (j : Nat) c u,cs[j]? = some c → ts[j]? = some u → Cell.okWide P W r b u c:=by
  unfold Value.okWide at w
  simp only [ht] at w
  obtain ⟨cs,rfl,hs,ts',hts,_,hc⟩:=w
  rw [hct] at hts
  obtain rfl:=Option.some.inj hts
  obtain ⟨l⟩:=cs
  have hl : l.length = ts.length:=by simpa [hn] using hs
  refine ⟨l,rfl,hl,fun j c u hj hu=>?_⟩
  obtain ⟨u',hu',hok⟩:=hc j c (by simpa using hj)
  rw [Nat.mod_eq_of_lt (by have:=(List.getElem?_eq_some_iff.1 hj).1;omega)] at hu'
  obtain rfl:=Option.some.inj (hu.symm.trans hu')
  exact hok
theorem st_field {t : TypeId} {fs : Array Field} {i : Nat} {f : Field} (ht : P.underlying t = some (.struct fs)) (hf : fs[i]? = some f) {fuel : Nat} {cs : List Value} {x : DataW H × List MemPlace} (h : DataW.trod enc P W base spare held fuel t cs = some x) :
    ∃ n y,DataW.trod enc P W base spare held n f.type ((cs.drop f.offset).take (P.cellsOf f.type)) = some y:=by
  obtain ⟨xs,n,_,_,hl,hx,hi⟩:=DataW.trod_struct ht h
  have:=hi i f hf
  have hil : i < fs.size:=(Array.getElem?_eq_some_iff.1 hf).1
  rw [List.getElem?_eq_getElem (by omega)] at this
  exact ⟨n,_,this⟩
end
end Go.Rex

namespace Go.Rex
open Go Go.ChangeShapes Go.WideShapes Go.ChangeAt Go.RowKit Go.Joins Go.Proofs
/-! ### arguments whose blocks name one another: lists of lists -/
structure NArg (W : World) (v' : Value) (p : TV) (bs : Nat → List Blk) (is : List Info) (av : Nat → Value) : Prop where
  vr : ∀ (D : Nat → Prop) (m : NMap) n,(∀ j,j < is.length → D (n + j)) → (∀ (j : Nat) i,is[j]? = some i → m (n + j) = i) → VR D m (av n) v'
  vl : ∀ (Fz : Nat → Prop) (h : List Blk) n,(∀ j,j < is.length → Fz (n + j)) → (∀ (j : Nat) b,(bs n)[j]? = some b → h[n + j]? = some b) → VL Fz h noL p (av n)
  ok : ∀ (D : Nat → Prop) (m : NMap) n,(∀ j,j < is.length → D (n + j)) → (∀ (j : Nat) i,is[j]? = some i → m (n + j) = i) → ∀ (j : Nat) b,(bs n)[j]? = some b → BlkOk D m W (n + j) b
  lt : ∀ n (j : Nat) b i,(bs n)[j]? = some b → is[j]? = some i → b ≠ .dead → i.block < W.heap.size
  len : ∀ n,(bs n).length = is.length
structure NArgs (W : World) (vs' : List Value) (ps : List TV) (bs : Nat → List Blk) (is : List Info) (av : Nat → List Value) : Prop where
  vr : ∀ (D : Nat → Prop) (m : NMap) n,(∀ j,j < is.length → D (n + j)) → (∀ (j : Nat) i,is[j]? = some i → m (n + j) = i) → VRs D m (av n) vs'
  vl : ∀ (Fz : Nat → Prop) (h : List Blk) n,(∀ j,j < is.length → Fz (n + j)) → (∀ (j : Nat) b,(bs n)[j]? = some b → h[n + j]? = some b) → VLs Fz h noL ps (av n)
  ok : ∀ (D : Nat → Prop) (m : NMap) n,(∀ j,j < is.length → D (n + j)) → (∀ (j : Nat) i,is[j]? = some i → m (n + j) = i) → ∀ (j : Nat) b,(bs n)[j]? = some b → BlkOk D m W (n + j) b
  lt : ∀ n (j : Nat) b i,(bs n)[j]? = some b → is[j]? = some i → b ≠ .dead → i.block < W.heap.size
  len : ∀ n,(bs n).length = is.length
theorem Arg.n {W : World} {v' : Value} {p : TV} {bs : List Blk} {is : List Info} {av : Nat → Value} (a : Arg W v' p bs is av) : NArg W v' p (fun _=>bs) is av :=
  ⟨fun D m n hD hm=>a.vr D m n (by rw [← a.len];exact hD) hm,fun Fz h n hF hh=>a.vl Fz h n (by rw [← a.len];exact hF) hh,fun D m n hD hm=>a.ok D m n (by rw [← a.len];exact hD) hm,fun _=>a.lt,fun _=>a.len.symm⟩
theorem NArgs.nil (W : World) : NArgs W [] [] (fun _=>[]) [] (fun _=>[]) :=
  ⟨fun _ _ _ _ _=>⟨rfl,fun i a a' h=>by simp at h⟩,fun _ _ _ _ _=>.nil,fun _ _ _ _ _ j b h=>by simp at h,fun _ j b i h=>by simp at h,fun _=>rfl⟩
theorem NArgs.cons {W : World} {v' : Value} {p : TV} {bs bs2 : Nat → List Blk} {is is2 : List Info} {av : Nat → Value} {vs' : List Value} {ps : List TV} {avs : Nat → List Value}
    (a : NArg W v' p bs is av) (az : NArgs W vs' ps bs2 is2 avs) : NArgs W (v' :: vs') (p :: ps) (fun n=>bs n ++ bs2 (n + is.length)) (is ++ is2) (fun n=>av n :: avs (n + is.length)):=by
  have cD : ∀ (D : Nat → Prop) n,(∀ j,j < (is ++ is2).length → D (n + j)) → (∀ j,j < is.length → D (n + j)) ∧ (∀ j,j < is2.length → D (n + is.length + j)):=by
    intro D n h
    refine ⟨fun j hj=>h j (by simp;omega),fun j hj=>?_⟩
    have:=h (is.length + j) (by simp;omega)
    rwa [← Nat.add_assoc] at this
  have cI : ∀ (m : NMap) n,(∀ (j : Nat) i,(is ++ is2)[j]? = some i → m (n + j) = i) → (∀ (j : Nat) i,is[j]? = some i → m (n + j) = i) ∧ (∀ (j : Nat) i,is2[j]? = some i → m (n + is.length + j) = i):=by
    intro m n h
    refine ⟨fun j i hj=>h j i (by rw [List.getElem?_append_left (List.getElem?_eq_some_iff.1 hj).1];exact hj),fun j i hj=>?_⟩
    have:=h (is.length + j) i (by rw [List.getElem?_append_right (by omega),Nat.add_sub_cancel_left];exact hj)
    rwa [← Nat.add_assoc] at this
  refine ⟨fun D m n hD hm=>?_,fun Fz h n hF hh=>?_,fun D m n hD hm j b hb=>?_,fun n j b i hb hi hd=>?_,fun n=>by simp [a.len,az.len]⟩
  · have h1:=a.vr D m n (cD D n hD).1 (cI m n hm).1
    have h2:=az.vr D m (n + is.length) (cD D n hD).2 (cI m n hm).2
    refine ⟨by simp [h2.len],fun i x x' hx hx'=>?_⟩
    cases i with
    | zero=>simp at hx hx';subst hx hx';exact h1
    | succ i=>simp at hx hx';exact h2.at' i x x' hx hx'
  · refine .cons (a.vl Fz h n (cD Fz n hF).1 fun j b hb=>hh j b (by rw [List.getElem?_append_left (List.getElem?_eq_some_iff.1 hb).1];exact hb)) (az.vl Fz h (n + is.length) (cD Fz n hF).2 fun j b hb=>?_)
    have:=hh (is.length + j) b (by rw [List.getElem?_append_right (by rw [a.len];omega),a.len,Nat.add_sub_cancel_left];exact hb)
    rwa [← Nat.add_assoc] at this
  · rcases Nat.lt_or_ge j is.length with hj|hj
    · rw [List.getElem?_append_left (by rw [a.len];exact hj)] at hb
      exact a.ok D m n (cD D n hD).1 (cI m n hm).1 j b hb
    · rw [List.getElem?_append_right (by rw [a.len];exact hj),a.len] at hb
      have:=az.ok D m (n + is.length) (cD D n hD).2 (cI m n hm).2 _ b hb
      rwa [show n + is.length + (j - is.length) = n + j by omega] at this
  · rcases Nat.lt_or_ge j is.length with hj|hj
    · rw [List.getElem?_append_left (by rw [a.len];exact hj)] at hb
      rw [List.getElem?_append_left hj] at hi
      exact a.lt n j b i hb hi hd
    · rw [List.getElem?_append_right (by rw [a.len];exact hj),a.len] at hb
      rw [List.getElem?_append_right hj] at hi
      exact az.lt _ _ b i hb hi hd
section
variable {W : World} {vs' : List Value} {ps : List TV} {bs : Nat → List Blk} {is : List Info} {av : Nat → List Value}
theorem NArgs.rel (a : NArgs W vs' ps bs is av) : Rel W.heap.size (bs 0).length (fun k=>k < (bs 0).length) (nm is) (bs 0) W:=by
  have hl:=a.len 0
  refine ⟨Nat.le_refl _,fun _ h=>h,fun n b hn hb=>?_,fun n b hn hb hd=>?_,fun n b hD hl=>absurd hD (by omega),fun n b hn _ hb hd=>?_,fun n b hD hl=>absurd hD (by omega),fun n n' b b' hD _ hl=>absurd hD (by omega)⟩
  · have:=a.ok (fun k=>k < (bs 0).length) (nm is) 0 (fun j hj=>by omega) (fun j i hi=>nm_at hi) n b hb
    rwa [Nat.zero_add] at this
  all_goals
    have hi : n < is.length:=by omega
    have e:=nm_at (List.getElem?_eq_getElem hi)
    rw [Nat.zero_add] at e
    rw [e]
    exact a.lt 0 n b _ hb (List.getElem?_eq_getElem hi) hd
theorem NArgs.vls (a : NArgs W vs' ps bs is av) : VLs (fun k=>k < (bs 0).length) (bs 0) noL ps (av 0):=a.vl _ _ 0 (fun j hj=>by have:=a.len 0;omega) (fun j b hb=>by rw [Nat.zero_add];exact hb)
theorem NArgs.vrs (a : NArgs W vs' ps bs is av) : VRs (fun k=>k < (bs 0).length) (nm is) (av 0) vs':=a.vr _ _ 0 (fun j hj=>by have:=a.len 0;omega) (fun j i hi=>nm_at hi)
theorem NArg.ofArgs (a : NArgs W vs' ps bs is av) : NArg W (.agg ⟨vs'⟩) (.agg ps) bs is (fun n=>.agg ⟨av n⟩) :=
  ⟨fun D m n hD hm=>.agg' (a.vr D m n hD hm),fun Fz h n hF hh=>.agg' (a.vl Fz h n hF hh),a.ok,a.lt,a.len⟩
/-- many arguments of a kind -/
theorem nargs_list {α : Type} {F : α → TV} : ∀ (vs' : List Value), (∀ c ∈ vs', ∃ (x : α) (bs : Nat → List Blk) (is : List Info) (av : Nat → Value), NArg W c (F x) bs is av) →
    ∃ (xs : List α) (bs : Nat → List Blk) (is : List Info) (av : Nat → List Value),xs.length = vs'.length ∧ NArgs W vs' (xs.map F) bs is av
  | [],_=>⟨[],_,_,_,rfl,NArgs.nil W⟩
  | c :: t,h=>by
    obtain ⟨xs,_,_,_,hl,a⟩:=nargs_list t (fun c hc=>h c (by simp [hc]))
    obtain ⟨x,_,_,_,b⟩:=h c (by simp)
    exact ⟨x :: xs,_,_,_,by simp [hl],NArgs.cons b a⟩
end
section
variable {H : Type} {enc : TypeId × Value → H} {W : World} {base : Nat} {spare : Nat → Bool} {held : Bool}
theorem cells_spot {gb : Nat} {o : Nat} {s : Option Nat} {k : Nat} {v : Value} (h : W.cell? ⟨gb,o + k,s⟩ = some v) : s = none ∧ gb < W.heap.size:=by
  unfold World.cell? at h
  split at h
  · rename_i hb
    refine ⟨?_,?_⟩
    · cases s with
      | none=>rfl
      | some s=>simp at h
    · rcases Nat.lt_or_ge gb W.heap.size with hg|hg
      · exact hg
      · rw [Array.getElem?_eq_none hg] at hb
        cases hb
  · cases h
/-- a slice that can be read: a row of values that can be read -/
theorem open_any {P : Program} {t te : TypeId} (ht : P.underlying t = some (.slice te)) {es : Nat} (he : 0 < es) (hC : P.cellsOf te = es) {v' : Value} {fuel : Nat} {x : DataW H × List MemPlace} (h : DataW.trod enc P W base spare held fuel t [v'] = some x) :
    v' = .slice none 0 0 ∨ (∃ a c,v' = .slice (some a) 0 c) ∨ ∃ gb o len cap n,v' = .slice (some ⟨gb,o,none⟩) len cap ∧ 0 < len ∧ len ≤ cap ∧ gb < W.heap.size ∧
      ∀ i,i < len → ∃ cs y,cs.length = es ∧ DataW.trod enc P W base spare held n te cs = some y ∧ ∀ j,j < es → W.cell? ⟨gb,o + i * es + j,none⟩ = cs[j]?:=by
  rcases DataW.trod_slice ht h with ⟨hv,_⟩|⟨a,len,cap,elems,rest,n,_,hv,_,hb,hlc,hcm,hel,hel2,_,_⟩
  · exact .inl (by simpa using hv)
  · obtain rfl : v' = .slice (some a) len cap:=by simpa using hv
    rcases Nat.eq_zero_or_pos len with h0|h0
    · subst h0
      exact .inr (.inl ⟨a,cap,rfl⟩)
    · obtain ⟨gb,o,s⟩:=a
      have first : s = none ∧ gb < W.heap.size:=by
        have h1:=hel2 0 h0
        rw [List.getElem?_eq_getElem (by omega),Option.bind_eq_some_iff] at h1
        obtain ⟨cs,hcs,htr⟩:=h1
        rw [hC] at hcs
        unfold World.cells? at hcs
        split at hcs
        · have hlen:=mapM_some_length hcs
          simp at hlen
          have h2:=mapM_some_get hcs 0 0 (by simp [he])
          have e : ((⟨gb,o,s⟩ : Addr).add (0 * es)).add 0 = ⟨gb,o + 0,s⟩:=by simp [Addr.add]
          rw [e] at h2
          exact cells_spot (h2.trans (List.getElem?_eq_getElem (by omega)))
        · cases hcs
      obtain ⟨rfl,hgb⟩:=first
      refine .inr (.inr ⟨gb,o,len,cap,n,rfl,h0,hlc,hgb,fun i hi=>?_⟩)
      have h1:=hel2 i hi
      rw [List.getElem?_eq_getElem (by omega),Option.bind_eq_some_iff] at h1
      obtain ⟨cs,hcs,htr⟩:=h1
      rw [hC] at hcs
      unfold World.cells? at hcs
      split at hcs
      · have hlen:=mapM_some_length hcs
        simp at hlen
        refine ⟨cs,_,hlen,htr,fun j hj=>?_⟩
        have:=mapM_some_get hcs j j (by simp [hj])
        have e : ((⟨gb,o,none⟩ : Addr).add (i * es)).add j = ⟨gb,o + i * es + j,none⟩:=by
          unfold Addr.add
          split<;>split<;>simp_all
        rw [← e]
        exact this
      · cases hcs
/-- a slice of what can be read az trees -/
theorem open_lists {α : Type} {F : α → TV} {P : Program} {t te : TypeId} (ht : P.underlying t = some (.slice te)) (hC : P.cellsOf te = 1)
    (elem : ∀ n c y,DataW.trod enc P W base spare held n te [c] = some y → ∃ (x : α) (bs : Nat → List Blk) (is : List Info) (av : Nat → Value),NArg W c (F x) bs is av)
    {v' : Value} {fuel : Nat} {x : DataW H × List MemPlace} (h : DataW.trod enc P W base spare held fuel t [v'] = some x) : ∃ (xs : List α) (bs : Nat → List Blk) (is : List Info) (av : Nat → Value),NArg W v' (.list 1 (xs.map fun x=>[F x])) bs is av:=by
  rcases open_any ht (by decide) hC h with rfl|⟨a,c,rfl⟩|⟨gb,o,len,cap,n,rfl,h0,hlc,hgb,key⟩
  · exact ⟨[],fun _=>[],[],fun _=>.slice none 0 0,fun _ _ _ _ _=>.nilSlice 0 0,fun _ _ _ _ _=>.nillist _ _,fun _ _ _ _ _ j b h=>by simp at h,fun _ j b i h=>by simp at h,fun _=>rfl⟩
  · exact ⟨[],fun _=>[],[],fun _=>vag,fun _ _ _ _ _=>.vague a c,fun _ _ _ _ _=>.vague _ _,fun _ _ _ _ _ j b h=>by simp at h,fun _ j b i h=>by simp at h,fun _=>rfl⟩
  · have key2 : ∀ i, i < len → ∃ c : Value, W.cell? ⟨gb, o + i, none⟩ = some c ∧ ∃ y, DataW.trod enc P W base spare held n te [c] = some y := fun i hi => by
      obtain ⟨cs,y,hl,htr,hcell⟩:=key i hi
      obtain ⟨c,rfl⟩:=len1 hl
      refine ⟨c,?_,y,htr⟩
      have:=hcell 0 (by decide)
      simpa using this
    obtain ⟨cs,hcl,hq⟩:=choose_list len key2
    obtain ⟨xs,bs,is,avs,hxl,az⟩:=nargs_list (W:=W) (F:=F) cs (fun c hc=>by
      obtain ⟨i,hi,rfl⟩:=List.mem_iff_getElem.1 hc
      obtain ⟨_,y,hy⟩:=hq i _ (List.getElem?_eq_getElem hi)
      exact elem n _ y hy)
    subst hcl
    have sD : ∀ (D : Nat → Prop) n,(∀ j,j < is.length + 1 → D (n + j)) → D n ∧ ∀ j,j < is.length → D (n + 1 + j):=by
      intro D n hD
      refine ⟨by simpa using hD 0 (by omega),fun j hj=>?_⟩
      have:=hD (j + 1) (by omega)
      rwa [show n + 1 + j = n + (j + 1) by omega]
    have sI : ∀ (m : NMap) n,(∀ (j : Nat) i,((⟨gb,o,cap * 1,1⟩ : Info) :: is)[j]? = some i → m (n + j) = i) → m n = ⟨gb,o,cap * 1,1⟩ ∧ ∀ (j : Nat) i,is[j]? = some i → m (n + 1 + j) = i:=by
      intro m n hm
      refine ⟨by simpa using hm 0 _ rfl,fun j i hi=>?_⟩
      have:=hm (j + 1) i (by simpa using hi)
      rwa [show n + 1 + j = n + (j + 1) by omega]
    refine ⟨xs,fun n=>.cells 1 (avs (n + 1)) :: bs (n + 1),⟨gb,o,cap * 1,1⟩ :: is,fun n=>.slice (some ⟨n,0,none⟩) xs.length xs.length,fun D m n hD hm=>?_,fun Fz h n hF hh=>?_,fun D m n hD hm j b hb=>?_,fun n j b i hb hi hd=>?_,fun n=>by simp [az.len]⟩
    · have e:=(sI m n hm).1
      have:=VR.slice (D:=D) (m:=m) n 0 xs.length xs.length cap (sD D n (by simpa using hD)).1 (Nat.le_refl _) (by omega) (.inr (by rw [e];simp))
      rw [e] at this
      rw [hxl] at this ⊢
      exact this
    · have hs := az.vl Fz h (n + 1) (sD Fz n (by simpa using hF)).2 (fun j b hb => by
        have:=hh (j + 1) b (by simpa using hb)
        rwa [show n + 1 + j = n + (j + 1) by omega])
      have hlen:=hs.len
      have hflat : (xs.map fun x=>[F x]).flatten = xs.map F:=by
        clear hlen hs az hxl
        induction xs with
        | nil=>rfl
        | cons a t ih=>simp [ih]
      have h0':=hh 0 (.cells 1 (avs (n + 1))) rfl
      have:=VL.list (Fz:=Fz) (h:=h) noL 1 (xs.map fun x=>[F x]) n 0 xs.length (avs (n + 1)) 1 (sD Fz n (by simpa using hF)).1 h0' (.inl rfl) (fun r hr=>by obtain ⟨x,_,rfl⟩:=List.mem_map.1 hr;rfl) (by simp) (by simp only [List.length_map] at hlen ⊢;omega) (fun j p x hp hx=>by
        rw [hflat] at hp
        rw [Nat.zero_add] at hx
        exact hs.at' j p x hp hx)
      rw [List.length_map] at this
      exact this
    · cases j with
      | zero =>
        obtain rfl:=Option.some.inj hb
        have e:=(sI m n hm).1
        have hv:=az.vr D m (n + 1) (sD D n (by simpa using hD)).2 (sI m n hm).2
        rw [Nat.add_zero]
        refine ⟨by rw [e],fun i v hi=>?_⟩
        obtain ⟨v',h1,h2⟩:=hv.at hi
        refine ⟨v',?_,h2⟩
        rw [e]
        exact (hq i v' h1).1
      | succ j =>
        have:=az.ok D m (n + 1) (sD D n (by simpa using hD)).2 (sI m n hm).2 j b (by simpa using hb)
        rwa [show n + 1 + j = n + (j + 1) by omega] at this
    · cases j with
      | zero =>
        obtain rfl:=Option.some.inj hi
        exact hgb
      | succ j=>exact az.lt _ j b i (by simpa using hb) (by simpa using hi) hd
/-- a slice of ints that can be read -/
theorem open_ints {P : Program} {t te : TypeId} (ht : P.underlying t = some (.slice te)) (hte : P.underlying te = some (.int .i64)) (hC : P.cellsOf te = 1) {f : Int → List TV} (hf : ∀ x, f x = [.v (.int .i64 x)])
    {v' : Value} {fuel : Nat} {x : DataW H × List MemPlace} (h : DataW.trod enc P W base spare held fuel t [v'] = some x) : ∃ (xs : List Int) (bs : Nat → List Blk) (is : List Info) (av : Nat → Value),NArg W v' (.list 1 (xs.map f)) bs is av:=by
  obtain rfl : f = fun x=>[.v (.int .i64 x)]:=funext hf
  exact open_lists (F:=fun x : Int=>.v (.int .i64 x)) ht hC (fun n c y hy=>by
    obtain ⟨z,hz,_⟩:=DataW.trod_int hte hy
    obtain rfl : c = .int .i64 z:=by simpa using hz
    exact ⟨z,_,_,_,(Arg.atom (atomV_int .i64 z)).n⟩) h
end

theorem NArgs.append {W : World} {vs1 : List Value} {ps1 : List TV} {bs bs2 : Nat → List Blk} {is is2 : List Info} {av avs : Nat → List Value} {vs' : List Value} {ps : List TV}
    (a : NArgs W vs1 ps1 bs is av) (az : NArgs W vs' ps bs2 is2 avs) : NArgs W (vs1 ++ vs') (ps1 ++ ps) (fun n=>bs n ++ bs2 (n + is.length)) (is ++ is2) (fun n=>av n ++ avs (n + is.length)):=by
  have cD : ∀ (D : Nat → Prop) n,(∀ j,j < (is ++ is2).length → D (n + j)) → (∀ j,j < is.length → D (n + j)) ∧ (∀ j,j < is2.length → D (n + is.length + j)):=by
    intro D n h
    refine ⟨fun j hj=>h j (by simp;omega),fun j hj=>?_⟩
    have:=h (is.length + j) (by simp;omega)
    rwa [← Nat.add_assoc] at this
  have cI : ∀ (m : NMap) n,(∀ (j : Nat) i,(is ++ is2)[j]? = some i → m (n + j) = i) → (∀ (j : Nat) i,is[j]? = some i → m (n + j) = i) ∧ (∀ (j : Nat) i,is2[j]? = some i → m (n + is.length + j) = i):=by
    intro m n h
    refine ⟨fun j i hj=>h j i (by rw [List.getElem?_append_left (List.getElem?_eq_some_iff.1 hj).1];exact hj),fun j i hj=>?_⟩
    have:=h (is.length + j) i (by rw [List.getElem?_append_right (by omega),Nat.add_sub_cancel_left];exact hj)
    rwa [← Nat.add_assoc] at this
  refine ⟨fun D m n hD hm=>?_,fun Fz h n hF hh=>?_,fun D m n hD hm j b hb=>?_,fun n j b i hb hi hd=>?_,fun n=>by simp [a.len,az.len]⟩
  · exact (a.vr D m n (cD D n hD).1 (cI m n hm).1).append (az.vr D m (n + is.length) (cD D n hD).2 (cI m n hm).2)
  · refine (a.vl Fz h n (cD Fz n hF).1 fun j b hb=>hh j b (by rw [List.getElem?_append_left (List.getElem?_eq_some_iff.1 hb).1];exact hb)).append (az.vl Fz h (n + is.length) (cD Fz n hF).2 fun j b hb=>?_)
    have:=hh (is.length + j) b (by rw [List.getElem?_append_right (by rw [a.len];omega),a.len,Nat.add_sub_cancel_left];exact hb)
    rwa [← Nat.add_assoc] at this
  · rcases Nat.lt_or_ge j is.length with hj|hj
    · rw [List.getElem?_append_left (by rw [a.len];exact hj)] at hb
      exact a.ok D m n (cD D n hD).1 (cI m n hm).1 j b hb
    · rw [List.getElem?_append_right (by rw [a.len];exact hj),a.len] at hb
      have:=az.ok D m (n + is.length) (cD D n hD).2 (cI m n hm).2 _ b hb
      rwa [show n + is.length + (j - is.length) = n + j by omega] at this
  · rcases Nat.lt_or_ge j is.length with hj|hj
    · rw [List.getElem?_append_left (by rw [a.len];exact hj)] at hb
      rw [List.getElem?_append_left hj] at hi
      exact a.lt n j b i hb hi hd
    · rw [List.getElem?_append_right (by rw [a.len];exact hj),a.len] at hb
      rw [List.getElem?_append_right hj] at hi
      exact az.lt _ _ b i hb hi hd
section
variable {H : Type} {enc : TypeId × Value → H} {W : World} {base : Nat} {spare : Nat → Bool} {held : Bool}
end
end Go.Rex
