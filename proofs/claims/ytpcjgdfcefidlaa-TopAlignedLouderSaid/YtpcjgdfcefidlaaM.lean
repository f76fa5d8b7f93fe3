/- What these functions return: facts on lists and numbers. -/
import Derived.Test.YtpcjgdfcefidlaaRexG6
import Derived.Test.YtpcjgdfcefidlaaRexG7
import Derived.Test.YtpcjgdfcefidlaaS
import Derived.ProofKit
import Derived.OpenShut
import Derived.ShutString
import Derived.ChangeOld
import Derived.Below
import Derived.Lib.SmallJoins
import Derived.ChangeShapes
import Derived.ChangeArms
import Derived.WideShapes
set_option linter.unusedSimpArgs false
set_option linter.unusedVariables false
set_option linter.defProp false
namespace Go.Rex
/-! ### plain facts for shallow functions -/
theorem w64 {x : Int} (h : -9223372036854775808 ≤ x ∧ x ≤ 9223372036854775807) : IntKind.i64.wrap x = x := IntWalk.i64_in x (by omega)
/-- a loop that counts -/
theorem run_count {σ ε : Type} {step : σ → Option (σ ⊕ ε)} (f : Nat → σ) {n : Nat} {e : ε} (h : ∀ k, k < n → step (f k) = some (.inl (f (k + 1)))) (hn : step (f n) = some (.inr e)) : run step (f 0) = some e := by
  suffices H : ∀ j k, n - k = j → k ≤ n → run step (f k) = some e from H n 0 (by omega) (Nat.zero_le _)
  intro j
  induction j with
  | zero => intro k hj hk; obtain rfl : k = n := by omega
            exact run_stop hn
  | succ j ih => intro k hj hk; rw [run_next (h k (by omega))]; exact ih (k + 1) (by omega) (by omega)
theorem getI_nat {α : Type} {xs : List α} {k : Nat} : getI xs (k : Int) = xs[k]? := by
  unfold getI
  rw [if_pos (by omega), Int.toNat_natCast]
theorem appI_one {α : Type} {b : Nat} {xs : List α} {y : α} (h : xs.length < 2 ^ 40) (hb : b ≤ 128) : appI b xs [y] = some (xs ++ [y]) := by
  unfold appI
  rw [if_pos]
  refine ⟨by simp; omega, ?_⟩
  have h1 : (xs.length + [y].length) * b ≤ 2 ^ 40 * 128 := Nat.mul_le_mul (by simp; omega) hb
  omega
end Go.Rex

namespace Go.Rex
open Go.RowKit
/-! ## whole floats -/
structure FOk (f : Ieee.Format) (q : Nat) : Prop where
  lp : f.leastPlace = -(q : Int)
  le : f.fractionBits + 1 ≤ q
  inf : (q + 2) * f.binade ≤ f.infRung
  sgn : f.infRung < f.signWeight
def fq : FloatKind → Nat
  | .f32 => 149
  | .f64 => 1074
def fb : FloatKind → Nat
  | .f32 => 23
  | .f64 => 52
theorem fok (k : FloatKind) : FOk k.format (fq k) := by
  cases k <;> exact ⟨by decide, by decide, by decide +kernel, by decide +kernel⟩
theorem fb_eq (k : FloatKind) : k.format.fractionBits = fb k := by cases k <;> rfl
theorem cut_zero (n : Nat) (neg : Bool) : Ieee.Toward.cut .even neg n 0 = n := by
  simp [Ieee.Toward.cut, Nat.mod_one]
theorem shl (m s : Nat) : m <<< s = m * 2 ^ s := Nat.shiftLeft_eq m s
theorem log2_mul {m : Nat} (hm : m ≠ 0) (s : Nat) : (m * 2 ^ s).log2 = m.log2 + s := by
  rw [Nat.log2_eq_iff (by have := Nat.two_pow_pos s; exact Nat.mul_ne_zero hm (by omega))]
  have h1 := (Nat.log2_eq_iff hm).1 rfl
  constructor
  · rw [Nat.pow_add]; exact Nat.mul_le_mul_right _ h1.1
  · rw [show m.log2 + s + 1 = m.log2 + 1 + s by omega, Nat.pow_add]; exact Nat.mul_lt_mul_of_pos_right h1.2 (Nat.two_pow_pos s)
theorem cut_exact {m : Nat} (hm : m ≠ 0) (neg : Bool) {s d : Nat} (hd : d ≤ s) (way : Ieee.Toward) : way.cut neg (m * 2 ^ s) d = m * 2 ^ (s - d) := by
  have hg : min d ((m * 2 ^ s).log2 + 2) = d := by rw [log2_mul hm]; omega
  have e : m * 2 ^ s = 2 ^ d * (m * 2 ^ (s - d)) := by
    rw [Nat.mul_comm (2 ^ d), Nat.mul_assoc, ← Nat.pow_add, Nat.sub_add_cancel hd]
  have hp := Nat.two_pow_pos d
  unfold Ieee.Toward.cut
  rw [hg, shl, Nat.one_mul, e]
  dsimp only
  rw [Nat.mul_div_cancel_left _ hp, Nat.mul_mod_right]
  have : (2 ^ d == 0) = false := by simp
  cases way <;> simp [this]
theorem cut_exact0 (neg : Bool) {d : Nat} (way : Ieee.Toward) : way.cut neg 0 d = 0 := by
  unfold Ieee.Toward.cut
  have hp : 0 < 1 <<< min d ((0 : Nat).log2 + 2) := by rw [shl, Nat.one_mul]; exact Nat.two_pow_pos _
  have : (1 <<< min d ((0 : Nat).log2 + 2) == 0) = false := by rw [beq_eq_false_iff_ne]; omega
  cases way <;> simp [this]
theorem log2_lt {m b : Nat} (hm : m ≠ 0) (h : m < 2 ^ (b + 1)) : m.log2 ≤ b := by
  have := (Nat.log2_lt hm).2 h
  omega
/-- the word of m times 2 to the p, of a value that fits -/
theorem nearest_val {f : Ieee.Format} {q : Nat} (ok : FOk f q) {m : Nat} (hm : m ≠ 0) (hl : m < 2 ^ (f.fractionBits + 1)) (neg : Bool) (s : Nat) :
    f.nearest neg (m * 2 ^ s) (-(s : Int)) = f.word neg ((q + m.log2 - f.fractionBits) * f.binade + m * 2 ^ (f.fractionBits - m.log2)) := by
  have hL := log2_lt hm hl
  have hle := ok.le
  unfold Ieee.Format.nearest
  rw [if_neg (by have := Nat.two_pow_pos s; exact Nat.mul_ne_zero hm (by omega)), log2_mul hm, ok.lp]
  have e1 : max (-(s : Int) + ((m.log2 + s : Nat) : Int) - (f.fractionBits : Int)) (-(q : Int)) = (m.log2 : Int) - f.fractionBits := by omega
  rw [e1]
  have kept : Ieee.Toward.even.cut neg ((m * 2 ^ s) <<< (-(s : Int) - ((m.log2 : Int) - f.fractionBits)).toNat) ((m.log2 : Int) - f.fractionBits - -(s : Int)).toNat = m * 2 ^ (f.fractionBits - m.log2) := by
    rcases Nat.lt_or_ge (f.fractionBits - m.log2) s with h | h
    · have a1 : (-(s : Int) - ((m.log2 : Int) - f.fractionBits)).toNat = 0 := by omega
      rw [a1, shl, Nat.pow_zero, Nat.mul_one, cut_exact hm neg (by omega)]
      congr 2; omega
    · have a1 : (-(s : Int) - ((m.log2 : Int) - f.fractionBits)).toNat = f.fractionBits - m.log2 - s := by omega
      have a2 : ((m.log2 : Int) - f.fractionBits - -(s : Int)).toNat = 0 := by omega
      rw [a1, a2, cut_zero, shl, Nat.mul_assoc, ← Nat.pow_add]
      congr 2; omega
  dsimp only
  rw [kept]
  have a3 : ((m.log2 : Int) - f.fractionBits - -(q : Int)).toNat = q + m.log2 - f.fractionBits := by omega
  rw [a3]
  have hk : m * 2 ^ (f.fractionBits - m.log2) < 2 * f.binade := by
    have h1 := (Nat.log2_eq_iff hm).1 rfl
    have h2 := Nat.mul_lt_mul_of_pos_right h1.2 (Nat.two_pow_pos (f.fractionBits - m.log2))
    rw [← Nat.pow_add] at h2
    rw [show m.log2 + 1 + (f.fractionBits - m.log2) = f.fractionBits + 1 by omega] at h2
    unfold Ieee.Format.binade
    rw [Nat.pow_succ] at h2
    omega
  have hi := ok.inf
  have hq : (q + m.log2 - f.fractionBits) * f.binade ≤ q * f.binade := Nat.mul_le_mul_right _ (by omega)
  rw [Nat.add_mul] at hi
  rw [Nat.min_eq_left (by omega)]
theorem nearest_inv {f : Ieee.Format} {q : Nat} (ok : FOk f q) {m : Nat} (hl : m < 2 ^ (f.fractionBits + 1)) (neg : Bool) (s : Nat) (p : Int) (hp : p = -(s : Int)) : f.nearest neg (m * 2 ^ s) p = f.nearest neg m 0 := by
  subst hp
  by_cases hm : m = 0
  · subst hm
    unfold Ieee.Format.nearest
    simp
  · have h0 := nearest_val ok hm hl neg 0
    rw [nearest_val ok hm hl neg s, ← h0]
    simp
/-- how many digits are read behind the point -/
def digs (f : Ieee.Format) (q m : Nat) : Nat := if m = 0 then q else f.fractionBits - m.log2
theorem read_word {f : Ieee.Format} {q : Nat} (ok : FOk f q) {m : Nat} (hl : m < 2 ^ (f.fractionBits + 1)) (neg : Bool) : f.read (f.nearest neg m 0) = .number neg (m * 2 ^ digs f q m) (-(digs f q m : Int)) := by
  have hle := ok.le
  have hsg := ok.sgn
  have hinf := ok.inf
  have hbp : 0 < f.binade := Nat.two_pow_pos _
  have wd : ∀ r, r < f.signWeight → (f.word neg r / f.signWeight % 2 == 1) = neg ∧ f.word neg r % f.signWeight = r := by
    intro r hr
    unfold Ieee.Format.word
    cases neg
    · simp [Nat.div_eq_of_lt hr, Nat.mod_eq_of_lt hr]
    · have hs : 0 < f.signWeight := by omega
      simp only [if_true]
      rw [Nat.add_div_left _ hs, Nat.div_eq_of_lt hr, Nat.add_mod_left, Nat.mod_eq_of_lt hr]
      simp
  rw [Nat.add_mul] at hinf
  have hq0 : 2 * f.binade ≤ f.infRung := by omega
  by_cases hm : m = 0
  · subst hm
    have : f.nearest neg 0 0 = f.word neg 0 := by unfold Ieee.Format.nearest; simp
    rw [this]
    unfold Ieee.Format.read
    simp only [(wd 0 (by omega)).1, (wd 0 (by omega)).2]
    rw [if_pos hbp, ok.lp]
    simp [digs]
  · have h0 := nearest_val ok hm hl neg 0
    simp only [Nat.pow_zero, Nat.mul_one, Int.natCast_zero, Int.neg_zero] at h0
    rw [h0]
    have hL := log2_lt hm hl
    have h1 := (Nat.log2_eq_iff hm).1 rfl
    have hk : m * 2 ^ (f.fractionBits - m.log2) < 2 * f.binade := by
      have h2 := Nat.mul_lt_mul_of_pos_right h1.2 (Nat.two_pow_pos (f.fractionBits - m.log2))
      rw [← Nat.pow_add] at h2
      rw [show m.log2 + 1 + (f.fractionBits - m.log2) = f.fractionBits + 1 by omega] at h2
      unfold Ieee.Format.binade
      rw [Nat.pow_succ] at h2
      omega
    have hk2 : f.binade ≤ m * 2 ^ (f.fractionBits - m.log2) := by
      have h2 := Nat.mul_le_mul_right (2 ^ (f.fractionBits - m.log2)) h1.1
      rw [← Nat.pow_add] at h2
      rw [show m.log2 + (f.fractionBits - m.log2) = f.fractionBits by omega] at h2
      exact h2
    generalize hK : m * 2 ^ (f.fractionBits - m.log2) = K at *
    obtain ⟨j, hj⟩ : ∃ j, K = f.binade + j := ⟨K - f.binade, by omega⟩
    subst hj
    have hjb : j < f.binade := by omega
    have hq : (q + m.log2 - f.fractionBits) * f.binade ≤ q * f.binade := Nat.mul_le_mul_right _ (by omega)
    have hr : (q + m.log2 - f.fractionBits) * f.binade + (f.binade + j) < f.infRung := by omega
    have hrs : (q + m.log2 - f.fractionBits) * f.binade + (f.binade + j) < f.signWeight := by omega
    unfold Ieee.Format.read
    simp only [(wd _ hrs).1, (wd _ hrs).2]
    rw [if_neg (by omega), if_pos hr]
    have e1 : (q + m.log2 - f.fractionBits) * f.binade + (f.binade + j) = f.binade * (q + m.log2 - f.fractionBits + 1) + j := by
      rw [Nat.mul_add, Nat.mul_comm]; omega
    rw [e1, Nat.mul_add_mod, Nat.mod_eq_of_lt hjb, Nat.mul_add_div hbp, Nat.div_eq_of_lt hjb, ok.lp]
    unfold digs
    rw [if_neg hm, hK]
    congr 1
    omega
def sg (s : Bool) (m : Nat) : Int := if s then -(m : Int) else m
theorem signed_eq (s : Bool) (m u : Nat) : Ieee.signed s m u = sg s m * 2 ^ u := by
  unfold Ieee.signed sg
  rw [shl]
  cases s <;> simp [Int.neg_mul]
/-- a whole float: a sign and a size -/
def fz (k : FloatKind) (s : Bool) (m : Nat) : Nat := k.encode (.number s m 0)
def fi (k : FloatKind) (n : Int) : Nat := k.nearest n
theorem fi_eq (k : FloatKind) (n : Int) : fi k n = fz k (decide (n < 0)) n.natAbs := rfl
def fits (k : FloatKind) (m : Nat) : Prop := m < 2 ^ (fb k + 1)
def dg (k : FloatKind) (m : Nat) : Nat := digs k.format (fq k) m
theorem read_fz {k : FloatKind} {s : Bool} {m : Nat} (h : fits k m) : k.format.read (fz k s m) = .number s (m * 2 ^ dg k m) (-(dg k m : Int)) :=
  read_word (fok k) (by rw [fb_eq]; exact h) s
theorem write_fz {k : FloatKind} {s : Bool} {m : Nat} (h : fits k m) {u : Nat} {p : Int} (hp : p = -(u : Int)) : k.format.write (.number s (m * 2 ^ u) p) = fz k s m :=
  nearest_inv (fok k) (by rw [fb_eq]; exact h) s u p hp
theorem sg_mul (s : Bool) (m n : Nat) : sg s (m * n) = sg s m * n := by cases s <;> simp [sg, Int.neg_mul]
theorem sg_abs (s : Bool) (m : Nat) : (sg s m).natAbs = m := by cases s <;> simp [sg]
theorem scale_pos (a : Int) (u : Nat) : (a * 2 ^ u < 0 ↔ a < 0) ∧ (a * 2 ^ u = 0 ↔ a = 0) ∧ (a * 2 ^ u).natAbs = a.natAbs * 2 ^ u := by
  have hp : (0 : Int) < 2 ^ u := Int.pow_pos (by omega)
  refine ⟨⟨fun h => ?_, fun h => Int.mul_neg_of_neg_of_pos h hp⟩, ⟨fun h => ?_, fun h => by rw [h, Int.zero_mul]⟩, ?_⟩
  · rcases Int.lt_or_le a 0 with h' | h'
    · exact h'
    · exact absurd h (by have := Int.mul_nonneg h' (Int.le_of_lt hp); omega)
  · rcases Int.mul_eq_zero.1 h with h | h
    · exact h
    · omega
  · rw [Int.natAbs_mul, Int.natAbs_pow]; rfl
theorem sum_number (s t : Bool) (m n i j : Nat) : Ieee.Datum.sum (.number s (m * 2 ^ i) (-(i : Int))) (.number t (n * 2 ^ j) (-(j : Int))) =
    some (.number (if sg s m + sg t n = 0 then s && t else decide (sg s m + sg t n < 0)) ((sg s m + sg t n).natAbs * 2 ^ max i j) (-(max i j : Nat))) := by
  have e1 : min (-(i : Int)) (-(j : Int)) = -((max i j : Nat) : Int) := by omega
  have e2 : (-(i : Int) - -((max i j : Nat) : Int)).toNat = max i j - i := by omega
  have e3 : (-(j : Int) - -((max i j : Nat) : Int)).toNat = max i j - j := by omega
  have a1 : Ieee.signed s (m * 2 ^ i) (max i j - i) = sg s m * 2 ^ max i j := by
    rw [signed_eq, sg_mul, Int.mul_assoc]
    congr 1
    rw [Int.natCast_pow]
    show (2 : Int) ^ i * 2 ^ (max i j - i) = _
    rw [← Int.pow_add]; congr 1; omega
  have a2 : Ieee.signed t (n * 2 ^ j) (max i j - j) = sg t n * 2 ^ max i j := by
    rw [signed_eq, sg_mul, Int.mul_assoc]
    congr 1
    rw [Int.natCast_pow]
    show (2 : Int) ^ j * 2 ^ (max i j - j) = _
    rw [← Int.pow_add]; congr 1; omega
  simp only [Ieee.Datum.sum, e1, e2, e3, a1, a2]
  rw [← Int.add_mul]
  obtain ⟨h1, h2, h3⟩ := scale_pos (sg s m + sg t n) (max i j)
  rw [h3]
  congr 2
  by_cases h : sg s m + sg t n = 0
  · rw [if_pos h, if_pos (h2.2 h)]
  · rw [if_neg h, if_neg (fun h' => h (h2.1 h'))]
    exact decide_eq_decide.2 h1
/-- sums -/
theorem fadd {k : FloatKind} {s t : Bool} {m n : Nat} (hm : fits k m) (hn : fits k n) (hr : fits k (sg s m + sg t n).natAbs) :
    farith .add k (fz k s m) (fz k t n) = some (fz k (if sg s m + sg t n = 0 then s && t else decide (sg s m + sg t n < 0)) (sg s m + sg t n).natAbs) := by
  simp only [farith, Ieee.Format.add]
  rw [read_fz hm, read_fz hn, sum_number, Option.map_some, write_fz hr rfl]
theorem fsub {k : FloatKind} {s t : Bool} {m n : Nat} (hm : fits k m) (hn : fits k n) (hr : fits k (sg s m + sg (!t) n).natAbs) :
    farith .sub k (fz k s m) (fz k t n) = some (fz k (if sg s m + sg (!t) n = 0 then s && !t else decide (sg s m + sg (!t) n < 0)) (sg s m + sg (!t) n).natAbs) := by
  simp only [farith, Ieee.Format.sub]
  rw [read_fz hm, read_fz hn]
  simp only [Ieee.Datum.opposite]
  rw [sum_number, Option.map_some, write_fz hr rfl]
theorem fmul {k : FloatKind} {s t : Bool} {m n : Nat} (hm : fits k m) (hn : fits k n) (hr : fits k (m * n)) : farith .mul k (fz k s m) (fz k t n) = some (fz k (s ^^ t) (m * n)) := by
  simp only [farith, Ieee.Format.mul]
  rw [read_fz hm, read_fz hn]
  simp only [Ieee.Datum.product, Option.map_some]
  have e : m * 2 ^ dg k m * (n * 2 ^ dg k n) = m * n * 2 ^ (dg k m + dg k n) := by rw [Nat.pow_add]; simp only [Nat.mul_comm, Nat.mul_left_comm, Nat.mul_assoc]
  rw [e, write_fz hr (by omega)]
theorem forder {k : FloatKind} {s t : Bool} {m n : Nat} (hm : fits k m) (hn : fits k n) : k.format.order (fz k s m) (fz k t n) = some (compare (sg s m) (sg t n)) := by
  simp only [Ieee.Format.order]
  rw [read_fz hm, read_fz hn]
  generalize dg k m = i
  generalize dg k n = j
  have e1 : min (-(i : Int)) (-(j : Int)) = -((max i j : Nat) : Int) := by omega
  have e2 : (-(i : Int) - -((max i j : Nat) : Int)).toNat = max i j - i := by omega
  have e3 : (-(j : Int) - -((max i j : Nat) : Int)).toNat = max i j - j := by omega
  have a1 : Ieee.signed s (m * 2 ^ i) (max i j - i) = sg s m * 2 ^ max i j := by
    rw [signed_eq, sg_mul, Int.mul_assoc]
    congr 1
    rw [Int.natCast_pow]
    show (2 : Int) ^ i * 2 ^ (max i j - i) = _
    rw [← Int.pow_add]; congr 1; omega
  have a2 : Ieee.signed t (n * 2 ^ j) (max i j - j) = sg t n * 2 ^ max i j := by
    rw [signed_eq, sg_mul, Int.mul_assoc]
    congr 1
    rw [Int.natCast_pow]
    show (2 : Int) ^ j * 2 ^ (max i j - j) = _
    rw [← Int.pow_add]; congr 1; omega
  simp only [Ieee.Datum.order, e1, e2, e3, a1, a2]
  congr 1
  have hp : (0 : Int) < 2 ^ max i j := Int.pow_pos (by omega)
  have key : ∀ a b : Int, a * 2 ^ max i j < b * 2 ^ max i j ↔ a < b := fun a b => Int.mul_lt_mul_right hp
  simp only [compare, compareOfLessAndEq, key]
  have : (sg s m * 2 ^ max i j = sg t n * 2 ^ max i j) ↔ sg s m = sg t n := Int.mul_eq_mul_right_iff (by omega)
  simp only [this]
theorem ftoint {k : FloatKind} {s : Bool} {m : Nat} (hm : fits k m) : (k.decode (fz k s m)).toInt .zero = some (sg s m) := by
  show (k.format.read (fz k s m)).toInt .zero = _
  rw [read_fz hm]
  unfold Ieee.Datum.toInt Ieee.Datum.integral
  have h0 : (-(dg k m : Int)).toNat = 0 := by omega
  have h1 : (- -(dg k m : Int)).toNat = dg k m := by omega
  simp only [h0, h1, shl, Nat.pow_zero, Nat.mul_one]
  by_cases h : m = 0
  · subst h
    simp only [Nat.zero_mul, cut_exact0, signed_eq]
    simp
  · rw [cut_exact h s (Nat.le_refl _), Nat.sub_self, Nat.pow_zero, Nat.mul_one, signed_eq]
    simp
end Go.Rex

namespace Go.Rex
/-! ### floats that are whole numbers -/
def Whole (b : Nat) (x : Int) : Prop := ∃ s, b = fz .f64 s x.natAbs ∧ sg s x.natAbs = x ∧ x.natAbs < 2 ^ 53
theorem wfits {x : Int} (h : x.natAbs < 2 ^ 53) : fits .f64 x.natAbs := h
theorem whole_of {x : Int} (h : x.natAbs < 2 ^ 53) : Whole (FloatKind.f64.nearest x) x := by
  refine ⟨decide (x < 0), fi_eq .f64 x, ?_, h⟩
  unfold sg
  by_cases q : x < 0
  · simp only [q, decide_true, if_true]; omega
  · simp only [q, decide_false, Bool.false_eq_true, if_false]; omega
theorem wadd {a b : Nat} {x y : Int} (ha : Whole a x) (hb : Whole b y) (h : (x + y).natAbs < 2 ^ 53) : ∃ c, farith .add .f64 a b = some c ∧ Whole c (x + y) := by
  obtain ⟨s, rfl, hs, hx⟩ := ha
  obtain ⟨t, rfl, ht, hy⟩ := hb
  have := fadd (k := .f64) (s := s) (t := t) (wfits hx) (wfits hy) (by rw [hs, ht]; exact h)
  rw [hs, ht] at this
  refine ⟨_, this, _, rfl, ?_, h⟩
  unfold sg
  by_cases q : x + y = 0
  · rw [if_pos q, q]; simp
  · rw [if_neg q]
    by_cases q2 : x + y < 0
    · simp only [q2, decide_true, if_true]; omega
    · simp only [q2, decide_false, Bool.false_eq_true, if_false]; omega
theorem wsub {a b : Nat} {x y : Int} (ha : Whole a x) (hb : Whole b y) (h : (x - y).natAbs < 2 ^ 53) : ∃ c, farith .sub .f64 a b = some c ∧ Whole c (x - y) := by
  obtain ⟨s, rfl, hs, hx⟩ := ha
  obtain ⟨t, rfl, ht, hy⟩ := hb
  have ht' : sg (!t) y.natAbs = -y := by
    unfold sg at ht ⊢
    cases t <;> simp at ht ⊢ <;> omega
  have := fsub (k := .f64) (s := s) (t := t) (wfits hx) (wfits hy) (by rw [hs, ht', ← Int.sub_eq_add_neg]; exact h)
  rw [hs, ht', ← Int.sub_eq_add_neg] at this
  refine ⟨_, this, _, rfl, ?_, h⟩
  unfold sg
  by_cases q : x - y = 0
  · rw [if_pos q, q]; simp
  · rw [if_neg q]
    by_cases q2 : x - y < 0
    · simp only [q2, decide_true, if_true]; omega
    · simp only [q2, decide_false, Bool.false_eq_true, if_false]; omega
theorem wmul {a b : Nat} {x y : Int} (ha : Whole a x) (hb : Whole b y) (h : (x * y).natAbs < 2 ^ 53) : ∃ c, farith .mul .f64 a b = some c ∧ Whole c (x * y) := by
  obtain ⟨s, rfl, hs, hx⟩ := ha
  obtain ⟨t, rfl, ht, hy⟩ := hb
  have e : (x * y).natAbs = x.natAbs * y.natAbs := Int.natAbs_mul x y
  have := fmul (k := .f64) (s := s) (t := t) (wfits hx) (wfits hy) (by rw [← e]; exact h)
  rw [← e] at this
  refine ⟨_, this, _, rfl, ?_, h⟩
  rw [e]
  have : sg (s ^^ t) (x.natAbs * y.natAbs) = sg s x.natAbs * sg t y.natAbs := by
    unfold sg
    cases s <;> cases t <;> simp [Int.neg_mul, Int.mul_neg]
  rw [this, hs, ht]
theorem w_one : Whole 4607182418800017408 1 := ⟨false, by decide +kernel, by decide, by decide⟩
theorem w_mone : Whole 13830554455654793216 (-1) := ⟨true, by decide +kernel, by decide, by decide⟩
theorem w_zero : Whole 0 0 := ⟨false, by decide +kernel, by decide, by decide⟩
theorem w_big : Whole 4741671816366391296 1000000000 := ⟨false, by decide +kernel, by decide, by decide⟩
theorem w_mbig : Whole 13965043853221167104 (-1000000000) := ⟨true, by decide +kernel, by decide, by decide⟩
theorem worder {a b : Nat} {x y : Int} (ha : Whole a x) (hb : Whole b y) : FloatKind.f64.format.order a b = some (compare x y) := by
  obtain ⟨s, rfl, hs, hx⟩ := ha
  obtain ⟨t, rfl, ht, hy⟩ := hb
  rw [forder (k := .f64) (wfits hx) (wfits hy), hs, ht]
/-- a great constant beside a whole float -/
theorem worder_big {a c : Nat} {x : Int} {t : Bool} {M p : Nat} (ha : Whole a x) (hc : FloatKind.f64.format.read c = .number t M (p : Int)) : FloatKind.f64.format.order a c = some (compare x (sg t M * 2 ^ p)) := by
  obtain ⟨s, rfl, hs, hx⟩ := ha
  simp only [Ieee.Format.order]
  rw [read_fz (k := .f64) (wfits hx), hc]
  generalize dg .f64 x.natAbs = i
  have e1 : min (-(i : Int)) (p : Int) = -(i : Int) := by omega
  have e2 : (-(i : Int) - -(i : Int)).toNat = 0 := by omega
  have e3 : ((p : Int) - -(i : Int)).toNat = p + i := by omega
  have a1 : Ieee.signed s (x.natAbs * 2 ^ i) 0 = x * 2 ^ i := by
    rw [signed_eq, sg_mul, hs]; simp
  have a2 : Ieee.signed t M (p + i) = sg t M * 2 ^ p * 2 ^ i := by
    rw [signed_eq, Int.mul_assoc, ← Int.pow_add]
  simp only [Ieee.Datum.order, e1, e2, e3, a1, a2]
  congr 1
  have hp : (0 : Int) < 2 ^ i := Int.pow_pos (by omega)
  have key : ∀ a b : Int, a * 2 ^ i < b * 2 ^ i ↔ a < b := fun a b => Int.mul_lt_mul_right hp
  simp only [compare, compareOfLessAndEq, key]
  have : (x * 2 ^ i = sg t M * 2 ^ p * 2 ^ i) ↔ x = sg t M * 2 ^ p := Int.mul_eq_mul_right_iff (by omega)
  simp only [this]
theorem cmp_eq {x y : Int} : (compare x y = .lt ↔ x < y) ∧ (compare x y = .eq ↔ x = y) ∧ (compare x y = .gt ↔ y < x) := by
  simp only [compare, compareOfLessAndEq]
  rcases Int.lt_trichotomy x y with h | h | h
  · rw [if_pos h]; simp; omega
  · subst h; simp
  · rw [if_neg (by omega), if_neg (by omega)]; simp; omega
theorem w_gtr {a b : Nat} {x y : Int} (ha : Whole a x) (hb : Whole b y) : fcmp .gtr .f64 a b = decide (y < x) := by
  simp only [fcmp, worder ha hb]
  have := (cmp_eq (x := x) (y := y)).2.2
  by_cases q : y < x
  · rw [this.2 q, decide_eq_true q]; rfl
  · rw [decide_eq_false q]; simpa [q] using this
theorem w_lss {a b : Nat} {x y : Int} (ha : Whole a x) (hb : Whole b y) : fcmp .lss .f64 a b = decide (x < y) := by
  simp only [fcmp, worder ha hb]
  have := (cmp_eq (x := x) (y := y)).1
  by_cases q : x < y
  · rw [this.2 q, decide_eq_true q]; rfl
  · rw [decide_eq_false q]; simpa [q] using this
theorem w_neq {a b : Nat} {x : Int} (ha : Whole a x) (hb : Whole b x) : fcmp .neq .f64 a b = false := by
  simp only [fcmp, worder ha hb]
  rw [(cmp_eq (x := x) (y := x)).2.1.2 rfl]; rfl
theorem w_eql {a b : Nat} {x : Int} (ha : Whole a x) (hb : Whole b x) : fcmp .eql .f64 a b = true := by
  simp only [fcmp, worder ha hb]
  rw [(cmp_eq (x := x) (y := x)).2.1.2 rfl]; rfl
theorem w_f2i {a : Nat} {x : Int} (ha : Whole a x) : f2i .f64 a .i64 = some x := by
  obtain ⟨s, rfl, hs, hx⟩ := ha
  unfold f2i
  rw [ftoint (k := .f64) (wfits hx), hs]
  have h1 : IntKind.i64.min = -9223372036854775808 := rfl
  have h2 : IntKind.i64.max = 9223372036854775807 := rfl
  dsimp only
  rw [if_pos (by omega)]
theorem wcmul {a c d : Nat} {x y z : Int} (ha : Whole a x) (hc : Whole c y) (hd : Whole d z) (hx : x.natAbs < 2 ^ 30) (hy : y.natAbs ≤ 1) (hz : z.natAbs ≤ 1) : ∃ p q, cmul a 0 c d = some (p, q) ∧ Whole p (x * y) ∧ Whole q (x * z) := by
  have b1 : (x * y).natAbs < 2 ^ 53 := by
    rw [Int.natAbs_mul]
    have := Nat.mul_le_mul_left x.natAbs hy
    omega
  have b2 : (x * z).natAbs < 2 ^ 53 := by
    rw [Int.natAbs_mul]
    have := Nat.mul_le_mul_left x.natAbs hz
    omega
  obtain ⟨p, hp, wp⟩ := wmul ha hc b1
  obtain ⟨q, hq, wq⟩ := wmul w_zero hd (by simp)
  rw [Int.zero_mul] at wq
  obtain ⟨r, hr, wr⟩ := wsub wp wq (by rw [Int.sub_zero]; exact b1)
  obtain ⟨s, hs, ws⟩ := wmul ha hd b2
  obtain ⟨t, ht, wt⟩ := wmul w_zero hc (by simp)
  rw [Int.zero_mul] at wt
  obtain ⟨u, hu, wu⟩ := wadd ws wt (by rw [Int.add_zero]; exact b2)
  rw [Int.sub_zero] at wr
  rw [Int.add_zero] at wu
  refine ⟨r, u, ?_, wr, wu⟩
  unfold cmul
  rw [hp, Option.bind_some, hq, Option.bind_some, hr, Option.bind_some, hs, Option.bind_some, ht, Option.bind_some, hu]
  rfl
end Go.Rex

namespace Go.Rex
/-! ### roots and ways -/
theorem shr1_eq {x : Int} (h0 : 0 ≤ x) (h1 : x < 9223372036854775808) : shI .shr .u64 (IntKind.u64.wrap x) 1 = some (x / 2) := by
  have hw : IntKind.u64.wrap x = x := by
    unfold IntKind.wrap
    show x.emod (2 ^ 64) = x
    exact Int.emod_eq_of_lt h0 (by omega)
  rw [hw]
  unfold shI
  rw [if_neg (by omega)]
  dsimp only
  have : min (1 : Int).toNat IntKind.u64.bits = 1 := by decide
  rw [this, Int.fdiv_eq_ediv_of_nonneg _ (Int.pow_nonneg (by omega))]
  rfl
theorem search_run {n : Int} (h0 : 0 ≤ n) (h1 : n < 4611686018427387904) : ∀ (d lo hi : Nat), hi - lo ≤ d → lo ≤ hi → hi ≤ 2147483648 → ((lo : Int) * lo ≤ n) → (n < ((hi : Int) + 1) * ((hi : Int) + 1)) → ∃ i : Nat, run (sort_Search_2a44_l1 n) ((lo : Int), (hi : Int)) = some (i : Int) ∧ (i : Int) * i ≤ n ∧ n < ((i : Int) + 1) * ((i : Int) + 1) ∧ i ≤ 2147483648 := by
  intro d
  induction d with
  | zero =>
    intro lo hi hd hle hhi hl hh
    obtain rfl : lo = hi := by omega
    refine ⟨lo, run_stop ?_, hl, hh, hhi⟩
    dsimp only [sort_Search_2a44_l1]
    rw [if_neg (by simp)]
  | succ d ih =>
    intro lo hi hd hle hhi hl hh
    by_cases q : lo < hi
    · obtain ⟨m, hm⟩ : ∃ m : Nat, m = (lo + hi) / 2 := ⟨_, rfl⟩
      have hmi : ((lo : Int) + hi) / 2 = (m : Int) := by omega
      have hmb : ((m : Int) + 1) * ((m : Int) + 1) ≤ 2147483648 * 2147483648 := Int.mul_le_mul (by omega) (by omega) (by omega) (by omega)
      have hm0 : 0 ≤ ((m : Int) + 1) * ((m : Int) + 1) := Int.mul_nonneg (by omega) (by omega)
      have hst : sort_Search_2a44_l1 n ((lo : Int), (hi : Int)) = if decide (((m : Int) + 1) * ((m : Int) + 1) > n) = true then some (.inl ((lo : Int), (m : Int))) else some (.inl (((m + 1 : Nat) : Int), (hi : Int))) := by
        dsimp only [sort_Search_2a44_l1]
        rw [if_pos (by simp only [decide_eq_true_eq]; omega), w64 (x := (lo : Int) + hi) (by omega), shr1_eq (by omega) (by omega), Option.bind_some, hmi, w64 (x := (m : Int)) (by omega)]
        unfold array_root_c1_d3d3
        rw [w64 (x := (m : Int) + 1) (by omega), w64 (x := ((m : Int) + 1) * ((m : Int) + 1)) (by omega), Option.bind_some]
        rfl
      by_cases q2 : ((m : Int) + 1) * ((m : Int) + 1) > n
      · rw [run_next (s' := ((lo : Int), (m : Int))) (by rw [hst, if_pos (by simpa using q2)])]
        exact ih lo m (by omega) (by omega) (by omega) hl q2
      · rw [run_next (s' := (((m + 1 : Nat) : Int), (hi : Int))) (by rw [hst, if_neg (by simpa using q2)])]
        exact ih (m + 1) hi (by omega) (by omega) (by omega) (by have e : (((m + 1 : Nat)) : Int) = (m : Int) + 1 := by omega
                                                                 rw [e]; omega) hh
    · obtain rfl : lo = hi := by omega
      refine ⟨lo, run_stop ?_, hl, hh, hhi⟩
      dsimp only [sort_Search_2a44_l1]
      rw [if_neg (by simp)]
theorem root_eq {n : Int} (h0 : 0 ≤ n) (h1 : n < 4611686018427387904) : ∃ r r' : Int, array_root n = some (r, r') ∧ 0 ≤ r ∧ r ≤ 2147483648 ∧ r * r ≤ n ∧ n < (r + 1) * (r + 1) ∧ r ≤ r' ∧ r' ≤ r + 1 := by
  obtain ⟨i, hi, hl, hh, hb⟩ := search_run h0 h1 2147483648 0 2147483648 (by omega) (by omega) (by omega) (by simpa using h0) (by simpa using by omega)
  unfold array_root sort_Search_2a44
  rw [show ((0 : Nat) : Int) = 0 from rfl, show ((2147483648 : Nat) : Int) = 2147483648 from rfl] at hi
  rw [hi, Option.bind_some, Option.bind_some]
  by_cases q : IntKind.i64.wrap ((i : Int) * i) = n
  · rw [if_pos (by simpa using q)]
    exact ⟨_, _, rfl, by omega, by omega, hl, hh, by omega, by omega⟩
  · rw [if_neg (by simpa using q), w64 (x := (i : Int) + 1) (by omega)]
    exact ⟨_, _, rfl, by omega, by omega, hl, hh, by omega, by omega⟩
/-- squares of distances -/
def sqd (x y z a b c : Int) : Int := (a - x) * (a - x) + (b - y) * (b - y) + (c - z) * (c - z)
def inP (x : Int) : Prop := -5000 ≤ x ∧ x ≤ 5000
theorem sq_le {x a : Int} (h : inP x) (h2 : inP a) : 0 ≤ (a - x) * (a - x) ∧ (a - x) * (a - x) ≤ 100000000 ∧ IntKind.i64.wrap (a - x) = a - x := by
  unfold inP at h h2
  refine ⟨?_, ?_, w64 (by omega)⟩
  · rcases Int.le_total 0 (a - x) with q | q
    · exact Int.mul_nonneg q q
    · exact Int.mul_nonneg_of_nonpos_of_nonpos q q
  · rcases Int.le_total 0 (a - x) with q | q
    · exact Int.le_trans (Int.mul_le_mul (show a - x ≤ 10000 by omega) (show a - x ≤ 10000 by omega) q (by omega)) (by omega)
    · have := Int.mul_le_mul (show -(a - x) ≤ 10000 by omega) (show -(a - x) ≤ 10000 by omega) (show 0 ≤ -(a - x) by omega) (by omega)
      rw [Int.neg_mul_neg] at this
      omega
theorem square_eq {x y z a b c : Int} (hx : inP x) (hy : inP y) (hz : inP z) (ha : inP a) (hb : inP b) (hc : inP c) : array_way_square x y z a b c = some (sqd x y z a b c) ∧ 0 ≤ sqd x y z a b c ∧ sqd x y z a b c ≤ 300000000 := by
  obtain ⟨h1, h2, h3⟩ := sq_le hx ha
  obtain ⟨h4, h5, h6⟩ := sq_le hy hb
  obtain ⟨h7, h8, h9⟩ := sq_le hz hc
  unfold array_way_square sqd
  rw [h3, h6, h9, w64 (x := (a - x) * (a - x)) (by omega), w64 (x := (b - y) * (b - y)) (by omega), w64 (x := (c - z) * (c - z)) (by omega), w64 (x := (a - x) * (a - x) + (b - y) * (b - y)) (by omega), w64 (by omega)]
  exact ⟨rfl, by omega, by omega⟩
theorem length_eq {x y z a b c : Int} (hx : inP x) (hy : inP y) (hz : inP z) (ha : inP a) (hb : inP b) (hc : inP c) (hq : 100 ≤ sqd x y z a b c) : ∃ r r' : Int, array_way_length x y z a b c = some (r, r') ∧ 9999 ≤ r ∧ r ≤ 20000000 ∧ r ≤ r' ∧ r' ≤ r + 1 ∧ 10000 ≤ r' := by
  obtain ⟨h1, h2, h3⟩ := square_eq hx hy hz ha hb hc
  unfold array_way_length
  rw [h1, Option.bind_some, w64 (x := 1000000 * sqd x y z a b c) (by omega)]
  obtain ⟨r, r', hr, h4, h5, h6, h7, h8, h9⟩ := root_eq (n := 1000000 * sqd x y z a b c) (by omega) (by omega)
  rw [hr, Option.bind_some]
  have l1 : 10000 ≤ r := by
    rcases Int.lt_or_le r 10000 with q | q
    · have := Int.mul_le_mul (show r + 1 ≤ 10000 by omega) (show r + 1 ≤ 10000 by omega) (by omega) (by omega)
      omega
    · exact q
  have l2 : r ≤ 20000000 := by
    rcases Int.lt_or_le 20000000 r with q | q
    · have := Int.mul_le_mul (show (20000000 : Int) ≤ r by omega) (show (20000000 : Int) ≤ r by omega) (by omega) (by omega)
      omega
    · exact q
  exact ⟨r, r', rfl, by omega, l2, h8, h9, by omega⟩
theorem way_eq {x y z a b c u v : Int} (hx : inP x) (hy : inP y) (hz : inP z) (ha : inP a) (hb : inP b) (hc : inP c) (hq : 100 ≤ sqd x y z a b c) (hu : 8000 ≤ u ∧ u ≤ 192000) (hv : 30000 ≤ v ∧ v ≤ 40000) :
    ∃ N N' S S' : Int, array_way_numbers x y z a b c u v = some (N, N') ∧ array_way_strength x y z a b c = some (S, S') ∧ 0 ≤ N ∧ N ≤ 10000000000000 ∧ 0 ≤ S ∧ S ≤ 100000 := by
  obtain ⟨r, r', hl, h1, h2, h3, h4, h5⟩ := length_eq hx hy hz ha hb hc hq
  have m1 : r * u ≤ 20000000 * 192000 := Int.mul_le_mul h2 hu.2 (by omega) (by omega)
  have m0 : 0 ≤ r * u := Int.mul_nonneg (by omega) (by omega)
  have d0 : 0 ≤ r * u / v := Int.ediv_nonneg m0 (by omega)
  have d1 : r * u / v ≤ r * u := Int.ediv_le_self _ m0
  have e0 : (0 : Int) ≤ 1000000000 / r' := Int.ediv_nonneg (by omega) (by omega)
  have e1 : (1000000000 : Int) / r' ≤ 100000 := Int.ediv_le_of_le_mul (by omega) (by omega)
  obtain ⟨w1, hw1⟩ : ∃ w, array_up (IntKind.i64.wrap (r' * u)) v = some w := by
    unfold array_up; rw [if_neg (by omega)]; exact ⟨_, rfl⟩
  obtain ⟨w2, hw2⟩ : ∃ w, array_up 1000000000 r = some w := by
    unfold array_up; rw [if_neg (by omega)]; exact ⟨_, rfl⟩
  obtain ⟨w3, hw3⟩ : ∃ w, array_way_numbers_c1 w1 = some w := ⟨_, rfl⟩
  refine ⟨(r * u / v + 500) / 1000, w3, 1000000000 / r', w2, ?_, ?_, ?_, ?_, e0, e1⟩
  · unfold array_way_numbers array_scaled
    rw [hl, Option.bind_some]
    dsimp only
    rw [if_neg (by omega), hw1, Option.bind_some, Option.bind_some]
    dsimp only
    rw [hw3]
    unfold array_way_numbers_c1
    rw [w64 (x := r * u) (by omega), Int.tdiv_eq_ediv_of_nonneg m0, w64 (x := r * u / v) (by omega), w64 (x := r * u / v + 500) (by omega), Int.tdiv_eq_ediv_of_nonneg (by omega), w64 (by omega)]
    rfl
  · unfold array_way_strength
    rw [hl, Option.bind_some]
    dsimp only
    rw [if_neg (by omega), hw2, Option.bind_some, Int.tdiv_eq_ediv_of_nonneg (by omega), w64 (by omega)]
  · omega
  · omega
theorem apart_eq {x y z a b c : Int} (hx : inP x) (hy : inP y) (hz : inP z) (ha : inP a) (hb : inP b) (hc : inP c) : array_way_apart x y z a b c = some (if sqd x y z a b c < 100 then 11 else 0) := by
  unfold array_way_apart
  rw [(square_eq hx hy hz ha hb hc).1]
  unfold array_refuse array_refuse_c1_11f9
  simp only [Option.bind_some]
  by_cases q : sqd x y z a b c < 100
  · simp [q]
  · simp [q]
end Go.Rex

namespace Go.Rex
/-! ### which arrays and seats are right -/
abbrev Spk := Int × Int × Int × Int × Int
instance (x : Int) : Decidable (inP x) := inferInstanceAs (Decidable (_ ∧ _))
theorem scanP {β : Type} {step : Int → Option (Int ⊕ (β ⊕ Unit))} {n : Nat} {P : Nat → Prop} {Q : β → Prop} (h1 : ∀ k : Nat, k < n → P k → step (k : Int) = some (.inl ((k + 1 : Nat) : Int))) (h2 : ∀ k : Nat, k < n → ¬ P k → ∃ b, Q b ∧ step (k : Int) = some (.inr (.inl b))) (h3 : step (n : Int) = some (.inr (.inr ()))) :
    ((∀ k, k < n → P k) ∧ run step 0 = some (.inr ())) ∨ ((¬ ∀ k, k < n → P k) ∧ ∃ b, Q b ∧ run step 0 = some (.inl b)) := by
  have key : ∀ (d j : Nat), j + d = n → ((∀ k, j ≤ k → k < n → P k) ∧ run step (j : Int) = some (.inr ())) ∨ ((¬ ∀ k, j ≤ k → k < n → P k) ∧ ∃ b, Q b ∧ run step (j : Int) = some (.inl b)) := by
    intro d
    induction d with
    | zero =>
      intro j hj
      obtain rfl : j = n := by omega
      exact .inl ⟨fun k a b => by omega, run_stop h3⟩
    | succ d ih =>
      intro j hj
      by_cases q : P j
      · rw [run_next (h1 j (by omega) q)]
        rcases ih (j + 1) (by omega) with ⟨a, b⟩ | ⟨a, b⟩
        · refine .inl ⟨fun k hk hk2 => ?_, b⟩
          rcases Nat.lt_or_ge j k with h | h
          · exact a k (by omega) hk2
          · obtain rfl : k = j := by omega
            exact q
        · exact .inr ⟨fun h => a (fun k hk hk2 => h k (by omega) hk2), b⟩
      · obtain ⟨b, hb, hs⟩ := h2 j (by omega) q
        exact .inr ⟨fun h => q (h j (by omega) (by omega)), b, hb, run_stop hs⟩
  rcases key n 0 (by omega) with ⟨a, b⟩ | ⟨a, b⟩
  · exact .inl ⟨fun k hk => a k (by omega) hk, b⟩
  · exact .inr ⟨fun h => a (fun k _ hk => h k hk), b⟩
theorem awithin_eq (x lo hi : Int) : array_within x lo hi = some (!decide (lo ≤ x ∧ x ≤ hi), 2) := by
  unfold array_within array_refuse
  by_cases q : x < lo
  · rw [if_pos (by simpa using q), decide_eq_false (by omega)]; rfl
  · rw [if_neg (by simpa using q)]
    by_cases q2 : x > hi
    · rw [decide_eq_true q2, decide_eq_false (by omega)]; rfl
    · rw [decide_eq_false q2, decide_eq_true (by omega)]; rfl
theorem arefuse1 (b : Bool) (e : Int) : array_refuse_c1_11f9 b e = some (if b = true then e else 0) := by
  unfold array_refuse_c1_11f9; cases b <;> rfl
theorem placed_eq (x y z : Int) : ∃ e, array_each_c1_6239 (([x, y, z] : List Int).length : Int) [x, y, z] (-5000) 5000 = some e ∧ (e = 0 ↔ inP x ∧ inP y ∧ inP z) := by
  unfold array_each_c1_6239
  have hw : ∀ k : Nat, k < ([x, y, z] : List Int).length → array_allWithin_c1_ea58 (k : Int) [x, y, z] (-5000) 5000 = some (if inP (([x, y, z] : List Int).getD k 0) then 0 else 2) := fun k hk => by
    unfold array_allWithin_c1_ea58
    rw [getI_nat, List.getElem?_eq_getElem hk, Option.bind_some, awithin_eq, Option.bind_some]
    dsimp only
    rw [arefuse1, Option.bind_some, show ([x, y, z] : List Int).getD k 0 = ([x, y, z] : List Int)[k] by rw [List.getD_eq_getElem?_getD, List.getElem?_eq_getElem hk]; rfl]
    by_cases q : inP ([x, y, z] : List Int)[k]
    · have q' : -5000 ≤ ([x, y, z] : List Int)[k] ∧ ([x, y, z] : List Int)[k] ≤ 5000 := q
      rw [decide_eq_true q', if_pos q]; rfl
    · have q' : ¬ (-5000 ≤ ([x, y, z] : List Int)[k] ∧ ([x, y, z] : List Int)[k] ≤ 5000) := q
      rw [decide_eq_false q', if_neg q]; rfl
  have hiff : (∀ k, k < ([x, y, z] : List Int).length → inP (([x, y, z] : List Int).getD k 0)) ↔ inP x ∧ inP y ∧ inP z := by
    constructor
    · intro h
      exact ⟨h 0 (by simp), h 1 (by simp), h 2 (by simp)⟩
    · rintro ⟨h1, h2, h3⟩ k hk
      match k, hk with
      | 0, _ => exact h1
      | 1, _ => exact h2
      | 2, _ => exact h3
      | k + 3, hk => simp at hk; omega
  rcases scanP (step := array_each_c1_6239_l1 (([x, y, z] : List Int).length : Int) [x, y, z] (-5000) 5000) (n := ([x, y, z] : List Int).length) (P := fun k => inP (([x, y, z] : List Int).getD k 0)) (Q := fun b => b = 2) (fun k hk hp => by
    dsimp only [array_each_c1_6239_l1]
    rw [if_pos (by simp at hk ⊢; omega), hw k hk, if_pos hp, Option.bind_some, if_neg (by simp), w64 (by simp at hk; omega)]
    rfl) (fun k hk hp => by
    refine ⟨2, rfl, ?_⟩
    dsimp only [array_each_c1_6239_l1]
    rw [if_pos (by simp at hk ⊢; omega), hw k hk, if_neg hp, Option.bind_some, if_pos (by simp)]) (by
    dsimp only [array_each_c1_6239_l1]
    rw [if_neg (by simp)]) with ⟨a, b⟩ | ⟨a, b, hb, hr⟩
  · rw [b]
    exact ⟨0, rfl, ⟨fun _ => hiff.1 a, fun _ => rfl⟩⟩
  · rw [hr]
    subst hb
    exact ⟨2, rfl, ⟨fun h => by omega, fun h => absurd (hiff.2 h) a⟩⟩
theorem adj_eq (g d : Int) : array_adjusted_c1_b585 g d = some (if (0 ≤ g ∧ g ≤ 1000) ∧ (0 ≤ d ∧ d ≤ 10000) then 0 else 2) := by
  unfold array_adjusted_c1_b585 array_firstError_751b
  simp only [awithin_eq, Option.bind_some, arefuse1]
  by_cases q : 0 ≤ g ∧ g ≤ 1000
  · by_cases q2 : 0 ≤ d ∧ d ≤ 10000
    · simp [q, q2]
    · simp [q, q2]
  · simp [q]
theorem aud_eq (g d : Int) : array_audible_c1_eebc g d = some (if (8000 ≤ g ∧ g ≤ 192000) ∧ (30000 ≤ d ∧ d ≤ 40000) then 0 else 2) := by
  unfold array_audible_c1_eebc array_firstError_751b
  simp only [awithin_eq, Option.bind_some, arefuse1]
  by_cases q : 8000 ≤ g ∧ g ≤ 192000
  · by_cases q2 : 30000 ≤ d ∧ d ≤ 40000
    · simp [q, q2]
    · simp [q, q2]
  · simp [q]
theorem cnt_eq (n : Nat) : ∃ e, array_counted_c1_b585 (n : Int) 8 = some e ∧ (e = 0 ↔ 1 ≤ n ∧ n ≤ 8) := by
  unfold array_counted_c1_b585 array_firstError_751b array_refuse
  simp only [Option.bind_some, arefuse1]
  by_cases q : (n : Int) = 0
  · refine ⟨10, by simp [q], by omega⟩
  · by_cases q2 : (n : Int) > 8
    · refine ⟨8, by simp [q, q2]; omega, by omega⟩
    · refine ⟨0, by simp [q, q2]; omega, by omega⟩
def okS (s : Spk) : Prop := (inP s.1 ∧ inP s.2.1 ∧ inP s.2.2.1) ∧ (0 ≤ s.2.2.2.1 ∧ s.2.2.2.1 ≤ 1000) ∧ (0 ≤ s.2.2.2.2 ∧ s.2.2.2.2 ≤ 10000)
theorem spk_eq (x y z g d : Int) : ∃ e, array_firstError_34f2 (([x, y, z] : List Int).length : Int) [x, y, z] (-5000) 5000 g d = some e ∧ (e = 0 ↔ okS (x, y, z, g, d)) := by
  obtain ⟨e, he, hi⟩ := placed_eq x y z
  unfold array_firstError_34f2
  rw [he, Option.bind_some]
  by_cases q : e = 0
  · rw [if_neg (by simpa using q), adj_eq, Option.bind_some]
    by_cases q2 : (0 ≤ g ∧ g ≤ 1000) ∧ (0 ≤ d ∧ d ≤ 10000)
    · rw [if_pos q2, if_neg (by simp)]
      exact ⟨0, rfl, ⟨fun _ => ⟨hi.1 q, q2⟩, fun _ => rfl⟩⟩
    · rw [if_neg q2, if_pos (by simp)]
      exact ⟨2, rfl, ⟨fun h => by omega, fun h => absurd h.2 q2⟩⟩
  · rw [if_pos (by simpa using q)]
    exact ⟨e, rfl, ⟨fun h => absurd h q, fun h => absurd (hi.2 h.1) q⟩⟩
def okA (u v : Int) (l : List Spk) : Prop := ((8000 ≤ u ∧ u ≤ 192000) ∧ (30000 ≤ v ∧ v ≤ 40000)) ∧ (1 ≤ l.length ∧ l.length ≤ 8) ∧ ∀ k (h : k < l.length), okS l[k]
theorem placed_is (x y z : Int) : array_placed x y z = some ((([x, y, z] : List Int).length : Int), [x, y, z], -5000, 5000) := rfl
theorem arr_eq (u v : Int) (l : List Spk) : ∃ e, array_rig_check u v l = some e ∧ (e = 0 ↔ okA u v l) := by
  unfold array_rig_check array_CheckArray array_rig_sound array_audible array_counted array_firstError_2e50
  simp only [Option.bind_some, aud_eq]
  obtain ⟨e, he, hi⟩ := cnt_eq l.length
  by_cases q : (8000 ≤ u ∧ u ≤ 192000) ∧ (30000 ≤ v ∧ v ≤ 40000)
  · rw [if_pos q, if_neg (by simp), he, Option.bind_some]
    by_cases q2 : e = 0
    · rw [if_neg (by simpa using q2), Option.bind_some, if_neg (by simp)]
      have hlen := hi.1 q2
      rcases scanP (step := array_CheckArray_l1 l) (n := l.length) (P := fun k => ∀ h : k < l.length, okS l[k]) (Q := fun b => b.2 ≠ 0) (fun k hk hp => by
        dsimp only [array_CheckArray_l1]
        rw [if_pos (by simpa using hk), getI_nat, List.getElem?_eq_getElem hk, Option.bind_some]
        have hp := hp hk
        rcases hl : l[k] with ⟨x, y, z, g, d⟩
        rw [hl] at hp
        obtain ⟨e', he', hi'⟩ := spk_eq x y z g d
        have h0 := hi'.2 hp
        subst h0
        dsimp only
        unfold array_adjusted
        rw [placed_is, Option.bind_some, Option.bind_some]
        dsimp only
        rw [he', Option.bind_some, if_neg (by simp), w64 (by omega)]
        rfl) (fun k hk hp => by
        have hp' : ¬ okS l[k] := fun h => hp (fun _ => h)
        dsimp only [array_CheckArray_l1]
        rw [if_pos (by simpa using hk), getI_nat, List.getElem?_eq_getElem hk, Option.bind_some]
        rcases hl : l[k] with ⟨x, y, z, g, d⟩
        rw [hl] at hp'
        obtain ⟨e', he', hi'⟩ := spk_eq x y z g d
        have h0 : e' ≠ 0 := fun h => hp' (hi'.1 h)
        refine ⟨((k : Int), e'), h0, ?_⟩
        dsimp only
        unfold array_adjusted
        rw [placed_is, Option.bind_some, Option.bind_some]
        dsimp only
        rw [he', Option.bind_some, if_pos (by simpa using h0)]) (by
        dsimp only [array_CheckArray_l1]
        rw [if_neg (by simp)]) with ⟨a, b⟩ | ⟨a, ⟨b1, b2⟩, hb, hr⟩
      · rw [b]
        exact ⟨0, rfl, ⟨fun _ => ⟨q, hlen, fun k h => a k h h⟩, fun _ => rfl⟩⟩
      · rw [hr]
        exact ⟨b2, rfl, ⟨fun h => absurd h hb, fun h => absurd (fun k _ hk => h.2.2 k hk) a⟩⟩
    · rw [if_pos (by simpa using q2), Option.bind_some, if_pos (by simpa using q2)]
      exact ⟨e, rfl, ⟨fun h => absurd h q2, fun h => absurd (hi.2 h.2.1) q2⟩⟩
  · rw [if_neg q, if_pos (by simp), Option.bind_some, if_pos (by simp)]
    exact ⟨2, rfl, ⟨fun h => by simp at h, fun h => absurd h.1 q⟩⟩
def okH (u v : Int) (l : List Spk) (a b c : Int) : Prop := okA u v l ∧ (inP a ∧ inP b ∧ inP c) ∧ ∀ k (h : k < l.length), 100 ≤ sqd l[k].1 l[k].2.1 l[k].2.2.1 a b c
theorem chkA_eq (u v : Int) (l : List Spk) (a b c : Int) : ∃ e, array_firstError_05b8 u v l u v l a b c = some e ∧ (e = 0 ↔ okH u v l a b c) := by
  unfold array_firstError_05b8
  obtain ⟨e, he, hi⟩ := arr_eq u v l
  rw [he, Option.bind_some]
  by_cases q : e = 0
  · have hA := hi.1 q
    rw [if_neg (by simpa using q)]
    unfold array_heard_seated array_each_a530 array_firstError_71a7
    rw [placed_is, Option.bind_some]
    dsimp only
    rw [Option.bind_some]
    dsimp only
    obtain ⟨e2, he2, hi2⟩ := placed_eq a b c
    rw [he2, Option.bind_some]
    by_cases q2 : e2 = 0
    · have hP := hi2.1 q2
      rw [if_neg (by simpa using q2)]
      unfold array_each_c1_d3aa
      have hst : ∀ k (hk : k < l.length), array_heard_seated_c1_09d0 (k : Int) u v l a b c = some (if sqd l[k].1 l[k].2.1 l[k].2.2.1 a b c < 100 then 11 else 0) := fun k hk => by
        have hs := hA.2.2 k hk
        unfold array_heard_seated_c1_09d0
        rw [getI_nat, List.getElem?_eq_getElem hk, Option.bind_some]
        rcases hl : l[k] with ⟨x, y, z, g, d⟩
        rw [hl] at hs
        unfold array_heard_wayFrom
        dsimp only
        rw [Option.bind_some]
        dsimp only
        rw [apart_eq hs.1.1 hs.1.2.1 hs.1.2.2 hP.1 hP.2.1 hP.2.2, Option.bind_some]
      have hlen := hA.2.1
      rcases scanP (step := array_each_c1_d3aa_l1 (l.length : Int) u v l a b c) (n := l.length) (P := fun k => ∀ h : k < l.length, 100 ≤ sqd l[k].1 l[k].2.1 l[k].2.2.1 a b c) (Q := fun b => b ≠ 0) (fun k hk hp => by
        have hp := hp hk
        dsimp only [array_each_c1_d3aa_l1]
        rw [if_pos (by simpa using hk), hst k hk, if_neg (by omega), Option.bind_some, if_neg (by simp), w64 (by omega)]
        rfl) (fun k hk hp => by
        have hp' : sqd l[k].1 l[k].2.1 l[k].2.2.1 a b c < 100 := by
          rcases Int.lt_or_le (sqd l[k].1 l[k].2.1 l[k].2.2.1 a b c) 100 with h | h
          · exact h
          · exact absurd (fun _ => h) hp
        refine ⟨11, by simp, ?_⟩
        dsimp only [array_each_c1_d3aa_l1]
        rw [if_pos (by simpa using hk), hst k hk, if_pos hp', Option.bind_some, if_pos (by simp)]) (by
        dsimp only [array_each_c1_d3aa_l1]
        rw [if_neg (by simp)]) with ⟨a1, b1⟩ | ⟨a1, b2, hb, hr⟩
      · rw [b1]
        exact ⟨0, rfl, ⟨fun _ => ⟨hA, hP, fun k h => a1 k h h⟩, fun _ => rfl⟩⟩
      · rw [hr]
        refine ⟨b2, ?_, ⟨fun h => absurd h hb, fun h => absurd (fun k _ hk => h.2.2 k hk) a1⟩⟩
        simp only [Option.bind_some]
        rw [if_pos (by simpa using hb)]
        simp only [Option.bind_some]
        rw [if_pos (by simpa using hb)]
    · rw [if_pos (by simpa using q2), Option.bind_some, Option.bind_some, if_pos (by simpa using q2)]
      exact ⟨e2, rfl, ⟨fun h => absurd h q2, fun h => absurd (hi2.2 h.2.1) q2⟩⟩
  · rw [if_pos (by simpa using q)]
    exact ⟨e, rfl, ⟨fun h => absurd h q, fun h => absurd (hi.2 h.1) q⟩⟩
end Go.Rex

namespace Go.Rex
/-! ### what loudspeakers do at a seat -/
theorem run_inv {σ ε : Type} {step : σ → Option (σ ⊕ ε)} {Inv : Nat → σ → Prop} {Post : ε → Prop} {n : Nat} (h : ∀ k, k < n → ∀ s, Inv k s → ∃ s', step s = some (.inl s') ∧ Inv (k + 1) s') (he : ∀ s, Inv n s → ∃ e, step s = some (.inr e) ∧ Post e) {s : σ} (h0 : Inv 0 s) : ∃ e, run step s = some e ∧ Post e := by
  have key : ∀ (d j : Nat) (s : σ), j + d = n → Inv j s → ∃ e, run step s = some e ∧ Post e := by
    intro d
    induction d with
    | zero =>
      intro j s hj hi
      obtain rfl : j = n := by omega
      obtain ⟨e, h1, h2⟩ := he s hi
      exact ⟨e, run_stop h1, h2⟩
    | succ d ih =>
      intro j s hj hi
      obtain ⟨s', h1, h2⟩ := h j (by omega) s hi
      rw [run_next h1]
      exact ih (j + 1) s' (by omega) h2
  exact key n 0 s (by omega) h0
def sp (l : List Spk) (k : Nat) : Spk := l.getD k (0, 0, 0, 0, 0)
theorem sp_at {l : List Spk} {k : Nat} (h : k < l.length) : l[k]? = some (sp l k) := by
  unfold sp
  rw [List.getD_eq_getElem?_getD, List.getElem?_eq_getElem h]; rfl
theorem sp_eq {l : List Spk} {k : Nat} (h : k < l.length) : l[k] = sp l k := by
  have := sp_at h
  rw [List.getElem?_eq_getElem h] at this
  exact Option.some.inj this
theorem sp_set {l : List Spk} {k : Nat} (h : k < l.length) (x : Spk) (j : Nat) : sp (l.set k x) j = if k = j then x else sp l j := by
  unfold sp
  rw [List.getD_eq_getElem?_getD, List.getD_eq_getElem?_getD, List.getElem?_set]
  by_cases q : k = j
  · subst q; simp [h]
  · simp [q]
def isum (f : Nat → Int) : Nat → Int
  | 0 => 0
  | k + 1 => isum f k + f k
theorem isum_le {f : Nat → Int} {B : Int} : ∀ {n : Nat}, (∀ k, k < n → -B ≤ f k ∧ f k ≤ B) → -(n * B) ≤ isum f n ∧ isum f n ≤ n * B
  | 0, _ => by simp [isum]
  | n + 1, h => by
    have h1 := isum_le (fun k hk => h k (by omega)) (n := n)
    have h2 := h n (by omega)
    have e : ((n + 1 : Nat) : Int) * B = n * B + B := by rw [show ((n + 1 : Nat) : Int) = (n : Int) + 1 by omega, Int.add_mul, Int.one_mul]
    unfold isum
    rw [e]
    omega
section
variable (u v a b c : Int)
noncomputable def nn (s : Spk) : Int × Int := (array_way_numbers s.1 s.2.1 s.2.2.1 a b c u v).getD (0, 0)
noncomputable def ss (s : Spk) : Int × Int := (array_way_strength s.1 s.2.1 s.2.2.1 a b c).getD (0, 0)
noncomputable def prt (s : Spk) : Int × Int × Int × Int × Int × Int × Int × Int × Int := (s.1, s.2.1, s.2.2.1, s.2.2.2.1, s.2.2.2.2, (nn u v a b c s).1, (nn u v a b c s).2, (ss a b c s).1, (ss a b c s).2)
noncomputable def gs (s : Spk) : Int := s.2.2.2.1 * (ss a b c s).1
noncomputable def ph (s : Spk) : Int := ((nn u v a b c s).1 + s.2.2.2.2) % 4
end
def cC (j : Int) : Int := if j = 0 then 1 else if j = 2 then -1 else 0
def cD (j : Int) : Int := if j = 1 then -1 else if j = 3 then 1 else 0
section
variable {u v a b c : Int} {l : List Spk}
theorem ok_at (hk : okH u v l a b c) {k : Nat} (h : k < l.length) : okS (sp l k) ∧ 100 ≤ sqd (sp l k).1 (sp l k).2.1 (sp l k).2.2.1 a b c := by
  have h1 := hk.1.2.2 k h
  have h2 := hk.2.2 k h
  rw [sp_eq h] at h1 h2
  exact ⟨h1, h2⟩
theorem pt_ok (hk : okH u v l a b c) {k : Nat} (h : k < l.length) : array_way_numbers (sp l k).1 (sp l k).2.1 (sp l k).2.2.1 a b c u v = some (nn u v a b c (sp l k)) ∧ array_way_strength (sp l k).1 (sp l k).2.1 (sp l k).2.2.1 a b c = some (ss a b c (sp l k)) ∧ (0 ≤ (nn u v a b c (sp l k)).1 ∧ (nn u v a b c (sp l k)).1 ≤ 10000000000000) ∧ (0 ≤ (ss a b c (sp l k)).1 ∧ (ss a b c (sp l k)).1 ≤ 100000) := by
  obtain ⟨h1, h2⟩ := ok_at hk h
  obtain ⟨N, N', S, S', e1, e2, e3, e4, e5, e6⟩ := way_eq (u := u) (v := v) h1.1.1 h1.1.2.1 h1.1.2.2 hk.2.1.1 hk.2.1.2.1 hk.2.1.2.2 h2 hk.1.1.1 hk.1.1.2
  unfold nn ss
  rw [e1, e2]
  exact ⟨rfl, rfl, ⟨e3, e4⟩, ⟨e5, e6⟩⟩
theorem gs_le (hk : okH u v l a b c) {k : Nat} (h : k < l.length) : 0 ≤ gs a b c (sp l k) ∧ gs a b c (sp l k) ≤ 100000000 := by
  obtain ⟨_, _, _, h4, h5⟩ := pt_ok hk h
  obtain ⟨h1, h2⟩ := ok_at hk h
  unfold gs
  exact ⟨Int.mul_nonneg h1.2.1.1 h4, Int.le_trans (Int.mul_le_mul h1.2.1.2 h5 h4 (by omega)) (by omega)⟩
theorem take_snoc {α : Type} {l : List α} {k : Nat} {x : α} (h : l[k]? = some x) : l.take (k + 1) = l.take k ++ [x] := by
  rw [List.take_add_one, h]; rfl
theorem parts_eq (hk : okH u v l a b c) : array_heard_parts u v l a b c = some (l.map (prt u v a b c)) := by
  have hlen := hk.1.2.1
  unfold array_heard_parts
  have hrun := run_count (step := array_heard_parts_l1 u v l a b c) (e := l.map (prt u v a b c)) (fun k => ((l.take k).map (prt u v a b c), (k : Int))) (n := l.length) (fun k hkk => ?_) ?_
  · rw [show (([] : List (Int × Int × Int × Int × Int × Int × Int × Int × Int)), (0 : Int)) = ((l.take 0).map (prt u v a b c), ((0 : Nat) : Int)) from by simp, hrun]
    rfl
  · obtain ⟨h1, h2, _, _⟩ := pt_ok hk hkk
    dsimp only [array_heard_parts_l1]
    rw [if_pos (by simpa using hkk), getI_nat, sp_at hkk, Option.bind_some]
    unfold array_heard_wayFrom array_rig_sound
    try dsimp only
    rw [Option.bind_some, Option.bind_some]
    try dsimp only
    rw [h1, Option.bind_some, h2, Option.bind_some]
    try dsimp only
    rw [appI_one (by simp; omega) (by omega), Option.bind_some, w64 (by omega), take_snoc (sp_at hkk), List.map_append]
    rfl
  · dsimp only [array_heard_parts_l1]
    rw [if_neg (by simp), List.take_length]
theorem prt_at {k : Nat} (h : k < l.length) : getI (l.map (prt u v a b c)) (k : Int) = some (prt u v a b c (sp l k)) := by
  rw [getI_nat, List.getElem?_map, sp_at h]; rfl
theorem share_eq (hk : okH u v l a b c) {k : Nat} (h : k < l.length) : ∃ p q, array_part_nominal (sp l k).1 (sp l k).2.1 (sp l k).2.2.1 (sp l k).2.2.2.1 (sp l k).2.2.2.2 (nn u v a b c (sp l k)).1 (nn u v a b c (sp l k)).2 (ss a b c (sp l k)).1 (ss a b c (sp l k)).2 = some (p, q) ∧ Whole p (gs a b c (sp l k) * cC (ph u v a b c (sp l k))) ∧ Whole q (gs a b c (sp l k) * cD (ph u v a b c (sp l k))) := by
  obtain ⟨_, _, h3, _⟩ := pt_ok hk h
  obtain ⟨h1, _⟩ := ok_at hk h
  have hd := h1.2.2
  have hg := gs_le hk h
  unfold array_part_nominal array_part_share
  rw [w64 (x := (nn u v a b c (sp l k)).1 + (sp l k).2.2.2.2) (by omega), Int.tmod_eq_emod_of_nonneg (by omega)]
  have he : (sp l k).2.2.2.1 * (ss a b c (sp l k)).1 = gs a b c (sp l k) := rfl
  rw [he, w64 (x := gs a b c (sp l k)) (by omega)]
  have hw := whole_of (x := gs a b c (sp l k)) (by omega)
  have hj : ((nn u v a b c (sp l k)).1 + (sp l k).2.2.2.2) % 4 = ph u v a b c (sp l k) := rfl
  rw [hj]
  have hr : ph u v a b c (sp l k) = 0 ∨ ph u v a b c (sp l k) = 1 ∨ ph u v a b c (sp l k) = 2 ∨ ph u v a b c (sp l k) = 3 := by unfold ph; omega
  have fin : ∀ (j : Int) (d1 d2 : Nat), getI ([(4607182418800017408, 0), (0, 13830554455654793216), (13830554455654793216, 0), (0, 4607182418800017408)] : List (Nat × Nat)) j = some (d1, d2) → Whole d1 (cC j) → Whole d2 (cD j) → (cC j).natAbs ≤ 1 → (cD j).natAbs ≤ 1 → ∃ p q, ((getI ([(4607182418800017408, 0), (0, 13830554455654793216), (13830554455654793216, 0), (0, 4607182418800017408)] : List (Nat × Nat)) j).bind fun (v14, v15) => (cmul (FloatKind.f64.nearest (gs a b c (sp l k))) 0 v14 v15).bind fun (v16, v17) => some (v16, v17)).bind (fun (v12, v13) => some (v12, v13)) = some (p, q) ∧ Whole p (gs a b c (sp l k) * cC j) ∧ Whole q (gs a b c (sp l k) * cD j) := by
    intro j d1 d2 hg2 w1 w2 b1 b2
    obtain ⟨p, q, hc, wp, wq⟩ := wcmul hw w1 w2 (by omega) b1 b2
    refine ⟨p, q, ?_, wp, wq⟩
    rw [hg2, Option.bind_some]
    try dsimp only
    rw [hc]
    rfl
  rcases hr with q | q | q | q <;> rw [q]
  · exact fin 0 _ _ rfl w_one w_zero (by decide) (by decide)
  · exact fin 1 _ _ rfl w_zero w_mone (by decide) (by decide)
  · exact fin 2 _ _ rfl w_mone w_zero (by decide) (by decide)
  · exact fin 3 _ _ rfl w_zero w_one (by decide) (by decide)
theorem cCD (j : Int) : (-1 ≤ cC j ∧ cC j ≤ 1) ∧ (-1 ≤ cD j ∧ cD j ≤ 1) := by
  unfold cC cD
  refine ⟨?_, ?_⟩ <;> (split <;> first | omega | (split <;> omega))
theorem mul_le {x y B : Int} (h0 : 0 ≤ x) (h1 : x ≤ B) (hy : -1 ≤ y ∧ y ≤ 1) : -B ≤ x * y ∧ x * y ≤ B := by
  have : y = -1 ∨ y = 0 ∨ y = 1 := by omega
  rcases this with rfl | rfl | rfl
  · rw [Int.mul_neg, Int.mul_one]; omega
  · rw [Int.mul_zero]; omega
  · rw [Int.mul_one]; omega
noncomputable def rePart (u v a b c : Int) (l : List Spk) (k : Nat) : Int := gs a b c (sp l k) * cC (ph u v a b c (sp l k))
noncomputable def imPart (u v a b c : Int) (l : List Spk) (k : Nat) : Int := gs a b c (sp l k) * cD (ph u v a b c (sp l k))
theorem part_le (hk : okH u v l a b c) {n : Nat} (hn : n ≤ l.length) : (-800000000 ≤ isum (rePart u v a b c l) n ∧ isum (rePart u v a b c l) n ≤ 800000000) ∧ (-800000000 ≤ isum (imPart u v a b c l) n ∧ isum (imPart u v a b c l) n ≤ 800000000) := by
  have hlen := hk.1.2.1
  have h1 := isum_le (f := rePart u v a b c l) (B := 100000000) (n := n) (fun k h => by
    have hg := gs_le hk (k := k) (by omega)
    exact mul_le hg.1 hg.2 (cCD _).1)
  have h2 := isum_le (f := imPart u v a b c l) (B := 100000000) (n := n) (fun k h => by
    have hg := gs_le hk (k := k) (by omega)
    exact mul_le hg.1 hg.2 (cCD _).2)
  omega
theorem pressure_eq (hk : okH u v l a b c) : ∃ p q, array_PressureAt u v l a b c = some (p, q, 0) ∧ Whole p (isum (rePart u v a b c l) l.length) ∧ Whole q (isum (imPart u v a b c l) l.length) := by
  have hlen := hk.1.2.1
  have hrun : ∃ e, run (array_heard_pressure_l1 (l.map (prt u v a b c))) (0, 0, 0) = some e ∧ (Whole e.1 (isum (rePart u v a b c l) l.length) ∧ Whole e.2 (isum (imPart u v a b c l) l.length)) := by
    refine run_inv (Inv := fun k s => Whole s.1 (isum (rePart u v a b c l) k) ∧ Whole s.2.1 (isum (imPart u v a b c l) k) ∧ s.2.2 = (k : Int)) (n := l.length) (fun k hkk s hs => ?_) (fun s hs => ?_) ⟨w_zero, w_zero, rfl⟩
    · obtain ⟨x, y, i⟩ := s
      obtain ⟨w1, w2, hi⟩ := hs
      replace hi : i = (k : Int) := hi
      subst hi
      obtain ⟨p, q, hp, w3, w4⟩ := share_eq hk hkk
      have hb := part_le hk (n := k + 1) (by omega)
      have e1 : isum (rePart u v a b c l) (k + 1) = isum (rePart u v a b c l) k + gs a b c (sp l k) * cC (ph u v a b c (sp l k)) := rfl
      have e2 : isum (imPart u v a b c l) (k + 1) = isum (imPart u v a b c l) k + gs a b c (sp l k) * cD (ph u v a b c (sp l k)) := rfl
      obtain ⟨r, hr, w5⟩ := wadd w1 w3 (by rw [← e1]; omega)
      obtain ⟨t, ht, w6⟩ := wadd w2 w4 (by rw [← e2]; omega)
      refine ⟨(r, t, ((k + 1 : Nat) : Int)), ?_, by rw [e1]; exact w5, by rw [e2]; exact w6, rfl⟩
      dsimp only [array_heard_pressure_l1]
      rw [if_pos (by simpa using hkk), prt_at hkk, Option.bind_some]
      unfold prt
      try dsimp only
      rw [hp, Option.bind_some]
      try dsimp only
      rw [hr, Option.bind_some, ht, Option.bind_some, w64 (by omega)]
      rfl
    · obtain ⟨x, y, i⟩ := s
      obtain ⟨w1, w2, hi⟩ := hs
      replace hi : i = (l.length : Int) := hi
      subst hi
      refine ⟨(x, y), ?_, w1, w2⟩
      dsimp only [array_heard_pressure_l1]
      rw [if_neg (by simp)]
  obtain ⟨⟨p, q⟩, hr, w1, w2⟩ := hrun
  refine ⟨p, q, ?_, w1, w2⟩
  obtain ⟨e, he, hi⟩ := chkA_eq u v l a b c
  have h0 := hi.2 hk
  subst h0
  unfold array_PressureAt array_told_complex128_eda1 array_heard_pressure
  rw [he, Option.bind_some, if_neg (by simp), parts_eq hk, Option.bind_some, hr]
  rfl
theorem energy_eq (hk : okH u v l a b c) : ∃ hi, array_EnergyAt u v l a b c = some (isum (fun k => gs a b c (sp l k) * gs a b c (sp l k)) l.length, hi, 0) := by
  have hlen := hk.1.2.1
  have hsq : ∀ k, k < l.length → 0 ≤ gs a b c (sp l k) * gs a b c (sp l k) ∧ gs a b c (sp l k) * gs a b c (sp l k) ≤ 10000000000000000 := fun k h => by
    have hg := gs_le hk h
    exact ⟨Int.mul_nonneg hg.1 hg.1, Int.le_trans (Int.mul_le_mul hg.2 hg.2 hg.1 (by omega)) (by omega)⟩
  have hrun : ∃ e, run (array_heard_energy_l1 (l.map (prt u v a b c))) (0, 0, 0) = some e ∧ e.1 = isum (fun k => gs a b c (sp l k) * gs a b c (sp l k)) l.length := by
    refine run_inv (Inv := fun k s => s.1 = isum (fun k => gs a b c (sp l k) * gs a b c (sp l k)) k ∧ s.2.2 = (k : Int)) (n := l.length) (fun k hkk s hs => ?_) (fun s hs => ?_) ⟨rfl, rfl⟩
    · obtain ⟨x, y, i⟩ := s
      obtain ⟨w1, hi⟩ := hs
      replace hi : i = (k : Int) := hi
      replace w1 : x = isum (fun k => gs a b c (sp l k) * gs a b c (sp l k)) k := w1
      subst hi
      have hb := isum_le (f := fun k => gs a b c (sp l k) * gs a b c (sp l k)) (B := 10000000000000000) (n := k) (fun j hj => by have := hsq j (by omega); omega)
      have hs2 := hsq k hkk
      have hg := gs_le hk hkk
      have e0 : (ss a b c (sp l k)).1 * (sp l k).2.2.2.1 = gs a b c (sp l k) := Int.mul_comm _ _
      obtain ⟨w, hw⟩ : ∃ w, array_up (IntKind.i64.wrap ((ss a b c (sp l k)).2 * (sp l k).2.2.2.1)) 1 = some w := ⟨_, rfl⟩
      refine ⟨(x + gs a b c (sp l k) * gs a b c (sp l k), IntKind.i64.wrap (y + IntKind.i64.wrap (w * w)), ((k + 1 : Nat) : Int)), ?_, by show x + _ = _; rw [w1]; rfl, rfl⟩
      dsimp only [array_heard_energy_l1]
      rw [if_pos (by simpa using hkk), prt_at hkk, Option.bind_some]
      unfold prt array_scaled
      try dsimp only
      rw [if_neg (by omega), hw, Option.bind_some, e0, w64 (x := gs a b c (sp l k)) (by omega), Int.tdiv_one, w64 (x := gs a b c (sp l k)) (by omega), Option.bind_some]
      unfold array_squared array_plus
      try dsimp only
      rw [Option.bind_some]
      try dsimp only
      rw [Option.bind_some]
      try dsimp only
      rw [w64 (x := gs a b c (sp l k) * gs a b c (sp l k)) (by omega), w64 (x := x + _) (by omega), w64 (x := (k : Int) + 1) (by omega)]
      rfl
    · obtain ⟨x, y, i⟩ := s
      obtain ⟨w1, hi⟩ := hs
      replace hi : i = (l.length : Int) := hi
      subst hi
      refine ⟨(x, y), ?_, w1⟩
      dsimp only [array_heard_energy_l1]
      rw [if_neg (by simp)]
  obtain ⟨⟨p, q⟩, hr, w1⟩ := hrun
  refine ⟨q, ?_⟩
  obtain ⟨e, he, hi⟩ := chkA_eq u v l a b c
  have h0 := hi.2 hk
  subst h0
  replace w1 : p = _ := w1
  subst w1
  unfold array_EnergyAt array_told_api_Range_d3b0 array_heard_energy
  rw [he, Option.bind_some, if_neg (by simp), parts_eq hk, Option.bind_some, hr]
  rfl
end
end Go.Rex

namespace Go.Rex
theorem acopy_eq (u v : Int) {l : List Spk} (h : l.length ≤ 100) : ref07_Copy u v l = some (u, v, l) := by
  unfold ref07_Copy appI
  rw [if_pos ⟨by simp; omega, by simp; omega⟩]
  rfl
theorem clone_eq {l : List Spk} (h : l.length ≤ 100) : slices_Clone_api_ArraySpeaker_api_ArraySpeaker l = some l := by
  have ha : (appI 40 ([] : List Spk) l) = some l := by
    unfold appI
    rw [if_pos ⟨by simp; omega, by simp; omega⟩]
    rfl
  unfold slices_Clone_api_ArraySpeaker_api_ArraySpeaker nilq
  rw [ha, Option.bind_some]
  by_cases q : l = []
  · subst q; simp
  · rw [if_neg q]
theorem mod20 (x : Int) : ∃ r, base_Mod x 20 = some r ∧ 0 ≤ r ∧ r ≤ 19 := by
  have h1 := Int.tmod_lt_of_pos x (show (0 : Int) < 20 by omega)
  have h2 : -20 < x.tmod 20 := by
    have := Int.natAbs_tmod x 20
    have h3 : (x.tmod 20).natAbs < 20 := by
      rw [this]
      exact Nat.mod_lt _ (by decide)
    omega
  unfold base_Mod
  rw [if_neg (by omega)]
  by_cases q : x.tmod 20 < 0
  · rw [if_pos (by simpa using q), w64 (by omega)]
    exact ⟨_, rfl, by omega, by omega⟩
  · rw [if_neg (by simpa using q)]
    exact ⟨_, rfl, by omega, by omega⟩
section
variable {u v a b c : Int} {l : List Spk}
theorem heardAl_eq (hk : okH u v l a b c) : ∃ (l' : List Spk) (M : Int), array_heard_aligned u v l a b c = some (u, v, l') ∧ l'.length = l.length ∧ (∀ j, j < l.length → sp l' j = ((sp l j).1, (sp l j).2.1, (sp l j).2.2.1, (sp l j).2.2.2.1, M - (nn u v a b c (sp l j)).1)) ∧ (∀ j, j < l.length → (nn u v a b c (sp l j)).1 ≤ M) ∧ 0 ≤ M ∧ M ≤ 10000000000000 := by
  have hlen := hk.1.2.1
  have hm : ∃ M, run (array_heard_aligned_l1 (l.map (prt u v a b c))) (0, 0) = some M ∧ ((∀ j, j < l.length → (nn u v a b c (sp l j)).1 ≤ M) ∧ 0 ≤ M ∧ M ≤ 10000000000000) := by
    refine run_inv (Inv := fun k s => (∀ j, j < k → (nn u v a b c (sp l j)).1 ≤ s.1) ∧ (0 ≤ s.1 ∧ s.1 ≤ 10000000000000) ∧ s.2 = (k : Int)) (n := l.length) (fun k hkk s hs => ?_) (fun s hs => ?_) ⟨fun j hj => by omega, ⟨by simp, by simp⟩, rfl⟩
    · obtain ⟨x, i⟩ := s
      obtain ⟨w1, w2, hi⟩ := hs
      replace hi : i = (k : Int) := hi
      replace w1 : ∀ j, j < k → (nn u v a b c (sp l j)).1 ≤ x := w1
      replace w2 : 0 ≤ x ∧ x ≤ 10000000000000 := w2
      subst hi
      obtain ⟨_, _, h3, _⟩ := pt_ok hk hkk
      refine ⟨((if (nn u v a b c (sp l k)).1 > x then (nn u v a b c (sp l k)).1 else x), ((k + 1 : Nat) : Int)), ?_, fun j hj => ?_, ?_, rfl⟩
      · dsimp only [array_heard_aligned_l1]
        rw [if_pos (by simpa using hkk), prt_at hkk, Option.bind_some]
        unfold prt
        try dsimp only
        rw [w64 (x := (k : Int) + 1) (by omega)]
        rfl
      · show (nn u v a b c (sp l j)).1 ≤ if (nn u v a b c (sp l k)).1 > x then (nn u v a b c (sp l k)).1 else x
        rcases Nat.lt_or_ge j k with h | h
        · have := w1 j h
          split <;> omega
        · obtain rfl : j = k := by omega
          split <;> omega
      · show 0 ≤ (if (nn u v a b c (sp l k)).1 > x then (nn u v a b c (sp l k)).1 else x) ∧ (if (nn u v a b c (sp l k)).1 > x then (nn u v a b c (sp l k)).1 else x) ≤ 10000000000000
        split <;> omega
    · obtain ⟨x, i⟩ := s
      obtain ⟨w1, w2, hi⟩ := hs
      replace hi : i = (l.length : Int) := hi
      subst hi
      refine ⟨x, ?_, w1, w2⟩
      dsimp only [array_heard_aligned_l1]
      rw [if_neg (by simp)]
  obtain ⟨M, hM, hM1, hM2, hM3⟩ := hm
  have hl : ∃ L, run (array_heard_aligned_l2 (l.map (prt u v a b c)) M) (l, 0) = some L ∧ (L.length = l.length ∧ ∀ j, j < l.length → sp L j = ((sp l j).1, (sp l j).2.1, (sp l j).2.2.1, (sp l j).2.2.2.1, M - (nn u v a b c (sp l j)).1)) := by
    refine run_inv (Inv := fun k s => s.1.length = l.length ∧ (∀ j, j < l.length → sp s.1 j = if j < k then ((sp l j).1, (sp l j).2.1, (sp l j).2.2.1, (sp l j).2.2.2.1, M - (nn u v a b c (sp l j)).1) else sp l j) ∧ s.2 = (k : Int)) (n := l.length) (fun k hkk s hs => ?_) (fun s hs => ?_) ⟨rfl, fun j hj => by rw [if_neg (by omega)], rfl⟩
    · obtain ⟨L, i⟩ := s
      obtain ⟨w1, w2, hi⟩ := hs
      replace hi : i = (k : Int) := hi
      replace w1 : L.length = l.length := w1
      replace w2 : ∀ j, j < l.length → sp L j = if j < k then ((sp l j).1, (sp l j).2.1, (sp l j).2.2.1, (sp l j).2.2.2.1, M - (nn u v a b c (sp l j)).1) else sp l j := w2
      subst hi
      obtain ⟨_, _, h3, _⟩ := pt_ok hk hkk
      have hkL : k < L.length := by omega
      have hcur := w2 k hkk
      rw [if_neg (by omega)] at hcur
      refine ⟨(L.set k ((sp l k).1, (sp l k).2.1, (sp l k).2.2.1, (sp l k).2.2.2.1, M - (nn u v a b c (sp l k)).1), ((k + 1 : Nat) : Int)), ?_, by simp [w1], fun j hj => ?_, rfl⟩
      · dsimp only [array_heard_aligned_l2]
        rw [if_pos (by simpa using hkk), prt_at hkk, Option.bind_some, getI_nat, sp_at hkL, Option.bind_some, hcur]
        unfold prt
        try dsimp only
        rw [w64 (x := (k : Int) + 1) (by omega), w64 (x := M - (nn u v a b c (sp l k)).1) (by omega), Int.toNat_natCast]
        rfl
      · show sp (L.set k _) j = _
        rw [sp_set hkL]
        by_cases q : k = j
        · subst q; rw [if_pos rfl, if_pos (by omega)]
        · rw [if_neg q, w2 j hj]
          by_cases q2 : j < k
          · rw [if_pos q2, if_pos (by omega)]
          · rw [if_neg q2, if_neg (by omega)]
    · obtain ⟨L, i⟩ := s
      obtain ⟨w1, w2, hi⟩ := hs
      replace hi : i = (l.length : Int) := hi
      subst hi
      refine ⟨L, ?_, w1, fun j hj => ?_⟩
      · dsimp only [array_heard_aligned_l2]
        rw [if_neg (by simp)]
      · have := w2 j hj
        rw [if_pos hj] at this
        exact this
  obtain ⟨L, hL, hL1, hL2⟩ := hl
  refine ⟨L, M, ?_, hL1, hL2, hM1, hM2, hM3⟩
  unfold array_heard_aligned array_rig_copied
  rw [parts_eq hk, Option.bind_some, hM, Option.bind_some, clone_eq (by omega), Option.bind_some, Option.bind_some]
  dsimp only
  rw [hL]
  rfl
theorem aligned_cases (u v a b c : Int) (l : List Spk) : (∃ e, e ≠ 0 ∧ array_Aligned u v l a b c = some (0, 0, [], e)) ∨ (okH u v l a b c ∧ ∃ (l' : List Spk) (M : Int), array_Aligned u v l a b c = some (u, v, l', 0) ∧ l'.length = l.length ∧ (∀ j, j < l.length → sp l' j = ((sp l j).1, (sp l j).2.1, (sp l j).2.2.1, (sp l j).2.2.2.1, M - (nn u v a b c (sp l j)).1) ∧ 0 ≤ M - (nn u v a b c (sp l j)).1 ∧ M - (nn u v a b c (sp l j)).1 ≤ 10000)) := by
  obtain ⟨e, he, hi⟩ := chkA_eq u v l a b c
  unfold array_Aligned array_told_api_Array_0533
  rw [he, Option.bind_some]
  by_cases q : e = 0
  · have hk := hi.1 q
    have hlen := hk.1.2.1
    obtain ⟨l', M, h1, h2, h3, h4, h5, h6⟩ := heardAl_eq hk
    rw [if_neg (by simpa using q), h1, Option.bind_some, Option.bind_some]
    dsimp only
    rw [if_neg (by simp)]
    rcases scanP (step := array_Aligned_l1 l') (n := l'.length) (P := fun k => (sp l' k).2.2.2.2 ≤ 10000) (Q := fun _ => True) (fun k hkk hp => by
      dsimp only [array_Aligned_l1]
      rw [if_pos (by simpa using hkk), getI_nat, sp_at hkk, Option.bind_some]
      try dsimp only
      rw [if_neg (by simpa using hp), w64 (by omega)]
      rfl) (fun k hkk hp => by
      refine ⟨(), trivial, ?_⟩
      dsimp only [array_Aligned_l1]
      rw [if_pos (by simpa using hkk), getI_nat, sp_at hkk, Option.bind_some]
      try dsimp only
      rw [if_pos (by simpa using hp)]) (by
      dsimp only [array_Aligned_l1]
      rw [if_neg (by simp)]) with ⟨p, hr⟩ | ⟨p, _, _, hr⟩
    · rw [hr]
      refine .inr ⟨hk, l', M, rfl, h2, fun j hj => ?_⟩
      have h7 := p j (by omega)
      have h8 := h3 j hj
      have h9 := h4 j hj
      rw [h8] at h7
      exact ⟨h8, by omega, h7⟩
    · rw [hr]
      exact .inl ⟨8, by omega, rfl⟩
  · rw [if_pos (by simpa using q), Option.bind_some]
    dsimp only
    rw [if_pos (by simpa using q)]
    exact .inl ⟨e, q, rfl⟩
theorem other_eq (ds : List Int) (hds : ds.length ≤ 8) (hl : l.length ≤ 8) (hok : ∀ j, j < l.length → okS (sp l j)) : ∃ o, run (top_TopAlignedLouder_l1 ds) (l, 0) = some o ∧ (o.length = l.length ∧ ∀ j, j < l.length → ∃ d, sp o j = ((sp l j).1, (sp l j).2.1, (sp l j).2.2.1, (sp l j).2.2.2.1, d) ∧ 0 ≤ d ∧ d ≤ 10000) := by
  refine run_inv (Inv := fun k s => (s.1.length = l.length ∧ ∀ j, j < l.length → ∃ d, sp s.1 j = ((sp l j).1, (sp l j).2.1, (sp l j).2.2.1, (sp l j).2.2.2.1, d) ∧ 0 ≤ d ∧ d ≤ 10000) ∧ s.2 = (k : Int)) (n := min ds.length l.length) (fun k hkk s hs => ?_) (fun s hs => ?_) ⟨⟨rfl, fun j hj => ⟨(sp l j).2.2.2.2, rfl, (hok j hj).2.2⟩⟩, rfl⟩
  · obtain ⟨L, i⟩ := s
    obtain ⟨⟨w1, w2⟩, hi⟩ := hs
    replace hi : i = (k : Int) := hi
    replace w1 : L.length = l.length := w1
    replace w2 : ∀ j, j < l.length → ∃ d, sp L j = ((sp l j).1, (sp l j).2.1, (sp l j).2.2.1, (sp l j).2.2.2.1, d) ∧ 0 ≤ d ∧ d ≤ 10000 := w2
    subst hi
    have hk1 : k < ds.length := by omega
    have hkL : k < L.length := by omega
    obtain ⟨r, hr, hr0, hr1⟩ := mod20 ds[k]
    obtain ⟨d, hd, _⟩ := w2 k (by omega)
    refine ⟨(L.set k ((sp l k).1, (sp l k).2.1, (sp l k).2.2.1, (sp l k).2.2.2.1, r), ((k + 1 : Nat) : Int)), ?_, ⟨by simp [w1], fun j hj => ?_⟩, rfl⟩
    · dsimp only [top_TopAlignedLouder_l1]
      rw [if_pos (by simpa using hk1), if_pos (by simpa using hkL), getI_nat, List.getElem?_eq_getElem hk1, Option.bind_some, hr, Option.bind_some, getI_nat, sp_at hkL, Option.bind_some, hd]
      try dsimp only
      rw [w64 (x := (k : Int) + 1) (by omega), Int.toNat_natCast]
      rfl
    · show ∃ d, sp (L.set k _) j = _ ∧ _
      rw [sp_set hkL]
      by_cases q : k = j
      · subst q; rw [if_pos rfl]; exact ⟨r, rfl, hr0, by omega⟩
      · rw [if_neg q]; exact w2 j hj
  · obtain ⟨L, i⟩ := s
    obtain ⟨⟨w1, w2⟩, hi⟩ := hs
    replace hi : i = ((min ds.length l.length : Nat) : Int) := hi
    replace w1 : L.length = l.length := w1
    subst hi
    refine ⟨L, ?_, w1, w2⟩
    dsimp only [top_TopAlignedLouder_l1]
    by_cases q : min ds.length l.length < ds.length
    · rw [if_pos (by simp only [decide_eq_true_eq]; omega), if_neg (by simp only [decide_eq_true_eq]; omega)]
    · rw [if_neg (by simp only [decide_eq_true_eq]; omega)]
end
/-! ### whole parts are told as they are -/
theorem read_big : FloatKind.f64.format.read 4846369599423283200 = .number false 5000000000000000 ((1 : Nat) : Int) := by decide +kernel
theorem read_mbig : FloatKind.f64.format.read 14069741636278059008 = .number true 5000000000000000 ((1 : Nat) : Int) := by decide +kernel
theorem isWhole_eq {w : Nat} {x : Int} (h : Whole w x) (hx : -1000000000 ≤ x ∧ x ≤ 1000000000) : base_IsWhole w = some true := by
  unfold base_IsWhole
  obtain ⟨r, hr, w0⟩ := wsub h h (by rw [Int.sub_self]; decide)
  rw [Int.sub_self] at w0
  rw [w_neq h h, if_neg (by simp), hr, Option.bind_some, w_neq w0 w_zero, if_neg (by simp)]
  have g1 : fcmp .geq .f64 w 14069741636278059008 = true := by
    simp only [fcmp, worder_big h read_mbig]
    rw [cmp_eq.2.2.2 (by simp [sg]; omega)]; rfl
  have g2 : fcmp .leq .f64 w 4846369599423283200 = true := by
    simp only [fcmp, worder_big h read_big]
    rw [cmp_eq.1.2 (by simp [sg]; omega)]; rfl
  rw [g1, if_pos rfl, g2, if_pos rfl, w_f2i h, Option.bind_some, w_eql (whole_of (by omega)) h]
theorem told_eq {p q r t : Nat} {x y z s : Int} (hp : Whole p x) (hq : Whole q y) (hr : Whole r z) (ht : Whole t s) (bx : -1000000000 ≤ x ∧ x ≤ 1000000000) (by' : -1000000000 ≤ y ∧ y ≤ 1000000000) (bz : -1000000000 ≤ z ∧ z ≤ 1000000000) (bs : -1000000000 ≤ s ∧ s ≤ 1000000000) :
    run (top_TopAlignedLouder_l2 p q r t) (0, 0, 0, 0, 0) = some (.inr (x, y, z, s)) := by
  have key : ∀ {w : Nat} {n : Int} {β : Type} (A : β) (K : Int → Option β), Whole w n → (-1000000000 ≤ n ∧ n ≤ 1000000000) → ((base_IsWhole w).bind fun v63 => if v63 = true then (if (fcmp .gtr .f64 w 4741671816366391296) = true then some A else (if (fcmp .lss .f64 w 13965043853221167104) = true then some A else ((f2i .f64 w .i64).bind fun v64 => K v64))) else some A) = K n := by
    intro w n β A K hw hb
    rw [isWhole_eq hw hb, Option.bind_some, if_pos rfl, w_gtr hw w_big, decide_eq_false (by omega), if_neg (by simp), w_lss hw w_mbig, decide_eq_false (by omega), if_neg (by simp), w_f2i hw, Option.bind_some]
  rw [run_next (s' := (x, 0, 0, 0, 1)), run_next (s' := (x, y, 0, 0, 2)), run_next (s' := (x, y, z, 0, 3)), run_next (s' := (x, y, z, s, 4))]
  · refine run_stop ?_
    dsimp only [top_TopAlignedLouder_l2]
    rw [if_neg (by simp)]
  · dsimp only [top_TopAlignedLouder_l2]
    rw [if_pos (by simp)]
    exact key _ _ ht bs
  · dsimp only [top_TopAlignedLouder_l2]
    rw [if_pos (by simp)]
    exact key _ _ hr bz
  · dsimp only [top_TopAlignedLouder_l2]
    rw [if_pos (by simp)]
    exact key _ _ hq by'
  · dsimp only [top_TopAlignedLouder_l2]
    rw [if_pos (by simp)]
    exact key _ _ hp bx
end Go.Rex

namespace Go.Rex
/-! ### sums of parts -/
theorem isum_mul {f g : Nat → Int} {C : Int} : ∀ {n : Nat}, (∀ k, k < n → f k = g k * C) → isum f n = isum g n * C
  | 0, _ => by simp [isum]
  | n + 1, h => by
    have h1 := isum_mul (fun k hk => h k (by omega)) (n := n) (f := f) (g := g) (C := C)
    have h2 := h n (by omega)
    unfold isum
    rw [h1, h2, Int.add_mul]
theorem isum_four {f g h : Nat → Int} : ∀ {n : Nat}, (∀ k, k < n → f k + g k ≤ h k ∧ f k - g k ≤ h k ∧ -f k + g k ≤ h k ∧ -f k - g k ≤ h k) → isum f n + isum g n ≤ isum h n ∧ isum f n - isum g n ≤ isum h n ∧ -isum f n + isum g n ≤ isum h n ∧ -isum f n - isum g n ≤ isum h n
  | 0, _ => by simp [isum]
  | n + 1, hk => by
    have h1 := isum_four (fun k hk' => hk k (by omega)) (n := n) (f := f) (g := g) (h := h)
    have h2 := hk n (by omega)
    unfold isum
    omega
theorem isum_nn {f : Nat → Int} : ∀ {n : Nat}, (∀ k, k < n → 0 ≤ f k) → 0 ≤ isum f n
  | 0, _ => by simp [isum]
  | n + 1, h => by
    have h1 := isum_nn (fun k hk => h k (by omega)) (n := n) (f := f)
    have h2 := h n (by omega)
    unfold isum
    omega
theorem isum_sq {f : Nat → Int} : ∀ {n : Nat}, (∀ k, k < n → 0 ≤ f k) → isum (fun k => f k * f k) n ≤ isum f n * isum f n
  | 0, _ => by simp [isum]
  | n + 1, h => by
    have h1 := isum_sq (fun k hk => h k (by omega)) (n := n) (f := f)
    have h0 := isum_nn (fun k hk => h k (by omega)) (n := n) (f := f)
    have h2 := h n (by omega)
    have h3 : 0 ≤ isum f n * f n := Int.mul_nonneg h0 h2
    have e : (isum f n + f n) * (isum f n + f n) = isum f n * isum f n + 2 * (isum f n * f n) + f n * f n := by
      rw [Int.add_mul, Int.mul_add, Int.mul_add, Int.mul_comm (f n) (isum f n)]
      omega
    show isum (fun k => f k * f k) n + f n * f n ≤ (isum f n + f n) * (isum f n + f n)
    rw [e]
    omega
theorem isum_congr {f g : Nat → Int} : ∀ {n : Nat}, (∀ k, k < n → f k = g k) → isum f n = isum g n
  | 0, _ => rfl
  | n + 1, h => by
    unfold isum
    rw [isum_congr (fun k hk => h k (by omega)), h n (by omega)]
theorem sq_four {x y T : Int} (h : x + y ≤ T ∧ x - y ≤ T ∧ -x + y ≤ T ∧ -x - y ≤ T) : x * x + y * y ≤ T * T := by
  obtain ⟨p, hp⟩ : ∃ p : Int, p = (x.natAbs : Int) := ⟨_, rfl⟩
  obtain ⟨q, hq⟩ : ∃ q : Int, q = (y.natAbs : Int) := ⟨_, rfl⟩
  have ex : x * x = p * p := by
    rcases (show x = p ∨ x = -p by omega) with h | h <;> rw [h]
    rw [Int.neg_mul_neg]
  have ey : y * y = q * q := by
    rcases (show y = q ∨ y = -q by omega) with h | h <;> rw [h]
    rw [Int.neg_mul_neg]
  have hs : p + q ≤ T := by omega
  have h1 : (p + q) * (p + q) ≤ T * T := Int.mul_le_mul hs hs (by omega) (by omega)
  have h2 : 0 ≤ p * q := Int.mul_nonneg (by omega) (by omega)
  have e : (p + q) * (p + q) = p * p + 2 * (p * q) + q * q := by
    rw [Int.add_mul, Int.mul_add, Int.mul_add, Int.mul_comm q p]
    omega
  rw [ex, ey]
  omega
section
variable {u v a b c : Int} {l : List Spk}
theorem part4 {g C D : Int} (hg : 0 ≤ g) (h : (C = 1 ∧ D = 0) ∨ (C = 0 ∧ D = -1) ∨ (C = -1 ∧ D = 0) ∨ (C = 0 ∧ D = 1)) : g * C + g * D ≤ g ∧ g * C - g * D ≤ g ∧ -(g * C) + g * D ≤ g ∧ -(g * C) - g * D ≤ g := by
  rcases h with ⟨rfl, rfl⟩ | ⟨rfl, rfl⟩ | ⟨rfl, rfl⟩ | ⟨rfl, rfl⟩ <;> simp <;> omega
theorem dirs (j : Int) (h : j = 0 ∨ j = 1 ∨ j = 2 ∨ j = 3) : (cC j = 1 ∧ cD j = 0) ∨ (cC j = 0 ∧ cD j = -1) ∨ (cC j = -1 ∧ cD j = 0) ∨ (cC j = 0 ∧ cD j = 1) := by
  rcases h with rfl | rfl | rfl | rfl <;> decide
theorem loud_le (hk : okH u v l a b c) : isum (rePart u v a b c l) l.length * isum (rePart u v a b c l) l.length + isum (imPart u v a b c l) l.length * isum (imPart u v a b c l) l.length ≤ isum (fun k => gs a b c (sp l k)) l.length * isum (fun k => gs a b c (sp l k)) l.length := by
  refine sq_four (isum_four (fun k h => ?_))
  exact part4 (gs_le hk h).1 (dirs _ (by unfold ph; omega))
theorem loud_eq (M : Int) (hph : ∀ k, k < l.length → ph u v a b c (sp l k) = M % 4) : isum (rePart u v a b c l) l.length * isum (rePart u v a b c l) l.length + isum (imPart u v a b c l) l.length * isum (imPart u v a b c l) l.length = isum (fun k => gs a b c (sp l k)) l.length * isum (fun k => gs a b c (sp l k)) l.length := by
  have e1 : isum (rePart u v a b c l) l.length = isum (fun k => gs a b c (sp l k)) l.length * cC (M % 4) := isum_mul (fun k h => by unfold rePart; rw [hph k h])
  have e2 : isum (imPart u v a b c l) l.length = isum (fun k => gs a b c (sp l k)) l.length * cD (M % 4) := isum_mul (fun k h => by unfold imPart; rw [hph k h])
  rw [e1, e2]
  rcases dirs (M % 4) (by omega) with ⟨h1, h2⟩ | ⟨h1, h2⟩ | ⟨h1, h2⟩ | ⟨h1, h2⟩ <;> rw [h1, h2] <;> simp [Int.neg_mul_neg]
/-- another array with the same places and gains is right too -/
theorem ok_move {o : List Spk} (hk : okH u v l a b c) (hlen : o.length = l.length) (h : ∀ j, j < l.length → ∃ d, sp o j = ((sp l j).1, (sp l j).2.1, (sp l j).2.2.1, (sp l j).2.2.2.1, d) ∧ 0 ≤ d ∧ d ≤ 10000) : okH u v o a b c := by
  refine ⟨⟨hk.1.1, by rw [hlen]; exact hk.1.2.1, fun k hkk => ?_⟩, hk.2.1, fun k hkk => ?_⟩
  · obtain ⟨d, h1, h2⟩ := h k (by omega)
    have h3 := (ok_at hk (k := k) (by omega)).1
    rw [sp_eq hkk, h1]
    exact ⟨h3.1, h3.2.1, h2⟩
  · obtain ⟨d, h1, h2⟩ := h k (by omega)
    have h3 := (ok_at hk (k := k) (by omega)).2
    rw [sp_eq hkk, h1]
    exact h3
theorem gs_move {o : List Spk} {j : Nat} (h : ∃ d, sp o j = ((sp l j).1, (sp l j).2.1, (sp l j).2.2.1, (sp l j).2.2.2.1, d) ∧ 0 ≤ d ∧ d ≤ 10000) : gs a b c (sp o j) = gs a b c (sp l j) := by
  obtain ⟨d, h1, _⟩ := h
  rw [h1]
  rfl
end
theorem louder_true (u v : Int) (l : List Spk) (a b c : Int) (ds : List Int) : top_TopAlignedLouder u v l a b c ds = some true := by
  unfold top_TopAlignedLouder
  by_cases q1 : (l.length : Int) > 8
  · rw [if_pos (by simpa using q1)]
  rw [if_neg (by simpa using q1)]
  by_cases q2 : (ds.length : Int) > 8
  · rw [if_pos (by simpa using q2)]
  rw [if_neg (by simpa using q2), acopy_eq u v (l := l) (by omega), Option.bind_some]
  dsimp only
  rcases aligned_cases u v a b c l with ⟨e, he, hA⟩ | ⟨hk, l', M, hA, hlen, hall⟩
  · rw [hA, Option.bind_some]
    dsimp only
    rw [if_pos (by simpa using he)]
    simp
  · have hlen8 := hk.1.2.1
    have hmv : ∀ j, j < l.length → ∃ d, sp l' j = ((sp l j).1, (sp l j).2.1, (sp l j).2.2.1, (sp l j).2.2.2.1, d) ∧ 0 ≤ d ∧ d ≤ 10000 := fun j hj => ⟨_, hall j hj⟩
    have hk' := ok_move hk hlen hmv
    obtain ⟨o, ho, hol, hoo⟩ := other_eq (l := l) ds (by omega) (by omega) (fun j hj => (ok_at hk hj).1)
    have hko := ok_move hk hol hoo
    obtain ⟨p, q, hP, wp, wq⟩ := pressure_eq hk'
    obtain ⟨r, t, hQ, wr, wt⟩ := pressure_eq hko
    obtain ⟨n, hE⟩ := energy_eq hk'
    rw [hA, Option.bind_some]
    dsimp only
    rw [if_neg (by simp), Option.bind_some]
    dsimp only
    rw [ho, Option.bind_some, acopy_eq u v (l := l') (by omega), Option.bind_some]
    dsimp only
    rw [hP, Option.bind_some]
    dsimp only
    rw [hQ, Option.bind_some]
    dsimp only
    rw [hE, Option.bind_some]
    dsimp only
    rw [if_neg (by simp), if_neg (by simp), if_neg (by simp)]
    have b1 := part_le hk' (Nat.le_refl _)
    have b2 := part_le hko (Nat.le_refl _)
    rw [told_eq wp wq wr wt (by omega) (by omega) (by omega) (by omega), Option.bind_some]
    dsimp only
    have hT : ∀ o : List Spk, o.length = l.length → (∀ j, j < l.length → ∃ d, sp o j = ((sp l j).1, (sp l j).2.1, (sp l j).2.2.1, (sp l j).2.2.2.1, d) ∧ 0 ≤ d ∧ d ≤ 10000) → isum (fun k => gs a b c (sp o k)) o.length = isum (fun k => gs a b c (sp l k)) l.length := fun o h1 h2 => by
      rw [h1]
      exact isum_congr (fun k hkk => gs_move (h2 k hkk))
    have hT1 := hT l' hlen hmv
    have hT2 := hT o hol hoo
    have hloud := loud_eq (u := u) (v := v) (a := a) (b := b) (c := c) (l := l') M (fun k hkk => by
      have := (hall k (by omega)).1
      unfold ph
      rw [this]
      show ((nn u v a b c (sp l k)).1 + (M - (nn u v a b c (sp l k)).1)) % 4 = M % 4
      congr 1
      omega)
    have hle := loud_le hko
    have hsq : isum (fun k => gs a b c (sp l' k) * gs a b c (sp l' k)) l'.length ≤ isum (fun k => gs a b c (sp l' k)) l'.length * isum (fun k => gs a b c (sp l' k)) l'.length := isum_sq (f := fun k => gs a b c (sp l' k)) (fun k hkk => (gs_le hk' hkk).1)
    rw [hT1] at hloud hsq
    rw [hT2] at hle
    rw [← hloud] at hle hsq
    generalize isum (rePart u v a b c l') l'.length = k0 at *
    generalize isum (imPart u v a b c l') l'.length = k1 at *
    generalize isum (rePart u v a b c o) o.length = k2 at *
    generalize isum (imPart u v a b c o) o.length = k3 at *
    have sqb : ∀ x : Int, -800000000 ≤ x ∧ x ≤ 800000000 → 0 ≤ x * x ∧ x * x ≤ 640000000000000000 := by
      intro x hx
      rcases Int.le_total 0 x with h | h
      · exact ⟨Int.mul_nonneg h h, Int.le_trans (Int.mul_le_mul hx.2 hx.2 h (by omega)) (by omega)⟩
      · refine ⟨Int.mul_nonneg_of_nonpos_of_nonpos h h, ?_⟩
        have := Int.mul_le_mul (show -x ≤ 800000000 by omega) (show -x ≤ 800000000 by omega) (show 0 ≤ -x by omega) (by omega)
        rw [Int.neg_mul_neg] at this
        omega
    have s0 := sqb k0 b1.1
    have s1 := sqb k1 b1.2
    have s2 := sqb k2 b2.1
    have s3 := sqb k3 b2.2
    rw [w64 (x := k0 * k0) (by omega), w64 (x := k1 * k1) (by omega), w64 (x := k2 * k2) (by omega), w64 (x := k3 * k3) (by omega), w64 (x := k0 * k0 + k1 * k1) (by omega), w64 (x := k2 * k2 + k3 * k3) (by omega), if_pos (by simpa using hle)]
    simpa using hsq
end Go.Rex

namespace Go.Rex
open Go Go.ChangeShapes Go.WideShapes Go.ChangeAt Go.RowKit Go.Joins Go.Proofs
/-! ### arguments: what they are as trees, and the names of their blocks -/
structure Arg (W : World) (v' : Value) (p : TV) (bs : List Blk) (is : List Info) (av : Nat → Value) : Prop where
  vr : ∀ (D : Nat → Prop) (m : NMap) n, (∀ j, j < bs.length → D (n + j)) → (∀ (j : Nat) i, is[j]? = some i → m (n + j) = i) → VR D m (av n) v'
  vl : ∀ (Fz : Nat → Prop) (h : List Blk) n, (∀ j, j < bs.length → Fz (n + j)) → (∀ (j : Nat) b, bs[j]? = some b → h[n + j]? = some b) → VL Fz h noL p (av n)
  ok : ∀ (D : Nat → Prop) (m : NMap) n, (∀ j, j < bs.length → D (n + j)) → (∀ (j : Nat) i, is[j]? = some i → m (n + j) = i) → ∀ (j : Nat) b, bs[j]? = some b → BlkOk D m W (n + j) b
  lt : ∀ (j : Nat) b i, bs[j]? = some b → is[j]? = some i → b ≠ .dead → i.block < W.heap.size
  len : is.length = bs.length
structure Args (W : World) (vs' : List Value) (ps : List TV) (bs : List Blk) (is : List Info) (av : Nat → List Value) : Prop where
  vr : ∀ (D : Nat → Prop) (m : NMap) n, (∀ j, j < bs.length → D (n + j)) → (∀ (j : Nat) i, is[j]? = some i → m (n + j) = i) → VRs D m (av n) vs'
  vl : ∀ (Fz : Nat → Prop) (h : List Blk) n, (∀ j, j < bs.length → Fz (n + j)) → (∀ (j : Nat) b, bs[j]? = some b → h[n + j]? = some b) → VLs Fz h noL ps (av n)
  ok : ∀ (D : Nat → Prop) (m : NMap) n, (∀ j, j < bs.length → D (n + j)) → (∀ (j : Nat) i, is[j]? = some i → m (n + j) = i) → ∀ (j : Nat) b, bs[j]? = some b → BlkOk D m W (n + j) b
  lt : ∀ (j : Nat) b i, bs[j]? = some b → is[j]? = some i → b ≠ .dead → i.block < W.heap.size
  len : is.length = bs.length
theorem Args.nil (W : World) : Args W [] [] [] [] (fun _ => []) :=
  ⟨fun _ _ _ _ _ => ⟨rfl, fun i a a' h => by simp at h⟩, fun _ _ _ _ _ => .nil, fun _ _ _ _ _ j b h => by simp at h, fun j b i h => by simp at h, rfl⟩
theorem Args.cons {W : World} {v' : Value} {p : TV} {bs bs2 : List Blk} {is is2 : List Info} {av : Nat → Value} {vs' : List Value} {ps : List TV} {avs : Nat → List Value}
    (a : Arg W v' p bs is av) (as : Args W vs' ps bs2 is2 avs) : Args W (v' :: vs') (p :: ps) (bs ++ bs2) (is ++ is2) (fun n => av n :: avs (n + bs.length)) := by
  have cD : ∀ (D : Nat → Prop) n, (∀ j, j < (bs ++ bs2).length → D (n + j)) → (∀ j, j < bs.length → D (n + j)) ∧ (∀ j, j < bs2.length → D (n + bs.length + j)) := by
    intro D n h
    refine ⟨fun j hj => h j (by simp; omega), fun j hj => ?_⟩
    have := h (bs.length + j) (by simp; omega)
    rwa [← Nat.add_assoc] at this
  have cI : ∀ (m : NMap) n, (∀ (j : Nat) i, (is ++ is2)[j]? = some i → m (n + j) = i) → (∀ (j : Nat) i, is[j]? = some i → m (n + j) = i) ∧ (∀ (j : Nat) i, is2[j]? = some i → m (n + bs.length + j) = i) := by
    intro m n h
    refine ⟨fun j i hj => h j i (by rw [List.getElem?_append_left (List.getElem?_eq_some_iff.1 hj).1]; exact hj), fun j i hj => ?_⟩
    have := h (bs.length + j) i (by rw [List.getElem?_append_right (by rw [a.len]; omega), a.len, Nat.add_sub_cancel_left]; exact hj)
    rwa [← Nat.add_assoc] at this
  refine ⟨fun D m n hD hm => ?_, fun Fz h n hF hh => ?_, fun D m n hD hm j b hb => ?_, fun j b i hb hi hd => ?_, by simp [a.len, as.len]⟩
  · have h1 := a.vr D m n (cD D n hD).1 (cI m n hm).1
    have h2 := as.vr D m (n + bs.length) (cD D n hD).2 (cI m n hm).2
    refine ⟨by simp [h2.len], fun i x x' hx hx' => ?_⟩
    cases i with
    | zero => simp at hx hx'; subst hx hx'; exact h1
    | succ i => simp at hx hx'; exact h2.at' i x x' hx hx'
  · refine .cons (a.vl Fz h n (cD Fz n hF).1 fun j b hb => hh j b (by rw [List.getElem?_append_left (List.getElem?_eq_some_iff.1 hb).1]; exact hb)) (as.vl Fz h (n + bs.length) (cD Fz n hF).2 fun j b hb => ?_)
    have := hh (bs.length + j) b (by rw [List.getElem?_append_right (by omega), Nat.add_sub_cancel_left]; exact hb)
    rwa [← Nat.add_assoc] at this
  · rcases Nat.lt_or_ge j bs.length with hj | hj
    · rw [List.getElem?_append_left hj] at hb
      exact a.ok D m n (cD D n hD).1 (cI m n hm).1 j b hb
    · rw [List.getElem?_append_right hj] at hb
      have := as.ok D m (n + bs.length) (cD D n hD).2 (cI m n hm).2 _ b hb
      rwa [show n + bs.length + (j - bs.length) = n + j by omega] at this
  · rcases Nat.lt_or_ge j bs.length with hj | hj
    · rw [List.getElem?_append_left hj] at hb
      rw [List.getElem?_append_left (by rw [a.len]; exact hj)] at hi
      exact a.lt j b i hb hi hd
    · rw [List.getElem?_append_right hj] at hb
      rw [List.getElem?_append_right (by rw [a.len]; exact hj), a.len] at hi
      exact as.lt _ b i hb hi hd
/-- the names of the arguments -/
def nm (is : List Info) : NMap := fun n => is.getD n ⟨0, 0, 0, 0⟩
theorem nm_at {is : List Info} {j : Nat} {i : Info} (h : is[j]? = some i) : nm is (0 + j) = i := by
  unfold nm
  rw [Nat.zero_add, List.getD_eq_getElem?_getD, h]
  rfl
section
variable {W : World} {vs' : List Value} {ps : List TV} {bs : List Blk} {is : List Info} {av : Nat → List Value}
theorem Args.rel (a : Args W vs' ps bs is av) : Rel W.heap.size bs.length (fun k => k < bs.length) (nm is) bs W := by
  refine ⟨Nat.le_refl _, fun _ h => h, fun n b hn hb => ?_, fun n b hn hb hd => ?_, fun n b hD hl => absurd hD (by omega), fun n b hn _ hb hd => ?_, fun n b hD hl => absurd hD (by omega), fun n n' b b' hD _ hl => absurd hD (by omega)⟩
  · have := a.ok (fun k => k < bs.length) (nm is) 0 (fun j hj => by omega) (fun j i hi => nm_at hi) n b hb
    rwa [Nat.zero_add] at this
  all_goals
    have hi : n < is.length := by rw [a.len]; exact hn
    have e := nm_at (List.getElem?_eq_getElem hi)
    rw [Nat.zero_add] at e
    rw [e]
    exact a.lt n b _ hb (List.getElem?_eq_getElem hi) hd
theorem Args.vls (a : Args W vs' ps bs is av) : VLs (fun k => k < bs.length) bs noL ps (av 0) := a.vl _ _ 0 (fun j hj => by omega) (fun j b hb => by rw [Nat.zero_add]; exact hb)
theorem Args.vrs (a : Args W vs' ps bs is av) : VRs (fun k => k < bs.length) (nm is) (av 0) vs' := a.vr _ _ 0 (fun j hj => by omega) (fun j i hi => nm_at hi)
end
theorem len1 {α : Type} {l : List α} (h : l.length = 1) : ∃ x0, l = [x0] := by
  match l, h with
  | [x0], _ => exact ⟨_, rfl⟩
theorem len3 {α : Type} {l : List α} (h : l.length = 3) : ∃ x0 x1 x2, l = [x0, x1, x2] := by
  match l, h with
  | [x0, x1, x2], _ => exact ⟨_, _, _, rfl⟩
theorem len5 {α : Type} {l : List α} (h : l.length = 5) : ∃ x0 x1 x2 x3 x4, l = [x0, x1, x2, x3, x4] := by
  match l, h with
  | [x0, x1, x2, x3, x4], _ => exact ⟨_, _, _, _, _, rfl⟩
/-! ### arguments without names -/
def AtomV (c : Value) : Prop := isAtom c = true ∧ ∀ D m, VR D m c c
theorem atomV_int (k : IntKind) (n : Int) : AtomV (.int k n) := ⟨rfl, fun _ _ => .int _ _⟩
theorem Arg.atom {W : World} {v : Value} (h : AtomV v) : Arg W v (.v v) [] [] (fun _ => v) :=
  ⟨fun _ _ _ _ _ => h.2 _ _, fun _ _ _ _ _ => .v _ _ h.1, fun _ _ _ _ _ j b h => by simp at h, fun j b i h => by simp at h, rfl⟩
theorem Arg.agg {W : World} {l : List Value} (h : ∀ c ∈ l, AtomV c) : Arg W (.agg ⟨l⟩) (.agg (l.map .v)) [] [] (fun _ => .agg ⟨l⟩) := by
  refine ⟨fun _ _ _ _ _ => .agg _ _ rfl fun i v v' hv hv' => ?_, fun _ _ _ _ _ => .agg _ _ _ (by simp) fun i p x hp hx => ?_, fun _ _ _ _ _ j b h => by simp at h, fun j b i h => by simp at h, rfl⟩
  · obtain rfl : v = v' := Option.some.inj (hv.symm.trans hv')
    exact (h v (List.mem_of_getElem? hv)).2 _ _
  · rw [List.getElem?_map, hx] at hp
    obtain rfl := Option.some.inj hp
    exact .v _ _ (h x (List.mem_of_getElem? hx)).1
/-! ### a slice of rows -/
theorem flatMap_at {α β : Type} {g : α → List β} {es : Nat} (hg : ∀ x, (g x).length = es) (he : 0 < es) : ∀ (xs : List α) i, (xs.flatMap g)[i]? = (xs[i / es]?).bind fun x => (g x)[i % es]?
  | [], i => by simp
  | x :: t, i => by
    rw [List.flatMap_cons]
    rcases Nat.lt_or_ge i es with h | h
    · rw [List.getElem?_append_left (by rw [hg]; exact h), Nat.div_eq_of_lt h, Nat.mod_eq_of_lt h]
      rfl
    · rw [List.getElem?_append_right (by rw [hg]; exact h), hg, flatMap_at hg he t (i - es)]
      have e1 : i / es = (i - es) / es + 1 := by rw [Nat.div_eq_sub_div he h]
      have e2 : i % es = (i - es) % es := Nat.mod_eq_sub_mod h
      rw [e1, e2]
      rfl
theorem flatMap_len {α β : Type} {g : α → List β} {es : Nat} (hg : ∀ x, (g x).length = es) : ∀ (xs : List α), (xs.flatMap g).length = xs.length * es
  | [] => by simp
  | x :: t => by rw [List.flatMap_cons, List.length_append, hg, flatMap_len hg t, List.length_cons, Nat.add_mul]; omega
theorem flatMap_map {α : Type} {f : α → List TV} {g : α → List Value} (hf : ∀ x, f x = (g x).map .v) : ∀ (xs : List α), (xs.map f).flatten = (xs.flatMap g).map .v
  | [] => rfl
  | x :: t => by rw [List.map_cons, List.flatten_cons, flatMap_map hf t, List.flatMap_cons, List.map_append, hf]
theorem choose_list {α : Type} {Q : Nat → α → Prop} : ∀ n, (∀ i, i < n → ∃ x, Q i x) → ∃ xs : List α, xs.length = n ∧ ∀ (i : Nat) x, xs[i]? = some x → Q i x
  | 0, _ => ⟨[], rfl, fun i x h => by simp at h⟩
  | n + 1, h => by
    obtain ⟨xs, hl, hq⟩ := choose_list n (fun i hi => h i (by omega))
    obtain ⟨x, hx⟩ := h n (by omega)
    refine ⟨xs ++ [x], by simp [hl], fun i y hy => ?_⟩
    rcases Nat.lt_or_ge i n with hi | hi
    · rw [List.getElem?_append_left (by omega)] at hy
      exact hq i y hy
    · rw [List.getElem?_append_right (by omega), hl] at hy
      have : i = n := by
        rcases Nat.lt_or_ge 0 (i - n) with g | g
        · rw [List.getElem?_eq_none (by simp; omega)] at hy; cases hy
        · omega
      subst this
      simp at hy
      subst hy
      exact hx
section
variable {H : Type} {enc : TypeId × Value → H} {W : World} {base : Nat} {spare : Nat → Bool} {held : Bool}
theorem open_rowsC {α : Type} {f : α → List TV} {g : α → List Value} {es : Nat} (he : 0 < es) (hf : ∀ x, f x = (g x).map .v) (hg : ∀ x, (g x).length = es) (hat : ∀ x, ∀ c ∈ g x, AtomV c)
    {P : Program} {t te : TypeId} (ht : P.underlying t = some (.slice te)) (hC : P.cellsOf te = es) {r : Reach} {b0 : Nat} {v' : Value} (hval : Cell.okWide P W r b0 t v')
    (elem : ∀ n cs y, DataW.trod enc P W base spare held n te cs = some y → cs.length = es → ∃ x : α, cs = g x)
    {fuel : Nat} {x : DataW H × List MemPlace} (h : DataW.trod enc P W base spare held fuel t [v'] = some x) : ∃ (xs : List α) (bs : List Blk) (is : List Info) (av : Nat → Value), Arg W v' (.list es (xs.map f)) bs is av := by
  rcases DataW.trod_slice ht h with ⟨hv, _⟩ | ⟨a, len, cap, elems, rest, n, _, hv, _, hb, hlc, hcm, hel, hel2, _, _⟩
  · obtain rfl : v' = .slice none 0 0 := by simpa using hv
    exact ⟨[], [], [], fun _ => .slice none 0 0, fun _ _ _ _ _ => .nilSlice 0 0, fun _ _ _ _ _ => .nillist _ _, fun _ _ _ _ _ j b h => by simp at h, fun j b i h => by simp at h, rfl⟩
  · obtain rfl : v' = .slice (some a) len cap := by simpa using hv
    have hok : len ≤ cap ∧ (cap : Int) ≤ IntKind.i64.max ∧ W.has P r b0 a te cap := by
      unfold Cell.okWide at hval
      simp only [ht] at hval
      unfold Cell.ok at hval
      simpa only [ht] using hval
    obtain ⟨gb, o, s⟩ := a
    obtain ⟨_, _, _, hs, row, cells, hsh, _⟩ := hok
    simp only at hs hsh
    subst hs
    have hgb : gb < W.heap.size := by
      unfold World.shape? at hsh
      rcases Nat.lt_or_ge gb W.heap.size with hg | hg
      · exact hg
      · rw [Array.getElem?_eq_none hg] at hsh
        simp at hsh
    have key : ∀ i, i < len → ∃ x : α, ∀ j, j < es → W.cell? ⟨gb, o + i * es + j, none⟩ = (g x)[j]? := fun i hi => by
      have h1 := hel2 i hi
      rw [List.getElem?_eq_getElem (by omega), Option.bind_eq_some_iff] at h1
      obtain ⟨cs, hcs, htr⟩ := h1
      rw [hC] at hcs
      unfold World.cells? at hcs
      split at hcs
      · have hlen := mapM_some_length hcs
        simp at hlen
        obtain ⟨x, rfl⟩ := elem n cs _ htr hlen
        refine ⟨x, fun j hj => ?_⟩
        have := mapM_some_get hcs j j (by simp [hj])
        have e : ((⟨gb, o, none⟩ : Addr).add (i * es)).add j = ⟨gb, o + i * es + j, none⟩ := by
          unfold Addr.add
          split <;> split <;> simp_all
        rw [← e]
        exact this
      · cases hcs
    obtain ⟨xs, hl, hq⟩ := choose_list len key
    subst hl
    have hlen := flatMap_len hg xs
    have hfl := flatMap_map hf xs
    refine ⟨xs, [.cells es (xs.flatMap g)], [⟨gb, o, cap * es, es⟩], fun n => .slice (some ⟨n, 0, none⟩) xs.length xs.length, fun D m n hD hm => ?_, fun Fz h n hF hh => ?_, fun D m n hD hm j b hb => ?_, fun j b i hb hi hd => ?_, rfl⟩
    · have e := hm 0 _ rfl
      rw [Nat.add_zero] at e
      have := VR.slice (D := D) (m := m) n 0 xs.length xs.length cap (hD 0 (by simp)) (Nat.le_refl _) hlc (.inr (by rw [e]; simp))
      rw [e] at this
      exact this
    · have hw : ∀ r ∈ xs.map f, r.length = es := fun r hr => by obtain ⟨x, _, rfl⟩ := List.mem_map.1 hr; rw [hf, List.length_map, hg]
      have := VL.list (Fz := Fz) (h := h) noL es (xs.map f) n 0 xs.length (xs.flatMap g) es (hF 0 (by simp)) (hh 0 _ rfl) (.inl rfl) hw (by simp) (by rw [List.length_map, hlen]; omega) (fun j p x hp hx => by
        rw [hfl, List.getElem?_map, Option.map_eq_some_iff] at hp
        rw [Nat.zero_add] at hx
        obtain ⟨y, h1, rfl⟩ := hp
        obtain rfl : y = x := Option.some.inj (h1.symm.trans hx)
        obtain ⟨z, _, hz⟩ := List.mem_flatMap.1 (List.mem_of_getElem? hx)
        exact .v _ _ (hat z y hz).1)
      rw [List.length_map] at this
      exact this
    · match j, hb with
      | 0, hb =>
        obtain rfl := Option.some.inj hb
        have e := hm 0 _ rfl
        rw [Nat.add_zero] at e ⊢
        refine ⟨by rw [e], fun i v hv => ⟨v, ?_, ?_⟩⟩
        · rw [flatMap_at hg he, Option.bind_eq_some_iff] at hv
          obtain ⟨x, hx, hv⟩ := hv
          rw [e]
          have := hq _ x hx (i % es) (Nat.mod_lt _ he)
          rw [Nat.add_assoc, Nat.mul_comm, Nat.div_add_mod] at this
          rw [this]
          exact hv
        · obtain ⟨z, _, hz⟩ := List.mem_flatMap.1 (List.mem_of_getElem? hv)
          exact (hat z v hz).2 _ _
      | j + 1, hb => simp at hb
    · match j, hb, hi with
      | 0, hb, hi => obtain rfl := Option.some.inj hi
                     exact hgb
      | j + 1, hb, hi => simp at hb
theorem open_rows {α : Type} {f : α → List TV} {g : α → List Value} {es : Nat} (he : 0 < es) (hf : ∀ x, f x = (g x).map .v) (hg : ∀ x, (g x).length = es) (hat : ∀ x, ∀ c ∈ g x, AtomV c)
    {P : Program} {t te : TypeId} (ht : P.underlying t = some (.slice te)) (hC : P.cellsOf te = es) {r : Reach} {b0 : Nat} {v' : Value} (hval : Value.okWide P W r b0 t v')
    (elem : ∀ n cs y, DataW.trod enc P W base spare held n te cs = some y → cs.length = es → ∃ x : α, cs = g x)
    {fuel : Nat} {x : DataW H × List MemPlace} (h : DataW.trod enc P W base spare held fuel t [v'] = some x) : ∃ (xs : List α) (bs : List Blk) (is : List Info) (av : Nat → Value), Arg W v' (.list es (xs.map f)) bs is av := by
  refine open_rowsC he hf hg hat ht hC (r := r) (b0 := b0) ?_ elem h
  unfold Value.okWide at hval
  simpa only [ht] using hval
/-! ### aggregates of ints -/
def AI (cs : List Value) : Prop := ∀ c ∈ cs, ∃ n : Int, c = .int .i64 n
theorem AI.list {cs : List Value} (h : AI cs) : ∃ l : List Int, cs = l.map (.int .i64) := by
  induction cs with
  | nil => exact ⟨[], rfl⟩
  | cons c t ih =>
    obtain ⟨n, rfl⟩ := h c (by simp)
    obtain ⟨l, rfl⟩ := ih fun c hc => h c (by simp [hc])
    exact ⟨n :: l, rfl⟩
variable {P : Program}
theorem ai_int {te : TypeId} (ht : P.underlying te = some (.int .i64)) {fuel : Nat} {cs : List Value} {x : DataW H × List MemPlace} (h : DataW.trod enc P W base spare held fuel te cs = some x) : AI cs := by
  obtain ⟨n, rfl, _⟩ := DataW.trod_int ht h
  exact fun c hc => ⟨n, by simpa using hc⟩
theorem ai_struct {t : TypeId} {fs : Array Field} (ht : P.underlying t = some (.struct fs)) (hcov : ((List.range (P.cellsOf t)).all fun j => fs.toList.any fun f => decide (f.offset ≤ j) && decide (j < f.offset + P.cellsOf f.type)) = true) (he : ∀ f ∈ fs.toList, ∀ n cs y, DataW.trod enc P W base spare held n f.type cs = some y → AI cs)
    {fuel : Nat} {cs : List Value} {x : DataW H × List MemPlace} (h : DataW.trod enc P W base spare held fuel t cs = some x) : AI cs := by
  obtain ⟨xs, n, _, _, hl, hx, hi⟩ := DataW.trod_struct ht h
  intro c hcm
  obtain ⟨j, hj, rfl⟩ := List.mem_iff_getElem.1 hcm
  rw [hl] at hj
  have := List.all_eq_true.1 hcov j (by simpa using hj)
  obtain ⟨f, hf, hf2⟩ := List.any_eq_true.1 this
  simp only [Bool.and_eq_true, decide_eq_true_eq] at hf2
  obtain ⟨i, hil, hif⟩ := List.mem_iff_getElem.1 hf
  have hfi : fs[i]? = some f := by rw [← Array.getElem?_toList, List.getElem?_eq_getElem hil, hif]
  have h1 := hi i f hfi
  have hil2 : i < fs.size := by simpa using hil
  rw [List.getElem?_eq_getElem (by omega)] at h1
  refine he f hf _ _ _ h1 _ ?_
  refine List.mem_of_getElem? (i := j - f.offset) ?_
  rw [List.getElem?_take, if_pos (by omega), List.getElem?_drop, show f.offset + (j - f.offset) = j by omega, List.getElem?_eq_getElem]
theorem okW_int {t : TypeId} (ht : P.underlying t = some (.int .i64)) {r : Reach} {b : Nat} {v : Value} (w : Cell.okWide P W r b t v) : ∃ n : Int, v = .int .i64 n := by
  unfold Cell.okWide at w
  simp only [ht] at w
  unfold Cell.ok at w
  simp only [ht] at w
  cases v <;> first | exact ⟨_, by rw [w.1]⟩ | exact absurd w (by simp)
theorem open_sti {t ti : TypeId} {fs : Array Field} {n : Nat} (ht : P.underlying t = some (.struct fs)) (hti : P.underlying ti = some (.int .i64)) (hct : P.cellTypes P.depth t = some (List.replicate n ti)) (hn : P.cellsOf t = n)
    {r : Reach} {b : Nat} {v : Value} (w : Value.okWide P W r b t v) : ∃ l : List Int, l.length = n ∧ v = .agg ⟨l.map (.int .i64)⟩ := by
  unfold Value.okWide at w
  simp only [ht] at w
  obtain ⟨cs, rfl, hs, ts, hts, _, hc⟩ := w
  rw [hct] at hts
  obtain rfl := Option.some.inj hts
  obtain ⟨l⟩ := cs
  have : AI l := by
    intro c hcm
    obtain ⟨j, hj, rfl⟩ := List.mem_iff_getElem.1 hcm
    obtain ⟨u, hu, hok⟩ := hc j l[j] (by simp)
    have := List.eq_of_mem_replicate (List.mem_of_getElem? hu)
    subst this
    exact okW_int hti hok
  obtain ⟨l', rfl⟩ := this.list
  refine ⟨l', ?_, rfl⟩
  simpa [hn] using hs
theorem arg_ints (l : List Int) : Arg W (.agg ⟨l.map (.int .i64)⟩) (.agg (l.map fun x => .v (.int .i64 x))) [] [] (fun _ => .agg ⟨l.map (.int .i64)⟩) := by
  have := Arg.agg (W := W) (l := l.map (.int .i64)) fun c hc => by obtain ⟨x, _, rfl⟩ := List.mem_map.1 hc; exact atomV_int _ _
  rwa [List.map_map] at this
theorem Arg.ofArgs {cs : List Value} {ps : List TV} {bs : List Blk} {is : List Info} {av : Nat → List Value} (a : Args W cs ps bs is av) : Arg W (.agg ⟨cs⟩) (.agg ps) bs is (fun n => .agg ⟨av n⟩) :=
  ⟨fun D m n hD hm => .agg' (a.vr D m n hD hm), fun Fz h n hF hh => .agg' (a.vl Fz h n hF hh), a.ok, a.lt, a.len⟩
theorem open_cells {t : TypeId} {fs : Array Field} {ts : List TypeId} (ht : P.underlying t = some (.struct fs)) (hct : P.cellTypes P.depth t = some ts) (hn : P.cellsOf t = ts.length) {r : Reach} {b : Nat} {v : Value} (w : Value.okWide P W r b t v) :
    ∃ cs : List Value, v = .agg ⟨cs⟩ ∧ cs.length = ts.length ∧ ∀ (j : Nat) c u, cs[j]? = some c → ts[j]? = some u → Cell.okWide P W r b u c := by
  unfold Value.okWide at w
  simp only [ht] at w
  obtain ⟨cs, rfl, hs, ts', hts, _, hc⟩ := w
  rw [hct] at hts
  obtain rfl := Option.some.inj hts
  obtain ⟨l⟩ := cs
  have hl : l.length = ts.length := by simpa [hn] using hs
  refine ⟨l, rfl, hl, fun j c u hj hu => ?_⟩
  obtain ⟨u', hu', hok⟩ := hc j c (by simpa using hj)
  rw [Nat.mod_eq_of_lt (by have := (List.getElem?_eq_some_iff.1 hj).1; omega)] at hu'
  obtain rfl := Option.some.inj (hu.symm.trans hu')
  exact hok
theorem st_field {t : TypeId} {fs : Array Field} {i : Nat} {f : Field} (ht : P.underlying t = some (.struct fs)) (hf : fs[i]? = some f) {fuel : Nat} {cs : List Value} {x : DataW H × List MemPlace} (h : DataW.trod enc P W base spare held fuel t cs = some x) :
    ∃ n y, DataW.trod enc P W base spare held n f.type ((cs.drop f.offset).take (P.cellsOf f.type)) = some y := by
  obtain ⟨xs, n, _, _, hl, hx, hi⟩ := DataW.trod_struct ht h
  have := hi i f hf
  have hil : i < fs.size := (Array.getElem?_eq_some_iff.1 hf).1
  rw [List.getElem?_eq_getElem (by omega)] at this
  exact ⟨n, _, this⟩
end
end Go.Rex
