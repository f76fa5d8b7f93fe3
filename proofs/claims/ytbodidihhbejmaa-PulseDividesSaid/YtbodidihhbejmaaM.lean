/- What these functions return: facts on lists and numbers. -/
import Derived.Test.YtbodidihhbejmaaRexG10
import Derived.Test.YtbodidihhbejmaaS
import Derived.ProofKit
import Derived.OpenShut
import Derived.ShutString
import Derived.ChangeOld
import Derived.Below
import Derived.Lib.SmallJoins
import Derived.ChangeShapes
import Derived.ChangeArms
import Derived.WideShapes
set_option linter.unusedSimpArgs false
set_option linter.unusedVariables false
set_option linter.defProp false
set_option linter.unusedSectionVars false
namespace Go.Rex
open Go.RowKit
/-! ## whole floats -/
structure FOk (f : Ieee.Format) (q : Nat) : Prop where
  lp : f.leastPlace = -(q : Int)
  le : f.fractionBits + 1 ≤ q
  inf : (q + 2) * f.binade ≤ f.infRung
  sgn : f.infRung < f.signWeight
def fq : FloatKind → Nat
  | .f32=>149
  | .f64=>1074
def fb : FloatKind → Nat
  | .f32=>23
  | .f64=>52
theorem fok (k : FloatKind) : FOk k.format (fq k):=by
  cases k<;>exact ⟨by decide,by decide,by decide +kernel,by decide +kernel⟩
theorem fb_eq (k : FloatKind) : k.format.fractionBits = fb k:=by cases k<;>rfl
theorem cut_zero (n : Nat) (neg : Bool) : Ieee.Toward.cut .even neg n 0 = n:=by
  simp [Ieee.Toward.cut,Nat.mod_one]
theorem shl (m s : Nat) : m <<< s = m * 2 ^ s:=Nat.shiftLeft_eq m s
theorem log2_mul {m : Nat} (hm : m ≠ 0) (s : Nat) : (m * 2 ^ s).log2 = m.log2 + s:=by
  rw [Nat.log2_eq_iff (by have:=Nat.two_pow_pos s;exact Nat.mul_ne_zero hm (by omega))]
  have h1:=(Nat.log2_eq_iff hm).1 rfl
  constructor
  · rw [Nat.pow_add];exact Nat.mul_le_mul_right _ h1.1
  · rw [show m.log2 + s + 1 = m.log2 + 1 + s by omega,Nat.pow_add];exact Nat.mul_lt_mul_of_pos_right h1.2 (Nat.two_pow_pos s)
theorem cut_exact {m : Nat} (hm : m ≠ 0) (neg : Bool) {s d : Nat} (hd : d ≤ s) (way : Ieee.Toward) : way.cut neg (m * 2 ^ s) d = m * 2 ^ (s - d):=by
  have hg : min d ((m * 2 ^ s).log2 + 2) = d:=by rw [log2_mul hm];omega
  have e : m * 2 ^ s = 2 ^ d * (m * 2 ^ (s - d)):=by
    rw [Nat.mul_comm (2 ^ d),Nat.mul_assoc,← Nat.pow_add,Nat.sub_add_cancel hd]
  have hp:=Nat.two_pow_pos d
  unfold Ieee.Toward.cut
  rw [hg,shl,Nat.one_mul,e]
  dsimp only
  rw [Nat.mul_div_cancel_left _ hp,Nat.mul_mod_right]
  have : (2 ^ d == 0) = false:=by simp
  cases way<;>simp [this]
theorem cut_exact0 (neg : Bool) {d : Nat} (way : Ieee.Toward) : way.cut neg 0 d = 0:=by
  unfold Ieee.Toward.cut
  have hp : 0 < 1 <<< min d ((0 : Nat).log2 + 2):=by rw [shl,Nat.one_mul];exact Nat.two_pow_pos _
  have : (1 <<< min d ((0 : Nat).log2 + 2) == 0) = false:=by rw [beq_eq_false_iff_ne];omega
  cases way<;>simp [this]
theorem log2_lt {m b : Nat} (hm : m ≠ 0) (h : m < 2 ^ (b + 1)) : m.log2 ≤ b:=by
  have:=(Nat.log2_lt hm).2 h
  omega
/-- the word of m times 2 to the p, of a value that ffit -/
theorem nearest_val {f : Ieee.Format} {q : Nat} (ok : FOk f q) {m : Nat} (hm : m ≠ 0) (hl : m < 2 ^ (f.fractionBits + 1)) (neg : Bool) (s : Nat) :
    f.nearest neg (m * 2 ^ s) (-(s : Int)) = f.word neg ((q + m.log2 - f.fractionBits) * f.binade + m * 2 ^ (f.fractionBits - m.log2)):=by
  have hL:=log2_lt hm hl
  have hle:=ok.le
  unfold Ieee.Format.nearest
  rw [if_neg (by have:=Nat.two_pow_pos s;exact Nat.mul_ne_zero hm (by omega)),log2_mul hm,ok.lp]
  have e1 : max (-(s : Int) + ((m.log2 + s : Nat) : Int) - (f.fractionBits : Int)) (-(q : Int)) = (m.log2 : Int) - f.fractionBits:=by omega
  rw [e1]
  have kept : Ieee.Toward.even.cut neg ((m * 2 ^ s) <<< (-(s : Int) - ((m.log2 : Int) - f.fractionBits)).toNat) ((m.log2 : Int) - f.fractionBits - -(s : Int)).toNat = m * 2 ^ (f.fractionBits - m.log2):=by
    rcases Nat.lt_or_ge (f.fractionBits - m.log2) s with h|h
    · have a1 : (-(s : Int) - ((m.log2 : Int) - f.fractionBits)).toNat = 0:=by omega
      rw [a1,shl,Nat.pow_zero,Nat.mul_one,cut_exact hm neg (by omega)]
      congr 2;omega
    · have a1 : (-(s : Int) - ((m.log2 : Int) - f.fractionBits)).toNat = f.fractionBits - m.log2 - s:=by omega
      have a2 : ((m.log2 : Int) - f.fractionBits - -(s : Int)).toNat = 0:=by omega
      rw [a1,a2,cut_zero,shl,Nat.mul_assoc,← Nat.pow_add]
      congr 2;omega
  dsimp only
  rw [kept]
  have a3 : ((m.log2 : Int) - f.fractionBits - -(q : Int)).toNat = q + m.log2 - f.fractionBits:=by omega
  rw [a3]
  have hk : m * 2 ^ (f.fractionBits - m.log2) < 2 * f.binade:=by
    have h1:=(Nat.log2_eq_iff hm).1 rfl
    have h2:=Nat.mul_lt_mul_of_pos_right h1.2 (Nat.two_pow_pos (f.fractionBits - m.log2))
    rw [← Nat.pow_add] at h2
    rw [show m.log2 + 1 + (f.fractionBits - m.log2) = f.fractionBits + 1 by omega] at h2
    unfold Ieee.Format.binade
    rw [Nat.pow_succ] at h2
    omega
  have hi:=ok.inf
  have hq : (q + m.log2 - f.fractionBits) * f.binade ≤ q * f.binade:=Nat.mul_le_mul_right _ (by omega)
  rw [Nat.add_mul] at hi
  rw [Nat.min_eq_left (by omega)]
theorem nearest_inv {f : Ieee.Format} {q : Nat} (ok : FOk f q) {m : Nat} (hl : m < 2 ^ (f.fractionBits + 1)) (neg : Bool) (s : Nat) (p : Int) (hp : p = -(s : Int)) : f.nearest neg (m * 2 ^ s) p = f.nearest neg m 0:=by
  subst hp
  by_cases hm : m = 0
  · subst hm
    unfold Ieee.Format.nearest
    simp
  · have h0:=nearest_val ok hm hl neg 0
    rw [nearest_val ok hm hl neg s,← h0]
    simp
/-- how many digits are read behind the point -/
def digs (f : Ieee.Format) (q m : Nat) : Nat:=if m = 0 then q else f.fractionBits - m.log2
theorem read_word {f : Ieee.Format} {q : Nat} (ok : FOk f q) {m : Nat} (hl : m < 2 ^ (f.fractionBits + 1)) (neg : Bool) : f.read (f.nearest neg m 0) = .number neg (m * 2 ^ digs f q m) (-(digs f q m : Int)):=by
  have hle:=ok.le
  have hsg:=ok.sgn
  have hinf:=ok.inf
  have hbp : 0 < f.binade:=Nat.two_pow_pos _
  have wd : ∀ r,r < f.signWeight → (f.word neg r / f.signWeight % 2 == 1) = neg ∧ f.word neg r % f.signWeight = r:=by
    intro r hr
    unfold Ieee.Format.word
    cases neg
    · simp [Nat.div_eq_of_lt hr,Nat.mod_eq_of_lt hr]
    · have hs : 0 < f.signWeight:=by omega
      simp only [if_true]
      rw [Nat.add_div_left _ hs,Nat.div_eq_of_lt hr,Nat.add_mod_left,Nat.mod_eq_of_lt hr]
      simp
  rw [Nat.add_mul] at hinf
  have hq0 : 2 * f.binade ≤ f.infRung:=by omega
  by_cases hm : m = 0
  · subst hm
    have : f.nearest neg 0 0 = f.word neg 0:=by unfold Ieee.Format.nearest;simp
    rw [this]
    unfold Ieee.Format.read
    simp only [(wd 0 (by omega)).1,(wd 0 (by omega)).2]
    rw [if_pos hbp,ok.lp]
    simp [digs]
  · have h0:=nearest_val ok hm hl neg 0
    simp only [Nat.pow_zero,Nat.mul_one,Int.natCast_zero,Int.neg_zero] at h0
    rw [h0]
    have hL:=log2_lt hm hl
    have h1:=(Nat.log2_eq_iff hm).1 rfl
    have hk : m * 2 ^ (f.fractionBits - m.log2) < 2 * f.binade:=by
      have h2:=Nat.mul_lt_mul_of_pos_right h1.2 (Nat.two_pow_pos (f.fractionBits - m.log2))
      rw [← Nat.pow_add] at h2
      rw [show m.log2 + 1 + (f.fractionBits - m.log2) = f.fractionBits + 1 by omega] at h2
      unfold Ieee.Format.binade
      rw [Nat.pow_succ] at h2
      omega
    have hk2 : f.binade ≤ m * 2 ^ (f.fractionBits - m.log2):=by
      have h2:=Nat.mul_le_mul_right (2 ^ (f.fractionBits - m.log2)) h1.1
      rw [← Nat.pow_add] at h2
      rw [show m.log2 + (f.fractionBits - m.log2) = f.fractionBits by omega] at h2
      exact h2
    generalize hK : m * 2 ^ (f.fractionBits - m.log2) = K at *
    obtain ⟨j,hj⟩ : ∃ j,K = f.binade + j:=⟨K - f.binade,by omega⟩
    subst hj
    have hjb : j < f.binade:=by omega
    have hq : (q + m.log2 - f.fractionBits) * f.binade ≤ q * f.binade:=Nat.mul_le_mul_right _ (by omega)
    have hr : (q + m.log2 - f.fractionBits) * f.binade + (f.binade + j) < f.infRung:=by omega
    have hrs : (q + m.log2 - f.fractionBits) * f.binade + (f.binade + j) < f.signWeight:=by omega
    unfold Ieee.Format.read
    simp only [(wd _ hrs).1,(wd _ hrs).2]
    rw [if_neg (by omega),if_pos hr]
    have e1 : (q + m.log2 - f.fractionBits) * f.binade + (f.binade + j) = f.binade * (q + m.log2 - f.fractionBits + 1) + j:=by
      rw [Nat.mul_add,Nat.mul_comm];omega
    rw [e1,Nat.mul_add_mod,Nat.mod_eq_of_lt hjb,Nat.mul_add_div hbp,Nat.div_eq_of_lt hjb,ok.lp]
    unfold digs
    rw [if_neg hm,hK]
    congr 1
    omega
def sg (s : Bool) (m : Nat) : Int:=if s then -(m : Int) else m
theorem signed_eq (s : Bool) (m u : Nat) : Ieee.signed s m u = sg s m * 2 ^ u:=by
  unfold Ieee.signed sg
  rw [shl]
  cases s<;>simp [Int.neg_mul]
/-- a whole float: a sign and a size -/
def fz (k : FloatKind) (s : Bool) (m : Nat) : Nat:=k.encode (.number s m 0)
def ffit (k : FloatKind) (m : Nat) : Prop:=m < 2 ^ (fb k + 1)
def dg (k : FloatKind) (m : Nat) : Nat:=digs k.format (fq k) m
theorem read_fz {k : FloatKind} {s : Bool} {m : Nat} (h : ffit k m) : k.format.read (fz k s m) = .number s (m * 2 ^ dg k m) (-(dg k m : Int)) :=
  read_word (fok k) (by rw [fb_eq];exact h) s
theorem write_fz {k : FloatKind} {s : Bool} {m : Nat} (h : ffit k m) {u : Nat} {p : Int} (hp : p = -(u : Int)) : k.format.write (.number s (m * 2 ^ u) p) = fz k s m :=
  nearest_inv (fok k) (by rw [fb_eq];exact h) s u p hp
theorem sg_mul (s : Bool) (m n : Nat) : sg s (m * n) = sg s m * n:=by cases s<;>simp [sg,Int.neg_mul]
theorem sg_abs (s : Bool) (m : Nat) : (sg s m).natAbs = m:=by cases s<;>simp [sg]
theorem scale_pos (a : Int) (u : Nat) : (a * 2 ^ u < 0 ↔ a < 0) ∧ (a * 2 ^ u = 0 ↔ a = 0) ∧ (a * 2 ^ u).natAbs = a.natAbs * 2 ^ u:=by
  have hp : (0 : Int) < 2 ^ u:=Int.pow_pos (by omega)
  refine ⟨⟨fun h=>?_,fun h=>Int.mul_neg_of_neg_of_pos h hp⟩,⟨fun h=>?_,fun h=>by rw [h,Int.zero_mul]⟩,?_⟩
  · rcases Int.lt_or_le a 0 with h'|h'
    · exact h'
    · exact absurd h (by have:=Int.mul_nonneg h' (Int.le_of_lt hp);omega)
  · rcases Int.mul_eq_zero.1 h with h|h
    · exact h
    · omega
  · rw [Int.natAbs_mul,Int.natAbs_pow];rfl
theorem sum_number (s t : Bool) (m n i j : Nat) : Ieee.Datum.sum (.number s (m * 2 ^ i) (-(i : Int))) (.number t (n * 2 ^ j) (-(j : Int))) =
    some (.number (if sg s m + sg t n = 0 then s && t else decide (sg s m + sg t n < 0)) ((sg s m + sg t n).natAbs * 2 ^ max i j) (-(max i j : Nat))):=by
  have e1 : min (-(i : Int)) (-(j : Int)) = -((max i j : Nat) : Int):=by omega
  have e2 : (-(i : Int) - -((max i j : Nat) : Int)).toNat = max i j - i:=by omega
  have e3 : (-(j : Int) - -((max i j : Nat) : Int)).toNat = max i j - j:=by omega
  have a1 : Ieee.signed s (m * 2 ^ i) (max i j - i) = sg s m * 2 ^ max i j:=by
    rw [signed_eq,sg_mul,Int.mul_assoc]
    congr 1
    rw [Int.natCast_pow]
    show (2 : Int) ^ i * 2 ^ (max i j - i) = _
    rw [← Int.pow_add];congr 1;omega
  have a2 : Ieee.signed t (n * 2 ^ j) (max i j - j) = sg t n * 2 ^ max i j:=by
    rw [signed_eq,sg_mul,Int.mul_assoc]
    congr 1
    rw [Int.natCast_pow]
    show (2 : Int) ^ j * 2 ^ (max i j - j) = _
    rw [← Int.pow_add];congr 1;omega
  simp only [Ieee.Datum.sum,e1,e2,e3,a1,a2]
  rw [← Int.add_mul]
  obtain ⟨h1,h2,h3⟩:=scale_pos (sg s m + sg t n) (max i j)
  rw [h3]
  congr 2
  by_cases h : sg s m + sg t n = 0
  · rw [if_pos h,if_pos (h2.2 h)]
  · rw [if_neg h,if_neg (fun h'=>h (h2.1 h'))]
    exact decide_eq_decide.2 h1
theorem far_of {op : BinOp} {k : FloatKind} {a b r : Nat} (h : farith0 op k a b = some r) : farith op k a b = some r:=by
  unfold farith arN
  rw [h]
  rfl
end Go.Rex

open Go Go.Rex
namespace Go.Rex
set_option maxRecDepth 100000
/-! ## numbers as words,at any place -/
theorem dbl : Ieee.double.fractionBits = 52 ∧ Ieee.double.leastPlace = -1074 ∧ Ieee.double.binade = 2 ^ 52 ∧ Ieee.double.infRung = 2047 * Ieee.double.binade ∧ Ieee.double.signWeight = 2048 * Ieee.double.binade:=by decide +kernel
theorem near_at {m : Nat} (hm : m ≠ 0) (hl : m < 2 ^ 53) (neg : Bool) (a : Nat) {e p : Int} (hp : p = e - a) (h1 : -1074 ≤ e + m.log2 - 52) (h2 : e + m.log2 ≤ 1023) :
    Ieee.double.nearest neg (m * 2 ^ a) p = Ieee.double.word neg ((1074 + e + m.log2 - 52).toNat * Ieee.double.binade + m * 2 ^ (52 - m.log2)):=by
  subst hp
  have hL:=log2_lt hm hl
  unfold Ieee.Format.nearest
  rw [if_neg (by have:=Nat.two_pow_pos a;exact Nat.mul_ne_zero hm (by omega)),log2_mul hm,dbl.1,dbl.2.1]
  have e1 : max (e - (a : Int) + ((m.log2 + a : Nat) : Int) - ((52 : Nat) : Int)) (-1074) = e + (m.log2 : Int) - 52:=by omega
  rw [e1]
  have kept : Ieee.Toward.even.cut neg ((m * 2 ^ a) <<< (e - (a : Int) - (e + (m.log2 : Int) - 52)).toNat) (e + (m.log2 : Int) - 52 - (e - (a : Int))).toNat = m * 2 ^ (52 - m.log2):=by
    rcases Nat.lt_or_ge (52 - m.log2) a with h|h
    · have a1 : (e - (a : Int) - (e + (m.log2 : Int) - 52)).toNat = 0:=by omega
      rw [a1,shl,Nat.pow_zero,Nat.mul_one,cut_exact hm neg (by omega)]
      congr 2;omega
    · have a1 : (e - (a : Int) - (e + (m.log2 : Int) - 52)).toNat = 52 - m.log2 - a:=by omega
      have a2 : (e + (m.log2 : Int) - 52 - (e - (a : Int))).toNat = 0:=by omega
      rw [a1,a2,cut_zero,shl,Nat.mul_assoc,← Nat.pow_add]
      congr 2;omega
  dsimp only
  rw [kept]
  have a3 : (e + (m.log2 : Int) - 52 - -1074).toNat = (1074 + e + m.log2 - 52).toNat:=by omega
  rw [a3]
  have hk : m * 2 ^ (52 - m.log2) < 2 * Ieee.double.binade:=by
    have h1:=(Nat.log2_eq_iff hm).1 rfl
    have h2:=Nat.mul_lt_mul_of_pos_right h1.2 (Nat.two_pow_pos (52 - m.log2))
    rw [← Nat.pow_add] at h2
    rw [show m.log2 + 1 + (52 - m.log2) = 53 by omega] at h2
    rw [dbl.2.2.1]
    omega
  rw [dbl.2.2.2.1]
  generalize Ieee.double.binade = B at hk ⊢
  rw [Nat.min_eq_left (by
    have : (1074 + e + (m.log2 : Int) - 52).toNat ≤ 2045:=by omega
    have:=Nat.mul_le_mul_right B this
    omega)]
theorem wd (neg : Bool) (r : Nat) (hr : r < Ieee.double.signWeight) : (Ieee.double.word neg r / Ieee.double.signWeight % 2 == 1) = neg ∧ Ieee.double.word neg r % Ieee.double.signWeight = r:=by
  unfold Ieee.Format.word
  cases neg
  · simp [Nat.div_eq_of_lt hr,Nat.mod_eq_of_lt hr]
  · have hs : 0 < Ieee.double.signWeight:=by omega
    simp only [if_true]
    rw [Nat.add_div_left _ hs,Nat.div_eq_of_lt hr,Nat.add_mod_left,Nat.mod_eq_of_lt hr]
    simp
theorem read_at {m : Nat} (hm : m ≠ 0) (hl : m < 2 ^ 53) (neg : Bool) {e : Int} (h1 : -1074 ≤ e + m.log2 - 52) (h2 : e + m.log2 ≤ 1023) :
    Ieee.double.read (Ieee.double.nearest neg m e) = .number neg (m * 2 ^ (52 - m.log2)) (e - ((52 - m.log2 : Nat) : Int)):=by
  have h0:=near_at hm hl neg 0 (e:=e) (p:=e) (by simp) h1 h2
  rw [Nat.pow_zero,Nat.mul_one] at h0
  rw [h0]
  have hL:=log2_lt hm hl
  have hh:=(Nat.log2_eq_iff hm).1 rfl
  have hB:=dbl.2.2.1
  have hk : m * 2 ^ (52 - m.log2) < 2 * Ieee.double.binade:=by
    have h2:=Nat.mul_lt_mul_of_pos_right hh.2 (Nat.two_pow_pos (52 - m.log2))
    rw [← Nat.pow_add] at h2
    rw [show m.log2 + 1 + (52 - m.log2) = 53 by omega] at h2
    rw [hB]
    omega
  have hk2 : Ieee.double.binade ≤ m * 2 ^ (52 - m.log2):=by
    have h2:=Nat.mul_le_mul_right (2 ^ (52 - m.log2)) hh.1
    rw [← Nat.pow_add] at h2
    rw [show m.log2 + (52 - m.log2) = 52 by omega] at h2
    rw [hB]
    exact h2
  have hB0 : 0 < Ieee.double.binade:=by rw [hB];decide
  generalize hK : m * 2 ^ (52 - m.log2) = K at *
  obtain ⟨j,hj⟩ : ∃ j,K = Ieee.double.binade + j:=⟨K - Ieee.double.binade,by omega⟩
  subst hj
  obtain ⟨q,hq⟩ : ∃ q : Nat,(1074 + e + (m.log2 : Int) - 52).toNat = q:=⟨_,rfl⟩
  rw [hq]
  have hq2 : q ≤ 2045:=by omega
  have hqb:=Nat.mul_le_mul_right Ieee.double.binade hq2
  have hr : q * Ieee.double.binade + (Ieee.double.binade + j) < Ieee.double.signWeight:=by
    rw [dbl.2.2.2.2]
    omega
  unfold Ieee.Format.read
  simp only [(wd neg _ hr).1,(wd neg _ hr).2]
  rw [dbl.2.2.2.1,dbl.2.1]
  generalize Ieee.double.binade = B at *
  rw [if_neg (by omega),if_pos (by omega)]
  have e1 : q * B + (B + j) = B * (q + 1) + j:=by rw [Nat.mul_add,Nat.mul_comm];omega
  have hjb : j < B:=by omega
  rw [e1,Nat.mul_add_mod,Nat.mod_eq_of_lt hjb,Nat.mul_add_div hB0,Nat.div_eq_of_lt hjb]
  congr 1
  omega
/-- zero's word -/
theorem near_0 (neg : Bool) (p : Int) : Ieee.double.nearest neg 0 p = Ieee.double.word neg 0:=by
  unfold Ieee.Format.nearest
  simp
theorem read_0 (neg : Bool) : Ieee.double.read (Ieee.double.word neg 0) = .number neg 0 (-1074):=by
  cases neg<;>decide +kernel
/-! ## which number a datum is -/
/-- the number s m times 2 to the e is the whole number x -/
def NV (s : Bool) (m : Nat) (e : Int) (x : Int) : Prop:=(0 ≤ e ∧ sg s m * 2 ^ e.toNat = x) ∨ (e < 0 ∧ sg s m = x * 2 ^ (-e).toNat)
theorem pow_split (a b : Nat) : (2 : Int) ^ (a + b) = 2 ^ a * 2 ^ b:=Int.pow_add ..
theorem NV.at {s : Bool} {m : Nat} {e x : Int} (h : NV s m e x) {b : Int} (hb : b ≤ e) (hb0 : b ≤ 0) : sg s m * 2 ^ (e - b).toNat = x * 2 ^ (-b).toNat:=by
  rcases h with ⟨h0,h1⟩|⟨h0,h1⟩
  · rw [show (e - b).toNat = e.toNat + (-b).toNat by omega,pow_split,← Int.mul_assoc,h1]
  · rw [h1,show (-b).toNat = (-e).toNat + (e - b).toNat by omega,pow_split,Int.mul_assoc]
theorem NV.of {s : Bool} {m : Nat} {e x b : Int} (hb : b ≤ e) (hb0 : b ≤ 0) (h : sg s m * 2 ^ (e - b).toNat = x * 2 ^ (-b).toNat) : NV s m e x:=by
  have hp : ∀ k : Nat,(0 : Int) < 2 ^ k:=fun k=>Int.pow_pos (by decide)
  by_cases he : 0 ≤ e
  · left
    refine ⟨he,?_⟩
    rw [show (e - b).toNat = e.toNat + (-b).toNat by omega,pow_split,← Int.mul_assoc] at h
    exact Int.eq_of_mul_eq_mul_right (Int.ne_of_gt (hp _)) h
  · right
    refine ⟨by omega,?_⟩
    rw [show (-b).toNat = (-e).toNat + (e - b).toNat by omega,pow_split,← Int.mul_assoc] at h
    exact Int.eq_of_mul_eq_mul_right (Int.ne_of_gt (hp _)) h
theorem cmp_scale (a b : Int) (k : Nat) : compare (a * 2 ^ k) (b * 2 ^ k) = compare a b:=by
  have hp : (0 : Int) < 2 ^ k:=Int.pow_pos (by decide)
  have key : ∀ a b : Int,a * 2 ^ k < b * 2 ^ k ↔ a < b:=fun a b=>Int.mul_lt_mul_right hp
  simp only [compare,compareOfLessAndEq,key]
  have : (a * 2 ^ k = b * 2 ^ k) ↔ a = b:=Int.mul_eq_mul_right_iff (by omega)
  simp only [this]
/-- how numbers compare, over any lower place -/
theorem order_at {s t : Bool} {m n : Nat} {i j b : Int} (hi : b ≤ i) (hj : b ≤ j) : Ieee.Datum.order (.number s m i) (.number t n j) = some (compare (sg s m * 2 ^ (i - b).toNat) (sg t n * 2 ^ (j - b).toNat)):=by
  simp only [Ieee.Datum.order,signed_eq]
  congr 1
  rw [show (i - b).toNat = (i - min i j).toNat + (min i j - b).toNat by omega,show (j - b).toNat = (j - min i j).toNat + (min i j - b).toNat by omega,pow_split,pow_split,← Int.mul_assoc,← Int.mul_assoc,cmp_scale]
theorem nv_order {s t : Bool} {m n : Nat} {i j x y : Int} (h : NV s m i x) (g : NV t n j y) : Ieee.Datum.order (.number s m i) (.number t n j) = some (compare x y):=by
  have hb : min (min i j) 0 ≤ i ∧ min (min i j) 0 ≤ j ∧ min (min i j) 0 ≤ 0:=by omega
  rw [order_at hb.1 hb.2.1,h.at hb.1 hb.2.2,g.at hb.2.1 hb.2.2,cmp_scale]
theorem nv_of_eq {s t : Bool} {m n : Nat} {i j y : Int} (g : NV t n j y) (h : Ieee.Datum.order (.number s m i) (.number t n j) = some .eq) : NV s m i y:=by
  have hb : min (min i j) 0 ≤ i ∧ min (min i j) 0 ≤ j ∧ min (min i j) 0 ≤ 0:=by omega
  rw [order_at hb.1 hb.2.1,g.at hb.2.1 hb.2.2,Option.some.injEq,Int.compare_eq_eq] at h
  exact NV.of hb.1 hb.2.2 h
/-- the same number with other digits -/
theorem NV.shift {s : Bool} {m : Nat} {e x : Int} (a : Nat) : NV s (m * 2 ^ a) (e - a) x ↔ NV s m e x:=by
  have hb : min (e - a) 0 ≤ e ∧ min (e - a) 0 ≤ e - a ∧ min (e - a) 0 ≤ 0:=by omega
  have key : sg s (m * 2 ^ a) * 2 ^ (e - a - min (e - a) 0).toNat = sg s m * 2 ^ (e - min (e - a) 0).toNat:=by
    rw [sg_mul,Int.mul_assoc,Int.natCast_pow]
    congr 1
    show (2 : Int) ^ a * 2 ^ _ = _
    rw [← pow_split]
    congr 1
    omega
  constructor
  · intro h
    exact NV.of hb.1 hb.2.2 (by rw [← key];exact h.at hb.2.1 hb.2.2)
  · intro h
    exact NV.of hb.2.1 hb.2.2 (by rw [key];exact h.at hb.1 hb.2.2)
end Go.Rex

open Go Go.Rex
namespace Go.Rex
set_option maxRecDepth 100000
/-! ## samples: what a word of 32 bits is -/
def MOk (m : Nat) (e : Int) : Prop:=(m = 0 ∧ e = -149) ∨ (m ≠ 0 ∧ m < 2 ^ 24 ∧ -149 ≤ e ∧ e ≤ 104)
theorem sng : Ieee.single.leastPlace = -149 ∧ Ieee.single.binade = 2 ^ 23 ∧ Ieee.single.infRung = 255 * 2 ^ 23:=by decide +kernel
theorem smp_cases (b : Nat) : (∃ s t,Ieee.single.read b = .nan s t) ∨ (∃ s,Ieee.single.read b = .infinity s) ∨ (∃ s m e,Ieee.single.read b = .number s m e ∧ MOk m e):=by
  unfold Ieee.Format.read
  simp only [sng.1,sng.2.1,sng.2.2]
  generalize b % Ieee.single.signWeight = r
  generalize (b / Ieee.single.signWeight % 2 == 1) = s
  split
  · rename_i h
    refine .inr (.inr ⟨_,_,_,rfl,?_⟩)
    by_cases h0 : r = 0
    · exact .inl ⟨h0,rfl⟩
    · exact .inr ⟨h0,by omega,by omega,by omega⟩
  · split
    · refine .inr (.inr ⟨_,_,_,rfl,.inr ⟨by omega,?_,by omega,by omega⟩⟩)
      have:=Nat.mod_lt r (show 0 < 2 ^ 23 by decide)
      omega
    · split
      · exact .inr (.inl ⟨_,rfl⟩)
      · exact .inl ⟨_,_,rfl⟩
theorem near_inv2 {m : Nat} (hm : m ≠ 0) (hl : m < 2 ^ 53) (neg : Bool) (a : Nat) {e p : Int} (hp : p = e - a) (h1 : -1074 ≤ e + m.log2 - 52) (h2 : e + m.log2 ≤ 1023) : Ieee.double.nearest neg (m * 2 ^ a) p = Ieee.double.nearest neg m e:=by
  rw [near_at hm hl neg a hp h1 h2]
  have:=near_at hm hl neg 0 (e:=e) (p:=e) (by simp) h1 h2
  rw [Nat.pow_zero,Nat.mul_one] at this
  exact this.symm
theorem near_word (s : Bool) (m : Nat) (e : Int) : ∃ r,Ieee.double.nearest s m e = Ieee.double.word s r ∧ r ≤ Ieee.double.infRung:=by
  unfold Ieee.Format.nearest
  split
  · exact ⟨0,rfl,Nat.zero_le _⟩
  · exact ⟨_,rfl,Nat.min_le_right _ _⟩
theorem mok_log {m : Nat} {e : Int} (h : m ≠ 0 ∧ m < 2 ^ 24 ∧ -149 ≤ e ∧ e ≤ 104) : -1074 ≤ e + m.log2 - 52 ∧ e + m.log2 ≤ 1023 ∧ m < 2 ^ 53:=by
  have : m.log2 ≤ 23:=log2_lt h.1 h.2.1
  exact ⟨by omega,by omega,by omega⟩
/-- a sample's number as a double -/
structure Dbl (s : Bool) (m : Nat) (e : Int) (v M : Nat) (E : Int) : Prop where
  nr : v = Ieee.double.nearest s m e
  rd : Ieee.double.read v = .number s M E
  nv : ∀ x,NV s M E x ↔ NV s m e x
  lt : M < 2 ^ 53
  hi : E ≤ 104
  sh : (m = 0 ∧ M = 0 ∧ E = -1074) ∨ ∃ t : Nat,m ≠ 0 ∧ M = m * 2 ^ t ∧ E = e - t
theorem dbl_of {s : Bool} {m : Nat} {e : Int} (h : MOk m e) : ∃ M E,Dbl s m e (Ieee.double.nearest s m e) M E:=by
  rcases h with ⟨rfl,rfl⟩|h
  · refine ⟨0,-1074,rfl,by rw [near_0];exact read_0 s,fun x=>?_,by decide,by decide,.inl ⟨rfl,rfl,rfl⟩⟩
    have e0 : sg s 0 = 0:=by cases s<;>rfl
    have hp : ∀ k : Nat,(2 : Int) ^ k ≠ 0:=fun k=>Int.ne_of_gt (Int.pow_pos (by decide))
    unfold NV
    simp only [e0,Int.zero_mul]
    constructor
    · rintro (⟨h,_⟩|⟨_,h⟩)
      · omega
      · right
        refine ⟨by decide,?_⟩
        rcases Int.mul_eq_zero.1 h.symm with h|h
        · rw [h,Int.zero_mul]
        · exact absurd h (hp _)
    · rintro (⟨h,_⟩|⟨_,h⟩)
      · omega
      · right
        refine ⟨by decide,?_⟩
        rcases Int.mul_eq_zero.1 h.symm with h|h
        · rw [h,Int.zero_mul]
        · exact absurd h (hp _)
  · obtain ⟨h1,h2,h3⟩:=mok_log h
    have hlog : m.log2 ≤ 23:=log2_lt h.1 h.2.1
    refine ⟨m * 2 ^ (52 - m.log2),e - ((52 - m.log2 : Nat) : Int),rfl,read_at h.1 h3 s h1 h2,fun x=>NV.shift _,?_,by omega,.inr ⟨52 - m.log2,h.1,rfl,rfl⟩⟩
    have hh:=(Nat.log2_eq_iff h.1).1 rfl
    have h2:=Nat.mul_lt_mul_of_pos_right hh.2 (Nat.two_pow_pos (52 - m.log2))
    rw [← Nat.pow_add] at h2
    rw [show m.log2 + 1 + (52 - m.log2) = 53 by omega] at h2
    exact h2
theorem num_notnan {k : FloatKind} {b : Nat} {s : Bool} {m : Nat} {e : Int} (h : k.format.read b = .number s m e) : nanB k b = false:=by
  cases hq : nanB k b with
  | false=>rfl
  | true =>
    obtain ⟨s',t,e'⟩:=nan_read hq
    rw [h] at e'
    cases e'
theorem f2f_num {b : Nat} {s : Bool} {m : Nat} {e : Int} (hr : Ieee.single.read b = .number s m e) (h : MOk m e) : f2f .f32 b .f64 = some (Ieee.double.nearest s m e):=by
  obtain ⟨M,E,hd⟩:=dbl_of (s:=s) h
  have hn : nanB .f32 b = false:=num_notnan (k:=.f32) hr
  unfold f2f
  rw [if_neg (by decide),hn,if_neg (by decide)]
  have hr' : FloatKind.f32.decode b = .number s m e:=hr
  rw [hr']
  simp only
  have e1 : FloatKind.f64.encode (.number s m e) = Ieee.double.nearest s m e:=rfl
  rw [e1]
  have e2 : FloatKind.f64.decode (Ieee.double.nearest s m e) = .number s M E:=hd.rd
  rw [e2]
  rfl
/-! ### the whole part -/
theorem trI_num {v : Nat} {s : Bool} {M : Nat} {E : Int} (h : Ieee.double.read v = .number s M E) : trI .zero v = some (Ieee.double.nearest s (Ieee.Toward.cut .zero s (M <<< E.toNat) (-E).toNat) 0):=by
  unfold trI
  rw [num_notnan (k:=.f64) h,if_neg (by decide)]
  have h' : FloatKind.f64.decode v = .number s M E:=h
  rw [h']
  rfl
theorem sg_of_nat {s : Bool} {m : Nat} {e x : Int} (h : NV s m e x) : sg s x.natAbs = x:=by
  have key : ∀ (a : Nat) (y : Int),sg s a = y → sg s y.natAbs = y:=fun a y h=>by rw [← h,sg_abs]
  have hp : ∀ k : Nat,(0 : Int) < 2 ^ k:=fun k=>Int.pow_pos (by decide)
  rcases h with ⟨_,h⟩|⟨_,h⟩
  · have : sg s (m * 2 ^ e.toNat) = x:=by rw [sg_mul,← h,Int.natCast_pow];rfl
    exact key _ _ this
  · have h2 : 0 ≤ sg s 1 * x := by
      have h3 : sg s m = sg s 1 * (m : Int):=by cases s<;>simp [sg]
      have h4 : (0 : Int) ≤ sg s 1 * (x * 2 ^ (-e).toNat):=by rw [← h,h3];cases s<;>simp [sg]
      rw [← Int.mul_assoc] at h4
      by_cases hn : sg s 1 * x < 0
      · have:=Int.mul_neg_of_neg_of_pos hn (hp (-e).toNat)
        omega
      · omega
    cases s
    · simp [sg] at h2 ⊢;omega
    · simp [sg] at h2 ⊢;omega
theorem trI_whole {s : Bool} {m : Nat} {e : Int} {v M : Nat} {E x : Int} (h : MOk m e) (hd : Dbl s m e v M E) (hx : NV s m e x) : trI .zero v = some v:=by
  rw [trI_num hd.rd]
  congr 1
  rcases hd.sh with ⟨h0,h1,h2⟩|⟨t,hm,h1,h2⟩
  · subst h0 h1 h2
    rw [show (0 : Nat) <<< (-1074 : Int).toNat = 0 by rw [shl];simp,cut_exact0,near_0,hd.nr,near_0]
  · rcases h with ⟨h0,_⟩|hk
    · exact absurd h0 hm
    obtain ⟨k1,k2,k3⟩:=mok_log hk
    have hlog : m.log2 ≤ 23:=log2_lt hk.1 hk.2.1
    subst h1 h2
    rw [hd.nr]
    rcases hx with ⟨he,hx⟩|⟨he,hx⟩
    · have hq : Ieee.Toward.cut .zero s ((m * 2 ^ t) <<< (e - (t : Int)).toNat) (-(e - (t : Int))).toNat = m * 2 ^ e.toNat := by
        rw [shl,Nat.mul_assoc,← Nat.pow_add,cut_exact hm s (by omega)]
        congr 2
        omega
      rw [hq]
      exact near_inv2 hm k3 s e.toNat (by omega) k1 k2
    · have hX : m = x.natAbs * 2 ^ (-e).toNat := by
        have:=congrArg Int.natAbs hx
        rw [sg_abs,Int.natAbs_mul,Int.natAbs_pow] at this
        exact this
      have hX0 : x.natAbs ≠ 0:=by
        intro h
        rw [h,Nat.zero_mul] at hX
        exact hm hX
      have hXl : x.natAbs ≤ m:=by rw [hX];exact Nat.le_mul_of_pos_right _ (Nat.two_pow_pos _)
      have hXlog : x.natAbs.log2 ≤ 23:=log2_lt hX0 (by omega)
      have hq : Ieee.Toward.cut .zero s ((m * 2 ^ t) <<< (e - (t : Int)).toNat) (-(e - (t : Int))).toNat = x.natAbs:=by
        rw [show (e - (t : Int)).toNat = 0 by omega,shl,Nat.pow_zero,Nat.mul_one,hX,Nat.mul_assoc,← Nat.pow_add,cut_exact hX0 s (by omega)]
        rw [show (-e).toNat + t - (-(e - (t : Int))).toNat = 0 by omega]
        simp
      rw [hq]
      have:=near_inv2 hX0 (by omega) s (-e).toNat (e:=0) (p:=e) (by omega) (by omega) (by omega)
      rw [← hX] at this
      exact this.symm
theorem read_small {q : Nat} (hq : q < 2 ^ 53) (s : Bool) : ∃ n j,Ieee.double.read (Ieee.double.nearest s q 0) = .number s n j ∧ NV s n j (sg s q):=by
  by_cases h0 : q = 0
  · subst h0
    refine ⟨0,-1074,by rw [near_0];exact read_0 s,.inr ⟨by decide,?_⟩⟩
    rw [show sg s 0 = 0 by cases s<;>rfl,Int.zero_mul]
  · have hl:=log2_lt h0 hq
    refine ⟨_,_,read_at h0 hq s (by omega) (by omega),(NV.shift _).2 (.inl ⟨by decide,?_⟩)⟩
    simp
theorem trI_part {s : Bool} {m : Nat} {e : Int} {v M : Nat} {E : Int} (h : MOk m e) (hd : Dbl s m e v M E) (hx : ∀ x,¬ NV s m e x) : ∃ w,trI .zero v = some w ∧ fcmp .eql .f64 v w = false:=by
  have hE : E < 0:=by
    rcases hd.sh with ⟨h0,h1,h2⟩|⟨t,hm,h1,h2⟩
    · omega
    · by_cases he : 0 ≤ e
      · exact absurd (.inl ⟨he,rfl⟩) (hx _)
      · omega
  have hq : Ieee.Toward.cut .zero s (M <<< E.toNat) (-E).toNat < 2 ^ 53:=by
    rw [show E.toNat = 0 by omega,shl,Nat.pow_zero,Nat.mul_one]
    unfold Ieee.Toward.cut
    simp only [Bool.toNat_false,Nat.add_zero]
    exact Nat.lt_of_le_of_lt (Nat.div_le_self _ _) hd.lt
  obtain ⟨n,j,hr,hn⟩:=read_small hq s
  refine ⟨_,trI_num hd.rd,?_⟩
  unfold fcmp
  have ho : FloatKind.f64.format.order v (Ieee.double.nearest s (Ieee.Toward.cut .zero s (M <<< E.toNat) (-E).toNat) 0) = Ieee.Datum.order (.number s M E) (.number s n j):=by
    show Ieee.Datum.order (Ieee.double.read v) (Ieee.double.read _) = _
    rw [hd.rd,hr]
  simp only [ho]
  rw [beq_eq_false_iff_ne]
  intro he
  exact hx _ ((hd.nv _).1 (nv_of_eq hn he))
end Go.Rex

namespace Go.Rex
open Go Go.Rex
set_option maxRecDepth 100000
/-! ## samples: what the program and the reference say of them -/
theorem ord64 {a b : Nat} {s t : Bool} {m n : Nat} {i j : Int} (h : Ieee.double.read a = .number s m i) (g : Ieee.double.read b = .number t n j) : FloatKind.f64.format.order a b = Ieee.Datum.order (.number s m i) (.number t n j):=by
  show Ieee.Datum.order (Ieee.double.read a) (Ieee.double.read b) = _
  rw [h,g]
theorem ord32 {a b : Nat} {s t : Bool} {m n : Nat} {i j : Int} (h : Ieee.single.read a = .number s m i) (g : Ieee.single.read b = .number t n j) : FloatKind.f32.format.order a b = Ieee.Datum.order (.number s m i) (.number t n j):=by
  show Ieee.Datum.order (Ieee.single.read a) (Ieee.single.read b) = _
  rw [h,g]
theorem eqv_self {v : Nat} {s : Bool} {M : Nat} {E : Int} (h : Ieee.double.read v = .number s M E) : fcmp .eql .f64 v v = true ∧ fcmp .neq .f64 v v = false:=by
  have : FloatKind.f64.format.order v v = some .eq:=by
    rw [ord64 h h,order_at (Int.le_refl _) (Int.le_refl _)]
    congr 1
    exact Int.compare_eq_eq.2 rfl
  unfold fcmp
  simp only [this]
  exact ⟨rfl,rfl⟩
/-- the size of a finite double is not above the greatest one -/
theorem read_abs {s : Bool} {r M : Nat} {E : Int} (hr : r < Ieee.double.signWeight) (h : Ieee.double.read (Ieee.double.word s r) = .number s M E) : Ieee.double.read r = .number false M E:=by
  have h1:=wd s r hr
  have h2 : (r / Ieee.double.signWeight % 2 == 1) = false ∧ r % Ieee.double.signWeight = r:=by
    rw [Nat.div_eq_of_lt hr,Nat.mod_eq_of_lt hr]
    exact ⟨rfl,rfl⟩
  unfold Ieee.Format.read at h ⊢
  simp only [h1.1,h1.2] at h
  simp only [h2.1,h2.2]
  split at h
  · rename_i q
    rw [if_pos q]
    cases h
    rfl
  · rename_i q
    rw [if_neg q]
    split at h
    · rename_i q2
      rw [if_pos q2]
      cases h
      rfl
    · split at h<;>cases h
theorem read_max : Ieee.double.read 9218868437227405311 = .number false (2 ^ 53 - 1) 971:=by decide +kernel
theorem not_inf {r M : Nat} {E : Int} (h : Ieee.double.read r = .number false M E) (hM : M < 2 ^ 53) (hE : E ≤ 104) : fcmp .gtr .f64 r 9218868437227405311 = false:=by
  have : FloatKind.f64.format.order r 9218868437227405311 ≠ some .gt:=by
    rw [ord64 h read_max,order_at (b:=E) (Int.le_refl _) (by omega)]
    intro hc
    rw [Option.some.injEq,Int.compare_eq_gt] at hc
    have h0 : (E - E).toNat = 0:=by omega
    rw [h0] at hc
    simp only [sg,Bool.false_eq_true,if_false,Int.pow_zero,Int.mul_one] at hc
    have h2 : (1 : Int) ≤ 2 ^ (971 - E).toNat:=by have:=Int.pow_pos (m:=(971 - E).toNat) (show (0 : Int) < 2 by decide);omega
    have h3:=Int.mul_le_mul_of_nonneg_left h2 (show (0 : Int) ≤ ((2 ^ 53 - 1 : Nat) : Int) by decide)
    rw [Int.mul_one] at h3
    have h4 : ((2 ^ 53 - 1 : Nat) : Int) = 9007199254740991:=by decide
    rw [h4] at h3 hc
    omega
  unfold fcmp
  simp only
  rw [beq_eq_false_iff_ne]
  exact this
theorem and_not (s : Bool) (r : Nat) (hr : r < 2 ^ 63) : (bitI .andNot .u64 ((Ieee.double.word s r : Nat) : Int) 9223372036854775808).toNat = r:=by
  have hw : Ieee.double.word s r < 2 ^ 64 ∧ Ieee.double.word s r % 2 ^ 63 = r:=by
    unfold Ieee.Format.word
    have e : Ieee.double.signWeight = 2 ^ 63:=by decide +kernel
    rw [e]
    cases s
    · simp only [Bool.false_eq_true,if_false]
      omega
    · simp only [if_true]
      omega
  generalize Ieee.double.word s r = v at hw ⊢
  unfold bitI
  have hb : IntKind.u64.bits = 64:=rfl
  have hwrap : ∀ n : Int,IntKind.u64.wrap n = n % 2 ^ 64:=fun n=>rfl
  simp only [hwrap]
  show (((BitVec.ofInt 64 (v : Int) &&& ~~~ BitVec.ofInt 64 9223372036854775808).toNat : Int) % 2 ^ 64).toNat = r
  have h1 : (BitVec.ofInt 64 (v : Int) &&& ~~~ BitVec.ofInt 64 9223372036854775808).toNat = v % 2 ^ 63:=by
    have h2 : (~~~ BitVec.ofInt 64 9223372036854775808).toNat = 2 ^ 63 - 1:=by decide
    have h3 : (BitVec.ofInt 64 (v : Int)).toNat = v:=by
      rw [BitVec.toNat_ofInt]
      omega
    rw [BitVec.toNat_and,h2,h3,Nat.and_two_pow_sub_one_eq_mod]
  rw [h1,hw.2]
  omega
theorem inf_false {s : Bool} {m : Nat} {e : Int} {v M : Nat} {E : Int} (hd : Dbl s m e v M E) : math_IsInf v 0 = some false:=by
  obtain ⟨r,hr,hri⟩:=near_word s m e
  rw [← hd.nr] at hr
  have hs : r < Ieee.double.signWeight:=by
    have:=dbl.2.2.2
    have h0 : Ieee.double.infRung < Ieee.double.signWeight:=by decide +kernel
    omega
  have hs63 : r < 2 ^ 63:=by
    have e : Ieee.double.signWeight = 2 ^ 63:=by decide +kernel
    rw [e] at hs
    exact hs
  have hn:=num_notnan (k:=.f64) hd.rd
  have hrd:=hd.rd
  unfold math_IsInf math_Abs fbits
  rw [hn]
  simp only [decide_true,if_true,Bool.false_eq_true,if_false,Option.bind_some]
  rw [hr,and_not s r hs63]
  rw [hr] at hrd
  rw [not_inf (read_abs hs hrd) hd.lt hd.hi]
theorem prog_whole {b : Nat} {s : Bool} {m : Nat} {e x : Int} (hr : Ieee.single.read b = .number s m e) (h : MOk m e) (hx : NV s m e x) : figure_isWhole b = some true:=by
  obtain ⟨M,E,hd⟩:=dbl_of (s:=s) h
  unfold figure_isWhole math_Trunc
  rw [f2f_num hr h]
  simp only [Option.bind_some]
  rw [trI_whole h hd hx]
  simp only [Option.bind_some]
  rw [(eqv_self hd.rd).1,inf_false hd]
  simp
theorem prog_part {b : Nat} {s : Bool} {m : Nat} {e : Int} (hr : Ieee.single.read b = .number s m e) (h : MOk m e) (hx : ∀ x,¬ NV s m e x) : figure_isWhole b = some false:=by
  obtain ⟨M,E,hd⟩:=dbl_of (s:=s) h
  obtain ⟨w,h1,h2⟩:=trI_part h hd hx
  unfold figure_isWhole math_Trunc
  rw [f2f_num hr h]
  simp only [Option.bind_some]
  rw [h1]
  simp only [Option.bind_some]
  rw [h2]
  simp
theorem prog_nan {b : Nat} {s : Bool} {t : Nat} (hr : Ieee.single.read b = .nan s t) : figure_isWhole b = some false ∧ f2f .f32 b .f64 = some (qn .f64):=by
  have hn : nanB .f32 b = true:=nan_of_read (k:=.f32) hr
  have hf : f2f .f32 b .f64 = some (qn .f64):=by
    unfold f2f
    rw [if_neg (by decide),hn,if_pos rfl]
  refine ⟨?_,hf⟩
  unfold figure_isWhole math_Trunc
  rw [hf]
  simp only [Option.bind_some]
  have e : trI .zero (qn .f64) = some (qn .f64):=by decide +kernel
  rw [e]
  simp only [Option.bind_some]
  have e2 : fcmp .eql .f64 (qn .f64) (qn .f64) = false:=by decide +kernel
  rw [e2]
  simp
theorem prog_inf {b : Nat} {s : Bool} (hr : Ieee.single.read b = .infinity s) : figure_isWhole b = some false ∧ f2f .f32 b .f64 = some (FloatKind.f64.encode (.infinity s)):=by
  have hn : nanB .f32 b = false:=by
    cases hq : nanB .f32 b with
    | false=>rfl
    | true =>
      obtain ⟨s',t,e'⟩:=nan_read hq
      have e' : Ieee.single.read b = .nan s' t:=e'
      rw [hr] at e'
      cases e'
  have hf : f2f .f32 b .f64 = some (FloatKind.f64.encode (.infinity s)):=by
    unfold f2f
    rw [if_neg (by decide),hn,if_neg (by decide)]
    have : FloatKind.f32.decode b = .infinity s:=hr
    rw [this]
  refine ⟨?_,hf⟩
  unfold figure_isWhole
  rw [hf]
  simp only [Option.bind_some]
  cases s<;>decide +kernel

end Go.Rex

namespace Go.Rex
open Go Go.Rex
set_option maxRecDepth 100000
theorem cut_whole {s : Bool} {m : Nat} {e : Int} {v M : Nat} {E x : Int} (h : MOk m e) (hd : Dbl s m e v M E) (hx : NV s m e x) : Ieee.Toward.cut .zero s (M <<< E.toNat) (-E).toNat = x.natAbs ∧ Ieee.double.nearest s x.natAbs 0 = v:=by
  have key:=trI_whole h hd hx
  rw [trI_num hd.rd] at key
  have key:=Option.some.inj key
  suffices hq : Ieee.Toward.cut .zero s (M <<< E.toNat) (-E).toNat = x.natAbs by
    rw [hq] at key
    exact ⟨hq,key⟩
  clear key
  rcases hd.sh with ⟨h0,h1,h2⟩|⟨t,hm,h1,h2⟩
  · subst h0 h1 h2
    have e0 : sg s 0 = 0:=by cases s<;>rfl
    have hx0 : x = 0:=by
      rcases hx with ⟨_,hx⟩|⟨_,hx⟩
      · rw [e0,Int.zero_mul] at hx;exact hx.symm
      · rw [e0] at hx
        rcases Int.mul_eq_zero.1 hx.symm with h|h
        · exact h
        · exact absurd h (Int.ne_of_gt (Int.pow_pos (by decide)))
    rw [hx0,show (0 : Nat) <<< (-1074 : Int).toNat = 0 by rw [shl];simp,cut_exact0]
    rfl
  · subst h1 h2
    rcases hx with ⟨he,hx⟩|⟨he,hx⟩
    · rw [shl,Nat.mul_assoc,← Nat.pow_add,cut_exact hm s (by omega)]
      have h3:=congrArg Int.natAbs hx
      rw [Int.natAbs_mul,sg_abs,Int.natAbs_pow] at h3
      rw [← h3]
      show _ = m * 2 ^ e.toNat
      congr 2
      omega
    · have hX : m = x.natAbs * 2 ^ (-e).toNat := by
        have:=congrArg Int.natAbs hx
        rw [sg_abs,Int.natAbs_mul,Int.natAbs_pow] at this
        exact this
      have hX0 : x.natAbs ≠ 0:=by
        intro h
        rw [h,Nat.zero_mul] at hX
        exact hm hX
      rw [show (e - (t : Int)).toNat = 0 by omega,shl,Nat.pow_zero,Nat.mul_one,hX,Nat.mul_assoc,← Nat.pow_add,cut_exact hX0 s (by omega)]
      rw [show (-e).toNat + t - (-(e - (t : Int))).toNat = 0 by omega]
      simp
theorem nv_of_eq2 {s t : Bool} {m n : Nat} {i j y : Int} (g : NV t n j y) (h : Ieee.Datum.order (.number t n j) (.number s m i) = some .eq) : NV s m i y:=by
  have hb : min (min i j) 0 ≤ i ∧ min (min i j) 0 ≤ j ∧ min (min i j) 0 ≤ 0:=by omega
  rw [order_at hb.2.1 hb.1,g.at hb.2.1 hb.2.2,Option.some.injEq,Int.compare_eq_eq] at h
  exact NV.of hb.1 hb.2.2 h.symm
theorem read_c1 : Ieee.double.read 14069741636278059008 = .number true 5000000000000000 1:=by decide +kernel
theorem read_c2 : Ieee.double.read 4846369599423283200 = .number false 5000000000000000 1:=by decide +kernel
theorem sub_self0 {v : Nat} {s : Bool} {M : Nat} {E : Int} (h : Ieee.double.read v = .number s M E) : farith .sub .f64 v v = some 0:=by
  refine far_of ?_
  show (((Ieee.double.read v).sum (Ieee.double.read v).opposite).map Ieee.double.write) = some 0
  rw [h]
  simp only [Ieee.Datum.opposite,Ieee.Datum.sum]
  have e : min E E = E:=by omega
  rw [e]
  have h0 : (E - E).toNat = 0:=by omega
  rw [h0]
  simp only [signed_eq,Int.pow_zero,Int.mul_one]
  have hz : sg s M + sg (!s) M = 0:=by cases s<;>simp [sg]<;>omega
  rw [hz]
  simp only [if_true,Option.map_some]
  have hs : (s && !s) = false:=by cases s<;>rfl
  rw [hs]
  show some (Ieee.double.nearest false 0 E) = some 0
  rw [near_0]
  rfl
theorem cmpI {x y : Int} : ((some (compare x y) == some Ordering.gt || some (compare x y) == some Ordering.eq) = decide (y ≤ x)) ∧ ((some (compare x y) == some Ordering.lt || some (compare x y) == some Ordering.eq) = decide (x ≤ y)) ∧ ((some (compare x y) == some Ordering.lt) = decide (x < y)) ∧ ((some (compare x y) == some Ordering.gt) = decide (y < x)) ∧ ((some (compare x y) == some Ordering.eq) = decide (x = y)):=by
  simp only [compare,compareOfLessAndEq]
  rcases Int.lt_trichotomy x y with h|h|h
  · rw [if_pos h]
    refine ⟨?_,?_,?_,?_,?_⟩<;>simp<;>omega
  · subst h
    rw [if_neg (Int.lt_irrefl _),if_pos rfl]
    refine ⟨?_,?_,?_,?_,?_⟩<;>simp
  · rw [if_neg (by omega),if_neg (by omega)]
    refine ⟨?_,?_,?_,?_,?_⟩<;>simp<;>omega
theorem f2i_num {v : Nat} {s : Bool} {M : Nat} {E : Int} {q : Nat} (h : Ieee.double.read v = .number s M E) (hq : Ieee.Toward.cut .zero s (M <<< E.toNat) (-E).toNat = q) (hb : q < 2 ^ 63) : f2i .f64 v .i64 = some (sg s q):=by
  unfold f2i
  have e : FloatKind.f64.decode v = .number s M E:=h
  rw [e]
  have e2 : (Ieee.Datum.number s M E).toInt .zero = some (sg s q):=by
    unfold Ieee.Datum.toInt Ieee.Datum.integral
    simp only [hq,signed_eq,Int.pow_zero,Int.mul_one]
  rw [e2]
  simp only
  have hm : IntKind.i64.min = -9223372036854775808 ∧ IntKind.i64.max = 9223372036854775807:=by decide
  rw [hm.1,hm.2,if_pos]
  cases s<;>simp only [sg,if_true,if_false,Bool.false_eq_true]<;>omega
theorem ref_whole {s : Bool} {m : Nat} {e : Int} {v M : Nat} {E x : Int} (h : MOk m e) (hd : Dbl s m e v M E) (hx : NV s m e x) : base_IsWhole v = some true:=by
  have hX:=(hd.nv x).2 hx
  have g1 : fcmp .geq .f64 v 14069741636278059008 = decide (-10000000000000000 ≤ x):=by
    unfold fcmp
    simp only
    rw [ord64 hd.rd read_c1,nv_order hX (y:=-10000000000000000) (.inl ⟨by decide,by decide⟩)]
    exact cmpI.1
  have g2 : fcmp .leq .f64 v 4846369599423283200 = decide (x ≤ 10000000000000000):=by
    unfold fcmp
    simp only
    rw [ord64 hd.rd read_c2,nv_order hX (y:=10000000000000000) (.inl ⟨by decide,by decide⟩)]
    exact cmpI.2.1
  unfold base_IsWhole
  rw [(eqv_self hd.rd).2,sub_self0 hd.rd]
  simp only [Bool.false_eq_true,if_false,Option.bind_some]
  have g0 : fcmp .neq .f64 0 0 = false:=by decide +kernel
  rw [g0,g1,g2]
  simp only [Bool.false_eq_true,if_false]
  by_cases c1 : -10000000000000000 ≤ x
  · by_cases c2 : x ≤ 10000000000000000
    · rw [if_pos (decide_eq_true c1),if_pos (decide_eq_true c2)]
      obtain ⟨hq,hn⟩:=cut_whole h hd hx
      rw [f2i_num hd.rd hq (by omega),sg_of_nat hx]
      simp only [Option.bind_some]
      congr 1
      have hne : FloatKind.f64.nearest x = Ieee.double.nearest (decide (x < 0)) x.natAbs 0:=rfl
      by_cases x0 : x = 0
      · subst x0
        have e1 : FloatKind.f64.nearest 0 = Ieee.double.word false 0:=by rw [hne];exact near_0 _ _
        have r1 : Ieee.double.read (FloatKind.f64.nearest 0) = .number false 0 (-1074):=by rw [e1];exact read_0 false
        unfold fcmp
        simp only
        rw [ord64 r1 hd.rd,nv_order (x:=0) (.inr ⟨by decide,by rw [show sg false 0 = 0 from rfl,Int.zero_mul]⟩) hX]
        rfl
      · have hs : decide (x < 0) = s := by
          have h1:=sg_of_nat hx
          cases s
          · simp only [sg,Bool.false_eq_true,if_false] at h1
            exact decide_eq_false (by omega)
          · simp only [sg,if_true] at h1
            exact decide_eq_true (by omega)
        rw [hne,hs,hn]
        exact (eqv_self hd.rd).1
    · rw [if_pos (decide_eq_true c1),if_neg (by simp;omega)]
  · rw [if_neg (by simp;omega)]
theorem ref_part {s : Bool} {m : Nat} {e : Int} {v M : Nat} {E : Int} (h : MOk m e) (hd : Dbl s m e v M E) (hx : ∀ x,¬ NV s m e x) : base_IsWhole v = some false:=by
  have hE : E < 0:=by
    rcases hd.sh with ⟨h0,h1,h2⟩|⟨t,hm,h1,h2⟩
    · omega
    · by_cases he : 0 ≤ e
      · exact absurd (.inl ⟨he,rfl⟩) (hx _)
      · omega
  have hlt:=hd.lt
  have hp4 : (4 : Int) ≤ 2 ^ (1 - E).toNat:=by
    rw [show (1 - E).toNat = 2 + (-E - 1).toNat by omega,pow_split]
    have : (1 : Int) ≤ 2 ^ (-E - 1).toNat:=by have:=Int.pow_pos (m:=(-E - 1).toNat) (show (0 : Int) < 2 by decide);omega
    omega
  have hbig:=Int.mul_le_mul_of_nonneg_left hp4 (show (0 : Int) ≤ 5000000000000000 by decide)
  have h0 : (E - E).toNat = 0:=by omega
  have hsg : -(M : Int) ≤ sg s M ∧ sg s M ≤ M:=by cases s<;>simp [sg]<;>omega
  have g1 : fcmp .geq .f64 v 14069741636278059008 = true:=by
    unfold fcmp
    simp only
    rw [ord64 hd.rd read_c1,order_at (b:=E) (Int.le_refl _) (by omega),cmpI.1,h0]
    refine decide_eq_true ?_
    have e1 : sg true 5000000000000000 = -5000000000000000:=by decide
    rw [e1,Int.pow_zero,Int.mul_one,Int.neg_mul]
    omega
  have g2 : fcmp .leq .f64 v 4846369599423283200 = true:=by
    unfold fcmp
    simp only
    rw [ord64 hd.rd read_c2,order_at (b:=E) (Int.le_refl _) (by omega),cmpI.2.1,h0]
    refine decide_eq_true ?_
    have e1 : sg false 5000000000000000 = 5000000000000000:=by decide
    rw [e1,Int.pow_zero,Int.mul_one]
    omega
  unfold base_IsWhole
  rw [(eqv_self hd.rd).2,sub_self0 hd.rd]
  simp only [Bool.false_eq_true,if_false,Option.bind_some]
  have g0 : fcmp .neq .f64 0 0 = false:=by decide +kernel
  rw [g0,g1,g2]
  simp only [Bool.false_eq_true,if_false,if_true]
  have hq : Ieee.Toward.cut .zero s (M <<< E.toNat) (-E).toNat < 2 ^ 53:=by
    rw [show E.toNat = 0 by omega,shl,Nat.pow_zero,Nat.mul_one]
    unfold Ieee.Toward.cut
    simp only [Bool.toNat_false,Nat.add_zero]
    exact Nat.lt_of_le_of_lt (Nat.div_le_self _ _) hlt
  generalize hqq : Ieee.Toward.cut .zero s (M <<< E.toNat) (-E).toNat = q at hq
  rw [f2i_num hd.rd hqq (by omega)]
  simp only [Option.bind_some]
  congr 1
  have hne : FloatKind.f64.nearest (sg s q) = Ieee.double.nearest (decide (sg s q < 0)) (sg s q).natAbs 0:=rfl
  rw [sg_abs] at hne
  obtain ⟨n,j,r1,r2⟩:=read_small hq (decide (sg s q < 0))
  rw [← hne] at r1
  unfold fcmp
  simp only
  rw [beq_eq_false_iff_ne,ord64 r1 hd.rd]
  intro he
  exact hx _ ((hd.nv _).1 (nv_of_eq2 r2 he))

end Go.Rex

namespace Go.Rex
/-! ### plain facts for shallow functions -/
theorem w64 {x : Int} (h : -9223372036854775808 ≤ x ∧ x ≤ 9223372036854775807) : IntKind.i64.wrap x = x:=IntWalk.i64_in x (by omega)
/-- a loop that counts -/
theorem run_count {σ ε : Type} {step : σ → Option (σ ⊕ ε)} (f : Nat → σ) {n : Nat} {e : ε} (h : ∀ k,k < n → step (f k) = some (.inl (f (k + 1)))) (hn : step (f n) = some (.inr e)) : run step (f 0) = some e:=by
  suffices H : ∀ j k,n - k = j → k ≤ n → run step (f k) = some e from H n 0 (by omega) (Nat.zero_le _)
  intro j
  induction j with
  | zero => intro k hj hk; obtain rfl : k = n := by omega
            exact run_stop hn
  | succ j ih=>intro k hj hk;rw [run_next (h k (by omega))];exact ih (k + 1) (by omega) (by omega)
theorem getI_nat {α : Type} {xs : List α} {k : Nat} : getI xs (k : Int) = xs[k]?:=by
  unfold getI
  rw [if_pos (by omega),Int.toNat_natCast]
end Go.Rex

namespace Go.Rex
/-! ### a loop that walks a list,gathers,and may end early -/
end Go.Rex

open Go Go.Rex
namespace Go.Rex
set_option maxRecDepth 100000
/-! ### loops,once more -/
theorem wsucc {k : Nat} {n : Nat} (h : k ≤ n) (hn : n ≤ 2 ^ 62) : IntKind.i64.wrap ((k : Int) + 1) = ((k + 1 : Nat) : Int):=by rw [w64 (by omega)];omega
/-- the first one that has an answer -/
def firstOf {ε : Type} (p : Nat → Option ε) (n : Nat) : Option ε:=(List.range n).findSome? p
theorem firstOf_none {ε : Type} {p : Nat → Option ε} {n : Nat} : firstOf p n = none ↔ ∀ k,k < n → p k = none:=by
  unfold firstOf
  rw [List.findSome?_eq_none_iff]
  constructor
  · intro h k hk;exact h k (List.mem_range.2 hk)
  · intro h k hk;exact h k (List.mem_range.1 hk)
theorem firstOf_succ {ε : Type} {p : Nat → Option ε} {n : Nat} : firstOf p (n + 1) = match firstOf p n with|some e=>some e|none=>p n:=by
  unfold firstOf
  rw [List.range_succ,List.findSome?_append]
  cases h : List.findSome? p (List.range n) with
  | some e=>rfl
  | none=>simp
theorem run_find {ε δ : Type} {step : Int → Option (Int ⊕ (ε ⊕ δ))} {n : Nat} {p : Nat → Option ε} {r : δ}
    (h : ∀ k : Nat,k < n → (∀ j,j < k → p j = none) → step (k : Int) = some (match p k with|none=>.inl ((k + 1 : Nat) : Int)|some e=>.inr (.inl e))) (he : (∀ j,j < n → p j = none) → step (n : Int) = some (.inr (.inr r))) : run step 0 = some (match firstOf p n with|some e=>.inl e|none=>.inr r):=by
  suffices H : ∀ m,m ≤ n → firstOf p m = none → run step 0 = run step (m : Int) by
    cases hf : firstOf p n with
    | none =>
      simp only
      rw [H n (Nat.le_refl _) hf]
      exact run_stop (he (firstOf_none.1 hf))
    | some e =>
      simp only
      have : ∃ m,m < n ∧ firstOf p m = none ∧ p m = some e:=by
        clear h he H
        induction n with
        | zero=>simp [firstOf] at hf
        | succ n ih =>
          rw [firstOf_succ] at hf
          cases hn : firstOf p n with
          | none=>rw [hn] at hf;exact ⟨n,by omega,hn,hf⟩
          | some e'=>rw [hn] at hf;cases hf;obtain ⟨m,h1,h2⟩:=ih hn;exact ⟨m,by omega,h2⟩
      obtain ⟨m,hm,h1,h2⟩:=this
      rw [H m (by omega) h1]
      have:=h m hm (firstOf_none.1 h1)
      rw [h2] at this
      exact run_stop this
  intro m
  induction m with
  | zero=>intro _ _;rfl
  | succ m ih =>
    intro hm hf
    have hf':=firstOf_none.1 hf
    rw [ih (by omega) (firstOf_none.2 fun k hk=>hf' k (by omega))]
    have:=h m (by omega) (fun j hj=>hf' j (by omega))
    rw [hf' m (by omega)] at this
    exact run_next this
def iter {β : Type} (g : Nat → β → β) : Nat → β → β
  | 0,b=>b
  | k + 1,b=>g k (iter g k b)
theorem run_iter {β σ ε : Type} {step : σ → Option (σ ⊕ ε)} (st : Nat → β → σ) (g : Nat → β → β) (fin : β → ε) (n : Nat) (Inv : Nat → β → Prop) {b0 : β} (h0 : Inv 0 b0)
    (hs : ∀ k b,k < n → Inv k b → step (st k b) = some (.inl (st (k + 1) (g k b))) ∧ Inv (k + 1) (g k b)) (he : ∀ b,Inv n b → step (st n b) = some (.inr (fin b))) :
    run step (st 0 b0) = some (fin (iter g n b0)) ∧ ∀ k,k ≤ n → Inv k (iter g k b0):=by
  have hI : ∀ k,k ≤ n → Inv k (iter g k b0):=by
    intro k
    induction k with
    | zero=>intro _;exact h0
    | succ k ih=>intro hk;exact (hs k _ (by omega) (ih (by omega))).2
  refine ⟨?_,hI⟩
  exact run_count (fun k=>st k (iter g k b0)) (fun k hk=>(hs k _ hk (hI k (by omega))).1) (he _ (hI n (Nat.le_refl _)))
/-! ### small things -/
/-! ### sums of lists -/
end Go.Rex

namespace Go.Rex
open Go Go.Rex
set_option maxRecDepth 100000
/-! ## a sample's error -/
theorem cutN {s : Bool} {m : Nat} {e x : Int} (h : MOk m e) (hx : NV s m e x) : Ieee.Toward.cut .zero s (m <<< e.toNat) (-e).toNat = x.natAbs:=by
  rcases h with ⟨h0,h1⟩|⟨hm,-,-,-⟩
  · subst h0 h1
    have e0 : sg s 0 = 0:=by cases s<;>rfl
    have hx0 : x = 0:=by
      rcases hx with ⟨_,hx⟩|⟨_,hx⟩
      · rw [e0,Int.zero_mul] at hx;exact hx.symm
      · rw [e0] at hx
        rcases Int.mul_eq_zero.1 hx.symm with h|h
        · exact h
        · exact absurd h (Int.ne_of_gt (Int.pow_pos (by decide)))
    rw [hx0,show (0 : Nat) <<< (-149 : Int).toNat = 0 by rw [shl];simp,cut_exact0]
    rfl
  · rcases hx with ⟨he,hx⟩|⟨he,hx⟩
    · rw [shl,show (-e).toNat = 0 by omega,cut_exact hm s (by omega)]
      have h3:=congrArg Int.natAbs hx
      rw [Int.natAbs_mul,sg_abs,Int.natAbs_pow] at h3
      rw [← h3]
      rfl
    · have hX : m = x.natAbs * 2 ^ (-e).toNat := by
        have:=congrArg Int.natAbs hx
        rw [sg_abs,Int.natAbs_mul,Int.natAbs_pow] at this
        exact this
      have hX0 : x.natAbs ≠ 0:=by
        intro h
        rw [h,Nat.zero_mul] at hX
        exact hm hX
      rw [show e.toNat = 0 by omega,shl,Nat.pow_zero,Nat.mul_one,hX,cut_exact hX0 s (Nat.le_refl _)]
      simp
/-! ## a sample -/
/-- the word b is the whole number x -/
def SV (b : Nat) (x : Int) : Prop:=∃ s m e,Ieee.single.read b = .number s m e ∧ MOk m e ∧ NV s m e x
/-- what the reference sees of a sample -/
structure RS (b : Nat) (o : Option Int) : Prop where
  val : ∃ v,f2f .f32 b .f64 = some v ∧ base_IsWhole v = some o.isSome ∧ ∀ x,o = some x → fcmp .gtr .f64 v 4674736138332667904 = decide (32767 < x) ∧ fcmp .lss .f64 v 13898108175187443712 = decide (x < -32767)
end Go.Rex

namespace Go.Rex
open Go Go.Rex
set_option maxRecDepth 100000
/-! ## samples that are computed -/
theorem norm32 {b : Nat} {s : Bool} {m : Nat} {e : Int} (h : Ieee.single.read b = .number s m e) : e ≤ 0 ∨ 2 ^ 23 ≤ m:=by
  unfold Ieee.Format.read at h
  simp only [sng.1,sng.2.1,sng.2.2] at h
  generalize b % Ieee.single.signWeight = r at h
  generalize (b / Ieee.single.signWeight % 2 == 1) = s' at h
  split at h
  · injection h with h1 h2 h3
    left;omega
  · split at h
    · injection h with h1 h2 h3
      right;omega
    · split at h<;>cases h
theorem mok_of {b : Nat} {s : Bool} {m : Nat} {e : Int} (h : Ieee.single.read b = .number s m e) : MOk m e:=by
  rcases smp_cases b with ⟨s',t,h1⟩|⟨s',h1⟩|⟨s',m',e',h1,h2⟩
  · rw [h] at h1;cases h1
  · rw [h] at h1;cases h1
  · rw [h] at h1
    injection h1 with a1 a2 a3
    subst a2 a3
    exact h2
theorem ws_of {b : Nat} {x : Int} (h : SV b x) (hx : x.natAbs < 2 ^ 24) : ∃ (s : Bool) (u : Nat),Ieee.single.read b = .number s (x.natAbs * 2 ^ u) (-(u : Int)) ∧ sg s x.natAbs = x:=by
  obtain ⟨s,m,e,h1,h2,h3⟩:=h
  have hp : ∀ k : Nat,(0 : Int) < 2 ^ k:=fun k=>Int.pow_pos (by decide)
  have key : ∀ u : Nat,e = -(u : Int) → sg s m = x * 2 ^ u → m = x.natAbs * 2 ^ u ∧ (m ≠ 0 → sg s x.natAbs = x):=by
    intro u he hm
    have h4 : m = x.natAbs * 2 ^ u:=by
      have:=congrArg Int.natAbs hm
      rw [sg_abs,Int.natAbs_mul,Int.natAbs_pow] at this
      exact this
    refine ⟨h4,fun hne=>?_⟩
    have h5 : sg s m = sg s x.natAbs * 2 ^ u:=by
      rw [h4,sg_mul,Int.natCast_pow]
      rfl
    rw [h5] at hm
    exact Int.eq_of_mul_eq_mul_right (Int.ne_of_gt (hp u)) hm
  rcases h3 with ⟨g1,g2⟩|⟨g1,g2⟩
  · by_cases he : e = 0
    · subst he
      obtain ⟨k1,k2⟩:=key 0 rfl (by simpa using g2)
      by_cases hm : m = 0
      · have hx0 : x = 0 := by
          rw [hm] at k1
          simp at k1
          omega
        refine ⟨s,0,?_,?_⟩
        · exact h1.trans (by rw [k1];rfl)
        · rw [hx0];cases s<;>rfl
      · exact ⟨s,0,h1.trans (by rw [← k1];rfl),k2 hm⟩
    · exfalso
      rcases norm32 h1 with q|q
      · omega
      · have h5:=congrArg Int.natAbs g2
        rw [Int.natAbs_mul,sg_abs,Int.natAbs_pow] at h5
        have h6 : 1 ≤ (2 : Nat) ^ e.toNat:=Nat.one_le_two_pow
        have h7 : (2 : Nat) ^ 1 ≤ 2 ^ e.toNat:=Nat.pow_le_pow_right (by decide) (by omega)
        have h8 : 2 ^ 23 * 2 ^ 1 ≤ m * Int.natAbs 2 ^ e.toNat:=Nat.mul_le_mul q h7
        rw [h5,← Nat.pow_add] at h8
        omega
  · obtain ⟨k1,k2⟩:=key (-e).toNat (by omega) g2
    by_cases hm : m = 0
    · have hx0 : x = 0 := by
        rw [hm] at k1
        have:=Nat.mul_eq_zero.1 k1.symm
        rcases this with h|h
        · omega
        · have : 0 < 2 ^ (-e).toNat:=Nat.two_pow_pos _
          omega
      refine ⟨s,(-e).toNat,?_,?_⟩
      · exact h1.trans (by rw [k1,show (-(((-e).toNat : Nat) : Int)) = e by omega])
      · rw [hx0];cases s<;>rfl
    · refine ⟨s,(-e).toNat,?_,k2 hm⟩
      exact h1.trans (by rw [← k1,show (-(((-e).toNat : Nat) : Int)) = e by omega])
theorem sv_word {b : Nat} {s : Bool} {n u : Nat} (h : Ieee.single.read b = .number s (n * 2 ^ u) (-(u : Int))) : SV b (sg s n):=by
  refine ⟨s,_,_,h,mok_of h,?_⟩
  by_cases hu : u = 0
  · subst hu
    left
    refine ⟨by omega,?_⟩
    simp
  · right
    refine ⟨by omega,?_⟩
    rw [sg_mul,Int.natCast_pow,show (-(-(u : Int))).toNat = u by omega]
    rfl
theorem sv_fz {s : Bool} {n : Nat} (h : ffit .f32 n) : SV (fz .f32 s n) (sg s n):=sv_word (read_fz (k:=.f32) h)
theorem sv_near {x : Int} (h : x.natAbs < 2 ^ 24) : SV (FloatKind.f32.nearest x) x:=by
  have h1:=sv_fz (s:=decide (x < 0)) (n:=x.natAbs) h
  have e : sg (decide (x < 0)) x.natAbs = x:=by
    unfold sg
    by_cases q : x < 0
    · simp only [q,decide_true,if_true];omega
    · simp only [q,decide_false,Bool.false_eq_true,if_false];omega
  rw [e] at h1
  exact h1
theorem add32 {a b : Nat} {x y : Int} (ha : SV a x) (hb : SV b y) (hx : x.natAbs < 2 ^ 24) (hy : y.natAbs < 2 ^ 24) (h : (x + y).natAbs < 2 ^ 24) : ∃ r,farith .add .f32 a b = some r ∧ SV r (x + y):=by
  obtain ⟨s,u,h1,h2⟩:=ws_of ha hx
  obtain ⟨t,v,h3,h4⟩:=ws_of hb hy
  refine ⟨_,far_of (r:=fz .f32 (if x + y = 0 then s && t else decide (x + y < 0)) (x + y).natAbs) ?_,?_⟩
  · have h1' : FloatKind.f32.format.read a = _:=h1
    have h3' : FloatKind.f32.format.read b = _:=h3
    simp only [farith0,Ieee.Format.add]
    rw [h1',h3',sum_number,Option.map_some,h2,h4,write_fz (k:=.f32) h rfl]
  · have:=sv_fz (s:=if x + y = 0 then s && t else decide (x + y < 0)) (n:=(x + y).natAbs) h
    have e : sg (if x + y = 0 then s && t else decide (x + y < 0)) (x + y).natAbs = x + y:=by
      by_cases q : x + y = 0
      · rw [q];simp [sg]
      · rw [if_neg q]
        unfold sg
        by_cases q2 : x + y < 0
        · simp only [q2,decide_true,if_true];omega
        · simp only [q2,decide_false,Bool.false_eq_true,if_false];omega
    rwa [e] at this
theorem sv_uniq {b : Nat} {x y : Int} (h : SV b x) (g : SV b y) : x = y:=by
  obtain ⟨s,m,e,h1,h2,h3⟩:=h
  obtain ⟨s',m',e',g1,g2,g3⟩:=g
  rw [h1] at g1
  injection g1 with a1 a2 a3
  subst a1 a2 a3
  rcases h3 with ⟨p,q⟩|⟨p,q⟩<;>rcases g3 with ⟨p',q'⟩|⟨p',q'⟩
  · omega
  · omega
  · omega
  · have hp : (0 : Int) < 2 ^ (-e).toNat:=Int.pow_pos (by decide)
    exact Int.eq_of_mul_eq_mul_right (Int.ne_of_gt hp) (q.symm.trans q')

end Go.Rex

namespace Go.Rex
open Go Go.Rex
set_option maxRecDepth 100000
/-! ## complex samples -/
theorem whole_is (b : Nat) : pulse_isWhole b = figure_isWhole b:=by
  unfold pulse_isWhole figure_isWhole
  rfl
theorem f2i_big {b : Nat} {x : Int} (h : SV b x) (hb : -4611686018427387904 ≤ x ∧ x ≤ 4611686018427387904) : f2i .f32 b .i64 = some x:=by
  obtain ⟨s,m,e,hr,h,hx⟩:=h
  unfold f2i
  have e1 : FloatKind.f32.decode b = .number s m e:=hr
  rw [e1]
  have e2 : (Ieee.Datum.number s m e).toInt .zero = some x:=by
    unfold Ieee.Datum.toInt Ieee.Datum.integral
    simp only [cutN h hx,signed_eq,Int.pow_zero,Int.mul_one,sg_of_nat hx]
  rw [e2]
  simp only
  have hm : IntKind.i64.min = -9223372036854775808 ∧ IntKind.i64.max = 9223372036854775807:=by decide
  rw [hm.1,hm.2,if_pos (by omega)]
theorem read_b : Ieee.single.read 1266679808 = .number false 8388608 1 ∧ Ieee.single.read 3414163456 = .number true 8388608 1 ∧ Op.negFloat .f32 1266679808 = 3414163456 ∧ Ieee.double.read 4715268809856909312 = .number false 4503599627370496 (-28) ∧ Ieee.double.read 13938640846711685120 = .number true 4503599627370496 (-28):=by decide +kernel
theorem nv_b : NV false 8388608 1 16777216 ∧ NV true 8388608 1 (-16777216) ∧ NV false 4503599627370496 (-28) 16777216 ∧ NV true 4503599627370496 (-28) (-16777216) :=
  ⟨.inl ⟨by decide,by decide⟩,.inl ⟨by decide,by decide⟩,.inr ⟨by decide,by decide⟩,.inr ⟨by decide,by decide⟩⟩
theorem small_sv {b : Nat} {x : Int} (h : SV b x) : pulse_isSmall_float32 b 1266679808 = some (decide (-16777216 ≤ x ∧ x ≤ 16777216)):=by
  obtain ⟨s,m,e,h1,h2,h3⟩:=h
  unfold pulse_isSmall_float32
  rw [read_b.2.2.1]
  have g1 : fcmp .leq .f32 3414163456 b = decide (-16777216 ≤ x):=by
    unfold fcmp
    simp only
    rw [ord32 read_b.2.1 h1,nv_order nv_b.2.1 h3]
    exact cmpI.2.1
  have g2 : fcmp .leq .f32 b 1266679808 = decide (x ≤ 16777216):=by
    unfold fcmp
    simp only
    rw [ord32 h1 read_b.1,nv_order h3 nv_b.1]
    exact cmpI.2.1
  rw [g1,g2]
  by_cases c : -16777216 ≤ x
  · rw [if_pos (decide_eq_true c)]
    congr 1
    rw [decide_eq_decide]
    omega
  · rw [if_neg (by simpa using c)]
    congr 1
    symm
    rw [decide_eq_false_iff_not]
    omega
theorem small_tot (b c : Nat) : ∃ r,pulse_isSmall_float32 b c = some r:=by
  unfold pulse_isSmall_float32
  split<;>exact ⟨_,rfl⟩
/-- what the reference sees of a word -/
structure RW (b : Nat) (o : Option Int) : Prop where
  ws : pulse_isWhole b = some o.isSome
  val : ∃ v,f2f .f32 b .f64 = some v ∧ base_IsWhole v = some o.isSome ∧ ∀ x,o = some x → fcmp .gtr .f64 v 4715268809856909312 = decide (16777216 < x) ∧ fcmp .lss .f64 v 13938640846711685120 = decide (x < -16777216)
theorem word_cases (b : Nat) : RW b none ∨ ∃ x,SV b x ∧ RW b (some x):=by
  rcases smp_cases b with ⟨s,t,h⟩|⟨s,h⟩|⟨s,m,e,h,hm⟩
  · obtain ⟨h1,h2⟩:=prog_nan h
    exact .inl ⟨(whole_is b).trans h1,⟨_,h2,by decide +kernel,fun x hx=>by cases hx⟩⟩
  · obtain ⟨h1,h2⟩:=prog_inf h
    exact .inl ⟨(whole_is b).trans h1,⟨_,h2,by cases s<;>decide +kernel,fun x hx=>by cases hx⟩⟩
  · obtain ⟨M,E,hd⟩:=dbl_of (s:=s) hm
    by_cases hx : ∃ x,NV s m e x
    · obtain ⟨x,hx⟩:=hx
      refine .inr ⟨x,⟨s,m,e,h,hm,hx⟩,(whole_is b).trans (prog_whole h hm hx),⟨_,f2f_num h hm,ref_whole hm hd hx,fun y hy=>?_⟩⟩
      cases hy
      have hX:=(hd.nv x).2 hx
      constructor
      · unfold fcmp
        simp only
        rw [ord64 hd.rd read_b.2.2.2.1,nv_order hX nv_b.2.2.1]
        exact cmpI.2.2.2.1
      · unfold fcmp
        simp only
        rw [ord64 hd.rd read_b.2.2.2.2,nv_order hX nv_b.2.2.2]
        exact cmpI.2.2.1
    · have hx : ∀ x,¬ NV s m e x:=fun x h=>hx ⟨x,h⟩
      exact .inl ⟨(whole_is b).trans (prog_part h hm hx),⟨_,f2f_num h hm,ref_part hm hd hx,fun x hx=>by cases hx⟩⟩
open Classical in
/-- the whole number of a word -/
noncomputable def wv (b : Nat) : Option Int:=if h : ∃ x,SV b x then some (Classical.choose h) else none
theorem wv_of {b : Nat} {x : Int} (h : SV b x) : wv b = some x:=by
  have hx : ∃ x,SV b x:=⟨x,h⟩
  unfold wv
  rw [dif_pos hx,sv_uniq (Classical.choose_spec hx) h]
theorem wv_sv {b : Nat} {x : Int} (h : wv b = some x) : SV b x:=by
  unfold wv at h
  split at h
  · rename_i hx
    obtain rfl:=Option.some.inj h
    exact Classical.choose_spec hx
  · cases h
theorem rw_wv {b : Nat} : RW b (wv b):=by
  rcases word_cases b with h|⟨x,h1,h2⟩
  · have : wv b = none := by
      cases hw : wv b with
      | none=>rfl
      | some x =>
        have sv:=wv_sv hw
        obtain ⟨s,m,e,g1,g2,g3⟩:=sv
        have:=(whole_is b).trans (prog_whole g1 g2 g3)
        rw [h.ws] at this
        exact absurd (Option.some.inj this) (by decide)
    rw [this];exact h
  · rw [wv_of h1];exact h2
def sm24 (x : Int) : Bool:=decide (-16777216 ≤ x ∧ x ≤ 16777216)
/-- the error of a complex sample -/
noncomputable def cE (p : Nat × Nat) : Int:=match wv p.1,wv p.2 with
  | some x,some y=>if sm24 x = true ∧ sm24 y = true then 0 else 2
  | _,_=>27
theorem fe9 (a : Bool) (x : Int) (b : Bool) (y : Int) (hx : x ≠ 0) : pulse_firstError_9abe a x b y = some (if a = true then x else if b = true then y else 0):=by
  unfold pulse_firstError_9abe pulse_refuse_c1_11f9
  cases a
  · cases b
    · rfl
    · by_cases hy : y = 0<;>simp [hy]
  · simp [hx]
theorem errorOf_eq (a b : Nat) : pulse_errorOf a b = some (cE (a,b)):=by
  have ra:=rw_wv (b:=a)
  have rb:=rw_wv (b:=b)
  obtain ⟨sa,hsa⟩:=small_tot a 1266679808
  obtain ⟨sb,hsb⟩:=small_tot b 1266679808
  unfold pulse_errorOf cE pulse_refuse
  rw [ra.ws,rb.ws,hsa,hsb]
  simp only [Option.bind_some]
  cases ha : wv a with
  | none =>
    simp only [Option.isSome_none,Bool.false_eq_true,if_false]
    cases sa<;>simp only [Bool.false_eq_true,if_false,if_true]<;>rw [fe9 _ _ _ _ (by decide)]<;>rfl
  | some x =>
    have h1:=small_sv (wv_sv ha)
    rw [hsa] at h1
    have h1:=Option.some.inj h1
    cases hb : wv b with
    | none =>
      simp only [Option.isSome_none,Option.isSome_some,Bool.false_eq_true,if_false,if_true,Bool.not_false]
      cases sa<;>simp only [Bool.false_eq_true,if_false,if_true]<;>rw [fe9 _ _ _ _ (by decide)]<;>rfl
    | some y =>
      have h2:=small_sv (wv_sv hb)
      rw [hsb] at h2
      have h2:=Option.some.inj h2
      simp only [Option.isSome_some,if_true,Bool.not_true]
      rw [h1,h2]
      unfold sm24
      by_cases c1 : -16777216 ≤ x ∧ x ≤ 16777216<;>by_cases c2 : -16777216 ≤ y ∧ y ≤ 16777216
      · rw [decide_eq_true c1,decide_eq_true c2,if_pos rfl,fe9 _ _ _ _ (by decide)];rfl
      · rw [decide_eq_true c1,decide_eq_false c2,if_pos rfl,fe9 _ _ _ _ (by decide)];rfl
      · rw [decide_eq_false c1,decide_eq_true c2,if_neg (by decide),fe9 _ _ _ _ (by decide)];rfl
      · rw [decide_eq_false c1,decide_eq_false c2,if_neg (by decide),fe9 _ _ _ _ (by decide)];rfl
noncomputable def cEAt (l : List (Nat × Nat)) (k : Nat) : Option Int:=match l[k]? with
  | some p=>if cE p = 0 then none else some (cE p)
  | none=>none
noncomputable def lE (l : List (Nat × Nat)) : Int:=if l.length = 0 then 10 else if 1024 < l.length then 8 else (firstOf (cEAt l) l.length).getD 0
theorem each_run (l : List (Nat × Nat)) (hl : l.length ≤ 1024) : run (pulse_each_c1_b362_l1 (l.length : Int) l) 0 = some (match firstOf (cEAt l) l.length with|some e=>.inl e|none=>.inr ()):=by
  have H : ∀ k : Nat,k < l.length → pulse_each_c1_b362_l1 (l.length : Int) l (k : Int) = some (match cEAt l k with|none=>.inl ((k + 1 : Nat) : Int)|some e=>.inr (.inl e)):=by
    intro k hk
    have hg : l[k]? = some l[k]:=List.getElem?_eq_getElem hk
    unfold pulse_each_c1_b362_l1 pulse_listed_c1_c1_06f5 cEAt
    rw [if_pos (by rw [decide_eq_true_eq];omega),getI_nat,hg]
    simp only [Option.bind_some]
    rw [errorOf_eq]
    simp only [Option.bind_some]
    by_cases h : cE (l[k].1,l[k].2) = 0
    · have h' : cE l[k] = 0:=h
      rw [if_neg (by simpa using h),if_pos h',wsucc (n:=1024) (by omega) (by decide)]
    · have h' : cE l[k] ≠ 0:=h
      rw [if_pos (by simpa using h),if_neg h']
  have h:=run_find (step:=pulse_each_c1_b362_l1 (l.length : Int) l) (p:=cEAt l) (n:=l.length) (r:=()) (fun k hk hb=>by
    have h1:=H k hk
    cases hs : cEAt l k<;>rw [hs] at h1<;>exact h1) (fun _=>by
    unfold pulse_each_c1_b362_l1
    rw [if_neg (by rw [decide_eq_true_eq];omega)])
  rw [h]
  cases firstOf (cEAt l) l.length<;>rfl
theorem firstOf_ne {l : List (Nat × Nat)} {n : Nat} {e : Int} (h : firstOf (cEAt l) n = some e) : e ≠ 0:=by
  unfold firstOf at h
  obtain ⟨k,_,hk⟩:=List.exists_of_findSome?_eq_some h
  unfold cEAt at hk
  split at hk
  · split at hk
    · cases hk
    · rename_i hz
      have:=Option.some.inj hk
      rw [← this];exact hz
  · cases hk
theorem listed_eq (l : List (Nat × Nat)) : pulse_listed_c1_f1d2 l = some (lE l):=by
  unfold pulse_listed_c1_f1d2 pulse_refuse pulse_each_e848 pulse_firstError_046d pulse_refuse_c1_11f9 lE
  simp only [Option.bind_some]
  by_cases h0 : l.length = 0
  · rw [if_pos h0]
    have e : decide ((l.length : Int) = 0) = true:=by rw [decide_eq_true_eq];omega
    rw [e];rfl
  · rw [if_neg h0]
    have e : decide ((l.length : Int) = 0) = false:=by rw [decide_eq_false_iff_not];omega
    rw [e]
    by_cases h1 : 1024 < l.length
    · rw [if_pos h1]
      have e : decide ((l.length : Int) > 1024) = true:=by rw [decide_eq_true_eq];omega
      rw [e];rfl
    · rw [if_neg h1]
      have e : decide ((l.length : Int) > 1024) = false:=by rw [decide_eq_false_iff_not];omega
      rw [e]
      simp only [Bool.false_eq_true,if_false,Option.bind_some,ne_eq,not_true_eq_false,decide_false]
      unfold pulse_each_c1_b362
      rw [each_run l (by omega)]
      cases hf : firstOf (cEAt l) l.length with
      | none=>rfl
      | some e =>
        have:=firstOf_ne hf
        simp [this]
end Go.Rex

namespace Go.Rex
open Go Go.Rex
set_option maxRecDepth 100000
/-! ## lists of complex samples -/
noncomputable def num (p : Nat × Nat) : Int × Int:=((wv p.1).getD 0,(wv p.2).getD 0)
noncomputable def nums (l : List (Nat × Nat)) : List (Int × Int):=l.map num
def small (z : Int × Int) : Prop:=(-16777216 ≤ z.1 ∧ z.1 ≤ 16777216) ∧ (-16777216 ≤ z.2 ∧ z.2 ≤ 16777216)
instance (z : Int × Int) : Decidable (small z):=by unfold small;exact inferInstance
/-- the words of a complex number -/
def PV (p : Nat × Nat) (z : Int × Int) : Prop:=SV p.1 z.1 ∧ SV p.2 z.2
structure GoodL (l : List (Nat × Nat)) : Prop where
  len : 0 < l.length ∧ l.length ≤ 1024
  val : ∀ p ∈ l,PV p (num p) ∧ small (num p)
theorem cE_zero {p : Nat × Nat} (h : cE p = 0) : PV p (num p) ∧ small (num p):=by
  unfold cE at h
  unfold num PV small
  cases ha : wv p.1 with
  | none=>rw [ha] at h;exact absurd h (by simp)
  | some x =>
    cases hb : wv p.2 with
    | none=>rw [ha,hb] at h;exact absurd h (by simp)
    | some y =>
      rw [ha,hb] at h
      simp only at h
      split at h
      · rename_i hc
        unfold sm24 at hc
        simp only [decide_eq_true_eq] at hc
        exact ⟨⟨wv_sv ha,wv_sv hb⟩,hc⟩
      · exact absurd h (by decide)
theorem good_of {l : List (Nat × Nat)} (h : lE l = 0) : GoodL l:=by
  unfold lE at h
  by_cases h0 : l.length = 0
  · rw [if_pos h0] at h;exact absurd h (by decide)
  rw [if_neg h0] at h
  by_cases h1 : 1024 < l.length
  · rw [if_pos h1] at h;exact absurd h (by decide)
  rw [if_neg h1] at h
  refine ⟨⟨by omega,by omega⟩,fun p hp=>?_⟩
  cases hf : firstOf (cEAt l) l.length with
  | some e=>rw [hf] at h;exact absurd h (firstOf_ne hf)
  | none =>
    obtain ⟨k,hk⟩:=List.mem_iff_getElem?.1 hp
    have hkl:=(List.getElem?_eq_some_iff.1 hk).1
    have:=firstOf_none.1 hf k hkl
    unfold cEAt at this
    rw [hk] at this
    simp only at this
    split at this
    · rename_i hz;exact cE_zero hz
    · cases this
theorem nums_len (l : List (Nat × Nat)) : (nums l).length = l.length:=by unfold nums;simp
theorem nums_at {l : List (Nat × Nat)} {k : Nat} (hk : k < l.length) : (nums l)[k]? = some (num l[k]):=by
  unfold nums
  rw [List.getElem?_map,List.getElem?_eq_getElem hk]
  rfl
theorem f2i_small {b : Nat} {x : Int} (h : SV b x) (hb : -16777216 ≤ x ∧ x ≤ 16777216) : f2i .f32 b .i64 = some x:=f2i_big h (by omega)
theorem prog_nums {l : List (Nat × Nat)} (G : GoodL l) : pulse_numbersOf l = some (nums l):=by
  have hle:=G.len
  have key:=run_iter (step:=pulse_numbersOf_l1 l) (st:=fun k (b : List (Int × Int))=>(b,(k : Int))) (g:=fun k b=>b ++ [num (l.getD k (0,0))]) (fin:=fun b=>b) l.length
    (fun k b=>b = (nums l).take k) (b0:=[]) (by simp) (fun k b hk hb=>by
      subst hb
      have hg : l[k]? = some l[k]:=List.getElem?_eq_getElem hk
      have hd : l.getD k (0,0) = l[k]:=by rw [List.getD_eq_getElem?_getD,hg];rfl
      have hv:=G.val l[k] (List.getElem_mem hk)
      rw [hd]
      refine ⟨?_,by rw [List.take_add_one,nums_at hk];rfl⟩
      unfold pulse_numbersOf_l1 pulse_numberOf
      simp only
      rw [if_pos (by rw [decide_eq_true_eq];omega),getI_nat,hg]
      simp only [Option.bind_some]
      rw [f2i_small hv.1.1 hv.2.1,f2i_small hv.1.2 hv.2.2]
      simp only [Option.bind_some,appI]
      rw [if_pos (by simp;omega),wsucc (n:=1024) (by omega) (by decide)]
      rfl) (fun b hb=>by
      unfold pulse_numbersOf_l1
      simp only
      rw [if_neg (by rw [decide_eq_true_eq];omega)])
  have hI:=key.2 l.length (Nat.le_refl _)
  have hr:=key.1
  rw [hI,List.take_of_length_le (by rw [nums_len];omega)] at hr
  unfold pulse_numbersOf
  simp only [Int.natCast_zero] at hr
  rw [hr]
  rfl
noncomputable def nearP (z : Int × Int) : Nat × Nat:=(FloatKind.f32.nearest z.1,FloatKind.f32.nearest z.2)
theorem sv_near24 {x : Int} (h : -16777216 ≤ x ∧ x ≤ 16777216) : SV (FloatKind.f32.nearest x) x:=by
  by_cases h1 : x = 16777216
  · subst h1
    have e : FloatKind.f32.nearest 16777216 = 1266679808:=by decide +kernel
    rw [e]
    exact ⟨_,_,_,read_b.1,mok_of read_b.1,nv_b.1⟩
  by_cases h2 : x = -16777216
  · subst h2
    have e : FloatKind.f32.nearest (-16777216) = 3414163456:=by decide +kernel
    rw [e]
    exact ⟨_,_,_,read_b.2.1,mok_of read_b.2.1,nv_b.2.1⟩
  have h24 : (16777216 : Nat) = 2 ^ 24:=by decide
  exact sv_near (by rw [← h24];omega)
theorem pv_near {z : Int × Int} (h : small z) : PV (nearP z) z:=⟨sv_near24 h.1,sv_near24 h.2⟩
theorem num_pv {p : Nat × Nat} {z : Int × Int} (h : PV p z) : num p = z:=by
  unfold num
  rw [wv_of h.1,wv_of h.2]
  rfl
theorem num_near {z : Int × Int} (h : small z) : num (nearP z) = z:=num_pv (pv_near h)
theorem isSmall_eq (x : Int) : pulse_isSmall_int x 16777216 = some (decide (-16777216 ≤ x ∧ x ≤ 16777216)):=by
  unfold pulse_isSmall_int
  rw [w64 (x:=0 - 16777216) (by omega)]
  by_cases c : -16777216 ≤ x
  · rw [if_pos (by rw [decide_eq_true_eq];omega)]
    congr 1
    rw [decide_eq_decide]
    omega
  · rw [if_neg (by rw [decide_eq_true_eq];omega)]
    congr 1
    symm
    rw [decide_eq_false_iff_not]
    omega
theorem smallE_eq (z : Int × Int) : (pulse_number_small z.1 z.2 16777216).bind (fun (v6,v7)=>(pulse_refuse_c1_11f9 v6 v7).bind fun v8=>some v8) = some (if small z then 0 else 8):=by
  unfold pulse_number_small pulse_refuse pulse_refuse_c1_11f9 small
  rw [isSmall_eq,isSmall_eq]
  simp only [Option.bind_some]
  by_cases c1 : -16777216 ≤ z.1 ∧ z.1 ≤ 16777216<;>by_cases c2 : -16777216 ≤ z.2 ∧ z.2 ≤ 16777216<;>simp [c1,c2]
def bigAt (w : List (Int × Int)) (k : Nat) : Option Int:=match w[k]? with
  | some z=>if small z then none else some 8
  | none=>none
/-- numbers as samples, if they are small -/
noncomputable def rec (w : List (Int × Int)) : List (Nat × Nat) × Int:=if ∀ z ∈ w,small z then (w.map nearP,0) else ([],8)
theorem big_none {w : List (Int × Int)} : firstOf (bigAt w) w.length = none ↔ ∀ z ∈ w,small z:=by
  rw [firstOf_none]
  constructor
  · intro h z hz
    obtain ⟨k,hk⟩:=List.mem_iff_getElem?.1 hz
    have:=h k (List.getElem?_eq_some_iff.1 hk).1
    unfold bigAt at this
    rw [hk] at this
    simp only at this
    split at this
    · assumption
    · cases this
  · intro h k hk
    unfold bigAt
    rw [List.getElem?_eq_getElem hk]
    simp only
    rw [if_pos (h _ (List.getElem_mem hk))]
theorem big_some {w : List (Int × Int)} {n : Nat} {e : Int} (h : firstOf (bigAt w) n = some e) : e = 8:=by
  unfold firstOf at h
  obtain ⟨k,_,hk⟩:=List.exists_of_findSome?_eq_some h
  unfold bigAt at hk
  split at hk
  · split at hk
    · cases hk
    · exact (Option.some.inj hk).symm
  · cases hk
theorem near_run (w : List (Int × Int)) (hw : w.length ≤ 4096) : run (pulse_recorded_l1 w) (([] : List (Nat × Nat)),0) = some (w.map nearP):=by
  have key:=run_iter (step:=pulse_recorded_l1 w) (st:=fun k (b : List (Nat × Nat))=>(b,(k : Int))) (g:=fun k b=>b ++ [nearP (w.getD k (0,0))]) (fin:=fun b=>b) w.length
    (fun k b=>b = (w.map nearP).take k) (b0:=[]) (by simp) (fun k b hk hb=>by
      subst hb
      have hg : w[k]? = some w[k]:=List.getElem?_eq_getElem hk
      have hd : w.getD k (0,0) = w[k]:=by rw [List.getD_eq_getElem?_getD,hg];rfl
      rw [hd]
      refine ⟨?_,by rw [List.take_add_one,List.getElem?_map,hg];rfl⟩
      unfold pulse_recorded_l1
      simp only
      rw [if_pos (by rw [decide_eq_true_eq];omega),getI_nat,hg]
      simp only [Option.bind_some,appI]
      rw [if_pos (by simp;omega),wsucc (n:=4096) (by omega) (by decide)]
      rfl) (fun b hb=>by
      unfold pulse_recorded_l1
      simp only
      rw [if_neg (by rw [decide_eq_true_eq];omega)])
  have hI:=key.2 w.length (Nat.le_refl _)
  have hr:=key.1
  rw [hI,List.take_of_length_le (by simp)] at hr
  simp only [Int.natCast_zero] at hr
  exact hr
theorem prog_rec (w : List (Int × Int)) (hw : w.length ≤ 4096) : pulse_recorded w = some (rec w):=by
  have H : ∀ k : Nat,k < w.length → pulse_each_c1_82ab_l1 (w.length : Int) w (k : Int) = some (match bigAt w k with|none=>.inl ((k + 1 : Nat) : Int)|some e=>.inr (.inl e)):=by
    intro k hk
    have hg : w[k]? = some w[k]:=List.getElem?_eq_getElem hk
    unfold pulse_each_c1_82ab_l1 pulse_recorded_c1_cff2 bigAt
    rw [if_pos (by rw [decide_eq_true_eq];omega),getI_nat,hg]
    simp only [Option.bind_some]
    have:=smallE_eq w[k]
    rw [this]
    simp only [Option.bind_some]
    by_cases h : small w[k]
    · rw [if_pos h,if_pos h,if_neg (by decide),wsucc (n:=4096) (by omega) (by decide)]
    · rw [if_neg h,if_neg h,if_pos (by decide)]
  have h:=run_find (step:=pulse_each_c1_82ab_l1 (w.length : Int) w) (p:=bigAt w) (n:=w.length) (r:=()) (fun k hk hb=>by
    have h1:=H k hk
    cases hs : bigAt w k<;>rw [hs] at h1<;>exact h1) (fun _=>by
    unfold pulse_each_c1_82ab_l1
    rw [if_neg (by rw [decide_eq_true_eq];omega)])
  unfold pulse_recorded pulse_each_3571 pulse_each_c1_82ab rec
  simp only [Option.bind_some]
  rw [h]
  cases hf : firstOf (bigAt w) w.length with
  | none =>
    rw [if_pos (big_none.1 hf)]
    simp only [Option.bind_some]
    rw [if_neg (by decide),near_run w hw]
    rfl
  | some e =>
    obtain rfl:=big_some hf
    rw [if_neg (fun h=>by rw [big_none.2 h] at hf;cases hf)]
    rfl
/-! copies and comparisons -/
theorem sv_f2f {b : Nat} {x : Int} (h : SV b x) : ∃ v,f2f .f32 b .f64 = some v ∧ fbits .f64 v = some ((v : Nat) : Int):=by
  obtain ⟨s,m,e,h1,h2,h3⟩:=h
  obtain ⟨M,E,hd⟩:=dbl_of (s:=s) h2
  refine ⟨_,f2f_num h1 h2,?_⟩
  have hn:=num_notnan (k:=.f64) hd.rd
  unfold fbits
  rw [if_neg (by rw [hn];decide)]
theorem same_refl (l : List (Nat × Nat)) (hl : l.length ≤ 4096) (h : ∀ p ∈ l,∃ z,PV p z) : base_SameSamples l l = some true:=by
  unfold base_SameSamples
  rw [if_neg (by simp)]
  have : run (base_SameSamples_l1 l l) 0 = some (.inr ()):=by
    refine run_count (fun k=>(k : Int)) (n:=l.length) (fun k hk=>?_) ?_
    · obtain ⟨z,z1,z2⟩:=h l[k] (List.getElem_mem hk)
      obtain ⟨a,a1,a2⟩:=sv_f2f z1
      obtain ⟨b,b1,b2⟩:=sv_f2f z2
      unfold base_SameSamples_l1 base_SameBits
      rw [if_pos (by rw [decide_eq_true_eq];omega),getI_nat,List.getElem?_eq_getElem hk]
      simp only [Option.bind_some,a1,b1,a2,b2,decide_true,if_true]
      rw [wsucc (n:=4096) (by omega) (by decide)]
    · unfold base_SameSamples_l1
      rw [if_neg (by rw [decide_eq_true_eq];omega)]
  rw [this]
  rfl
end Go.Rex

namespace Go.Rex
open Go Go.Rex
set_option maxRecDepth 100000
/-! ## complex whole numbers -/
def zmul (a b : Int × Int) : Int × Int:=(a.1 * b.1 - a.2 * b.2,a.1 * b.2 + a.2 * b.1)
def zadd (a b : Int × Int) : Int × Int:=(a.1 + b.1,a.2 + b.2)
def zsub (a b : Int × Int) : Int × Int:=(a.1 - b.1,a.2 - b.2)
def zsum (f : Nat → Int × Int) : Nat → Int × Int
  | 0=>(0,0)
  | n + 1=>zadd (zsum f n) (f n)
def zle (B : Int) (z : Int × Int) : Prop:=(-B ≤ z.1 ∧ z.1 ≤ B) ∧ (-B ≤ z.2 ∧ z.2 ≤ B)
theorem zs_bd {f : Nat → Int × Int} {B : Int} : ∀ {n : Nat},(∀ k,k < n → zle B (f k)) → zle (n * B) (zsum f n)
  | 0,_=>by simp [zsum,zle]
  | n + 1,h=>by
    have ih:=zs_bd (f:=f) (n:=n) (fun k hk=>h k (by omega))
    have h1:=h n (by omega)
    unfold zle at *
    simp only [zsum,zadd]
    have e : ((n + 1 : Nat) : Int) * B = n * B + B:=by rw [Int.natCast_add,Int.add_mul];simp
    rw [e]
    omega
theorem zs_congr {f g : Nat → Int × Int} : ∀ {n : Nat},(∀ k,k < n → f k = g k) → zsum f n = zsum g n
  | 0,_=>rfl
  | n + 1,h=>by
    simp only [zsum]
    rw [zs_congr (fun k hk=>h k (by omega)),h n (by omega)]
theorem part_bd {x y : Int} (hx : -16777216 ≤ x ∧ x ≤ 16777216) (hy : -16777216 ≤ y ∧ y ≤ 16777216) : -281474976710656 ≤ x * y ∧ x * y ≤ 281474976710656:=by
  have h1 : (x * y).natAbs = x.natAbs * y.natAbs:=Int.natAbs_mul x y
  have h2 : x.natAbs * y.natAbs ≤ 16777216 * 16777216:=Nat.mul_le_mul (by omega) (by omega)
  omega
theorem zmul_bd {a b : Int × Int} (ha : small a) (hb : small b) : zle 562949953421312 (zmul a b):=by
  have h1:=part_bd ha.1 hb.1
  have h2:=part_bd ha.2 hb.2
  have h3:=part_bd ha.1 hb.2
  have h4:=part_bd ha.2 hb.1
  unfold zle zmul
  simp only
  omega
theorem times_eq {a b : Int × Int} (ha : small a) (hb : small b) : pulse_number_times a.1 a.2 b.1 b.2 = some (zmul a b) ∧ ref04_times a.1 a.2 b.1 b.2 = some (zmul a b):=by
  have h1:=part_bd ha.1 hb.1
  have h2:=part_bd ha.2 hb.2
  have h3:=part_bd ha.1 hb.2
  have h4:=part_bd ha.2 hb.1
  unfold pulse_number_times ref04_times zmul
  rw [w64 (x:=a.1 * b.1) (by omega),w64 (x:=a.2 * b.2) (by omega),w64 (x:=a.1 * b.2) (by omega),w64 (x:=a.2 * b.1) (by omega),w64 (by omega),w64 (by omega)]
  exact ⟨rfl,rfl⟩
/-! ## what a sweep gives -/
def at0 (w : List (Int × Int)) (k : Nat) : Int × Int:=w.getD k (0,0)
theorem at0_get {w : List (Int × Int)} {k : Nat} (hk : k < w.length) : w[k]? = some (at0 w k):=by
  unfold at0
  rw [List.getD_eq_getElem?_getD,List.getElem?_eq_getElem hk]
  rfl
theorem at0_small {w : List (Int × Int)} (h : ∀ z ∈ w,small z) (k : Nat) : small (at0 w k):=by
  unfold at0
  by_cases hk : k < w.length
  · rw [List.getD_eq_getElem?_getD,List.getElem?_eq_getElem hk]
    exact h _ (List.getElem_mem hk)
  · rw [List.getD_eq_getElem?_getD,List.getElem?_eq_none (by omega)]
    unfold small
    simp
def cvT (a b : List (Int × Int)) (k i : Nat) : Int × Int:=if i ≤ k ∧ k - i < b.length then zmul (at0 a i) (at0 b (k - i)) else (0,0)
/-- the sum of products, up to a number of the first list -/
def cvS (a b : List (Int × Int)) (i k : Nat) : Int × Int:=zsum (cvT a b k) i
def cvI (a b : List (Int × Int)) (i j k : Nat) : Int × Int:=if i ≤ k ∧ k - i < j then zadd (cvS a b i k) (zmul (at0 a i) (at0 b (k - i))) else cvS a b i k
def cvL (a b : List (Int × Int)) (i j : Nat) : List (Int × Int):=(List.range (a.length + b.length - 1)).map (cvI a b i j)
section
variable {a b : List (Int × Int)}
theorem cvT_bd (ha : ∀ z ∈ a,small z) (hb : ∀ z ∈ b,small z) (k i : Nat) : zle 562949953421312 (cvT a b k i):=by
  unfold cvT
  split
  · exact zmul_bd (at0_small ha i) (at0_small hb _)
  · unfold zle;simp
theorem cvS_bd (ha : ∀ z ∈ a,small z) (hb : ∀ z ∈ b,small z) {i : Nat} (k : Nat) (hi : i ≤ 1024) : zle 576460752303423488 (cvS a b i k):=by
  have h:=zs_bd (f:=cvT a b k) (B:=562949953421312) (n:=i) (fun j _=>cvT_bd ha hb k j)
  have h2 : (i : Int) * 562949953421312 ≤ 1024 * 562949953421312:=Int.mul_le_mul_of_nonneg_right (by omega) (by decide)
  unfold cvS
  unfold zle at *
  omega
theorem cvL_len (i j : Nat) : (cvL a b i j).length = a.length + b.length - 1:=by unfold cvL;simp
theorem cvL_at (i j : Nat) {k : Nat} (hk : k < a.length + b.length - 1) : (cvL a b i j)[k]? = some (cvI a b i j k):=by
  unfold cvL
  rw [List.getElem?_map,List.getElem?_range hk]
  rfl
theorem cvL_step (i j : Nat) (hj : j < b.length) : (cvL a b i j).set (i + j) (zadd (cvS a b i (i + j)) (zmul (at0 a i) (at0 b j))) = cvL a b i (j + 1):=by
  apply List.ext_getElem?
  intro k
  rw [List.getElem?_set,cvL_len]
  by_cases hk : k < a.length + b.length - 1
  · rw [cvL_at i (j + 1) hk]
    by_cases q : i + j = k
    · subst q
      rw [if_pos rfl,if_pos hk]
      unfold cvI
      rw [if_pos (by omega),Nat.add_sub_cancel_left]
    · rw [if_neg q,cvL_at i j hk]
      unfold cvI
      by_cases c : i ≤ k ∧ k - i < j
      · rw [if_pos c,if_pos (by omega)]
      · rw [if_neg c,if_neg (by omega)]
  · have hn : ∀ j,(cvL a b i j)[k]? = none:=fun j=>List.getElem?_eq_none (by rw [cvL_len];omega)
    rw [hn,hn]
    by_cases q : i + j = k
    · rw [if_pos q,if_neg (by omega)]
    · rw [if_neg q]
theorem cvL_next (i : Nat) : cvL a b i b.length = cvL a b (i + 1) 0:=by
  unfold cvL
  apply List.map_congr_left
  intro k _
  have e : cvS a b (i + 1) k = zadd (cvS a b i k) (cvT a b k i):=rfl
  unfold cvI
  rw [if_neg (show ¬ (i + 1 ≤ k ∧ k - (i + 1) < 0) by omega),e]
  unfold cvT
  by_cases c : i ≤ k ∧ k - i < b.length
  · rw [if_pos c,if_pos c]
  · rw [if_neg c,if_neg c]
    unfold zadd
    simp
theorem cvL_zero : cvL a b 0 0 = List.replicate (a.length + b.length - 1) (0,0):=by
  apply List.ext_getElem?
  intro k
  by_cases hk : k < a.length + b.length - 1
  · rw [cvL_at 0 0 hk,List.getElem?_replicate,if_pos hk]
    unfold cvI cvS
    rw [if_neg (by omega)]
    rfl
  · rw [List.getElem?_eq_none (by rw [cvL_len];omega),List.getElem?_eq_none (by simp;omega)]
theorem swept_in (ha : ∀ z ∈ a, small z) (hb : ∀ z ∈ b, small z) (la : 0 < a.length ∧ a.length ≤ 1024) (lb : 0 < b.length ∧ b.length ≤ 1024) {i : Nat} (hi : i < a.length) :
    run (pulse_swept_l2 b (i : Int) (at0 a i).1 (at0 a i).2) (cvL a b i 0,0) = some (cvL a b (i + 1) 0) ∧ run (ref04_Swept_l2 a b (i : Int)) (cvL a b i 0,0) = some (cvL a b (i + 1) 0):=by
  have sa:=at0_small ha i
  have step : ∀ j : Nat,j < b.length → pulse_swept_l2 b (i : Int) (at0 a i).1 (at0 a i).2 (cvL a b i j,(j : Int)) = some (.inl (cvL a b i (j + 1),((j + 1 : Nat) : Int))) ∧ ref04_Swept_l2 a b (i : Int) (cvL a b i j,(j : Int)) = some (.inl (cvL a b i (j + 1),((j + 1 : Nat) : Int))):=by
    intro j hj
    have hij : i + j < a.length + b.length - 1:=by omega
    have hg : getI (cvL a b i j) ((i : Int) + j) = some (cvS a b i (i + j)):=by
      rw [show (i : Int) + j = ((i + j : Nat) : Int) by omega,getI_nat,cvL_at i j hij]
      unfold cvI
      rw [if_neg (by omega)]
    have sb:=at0_small hb j
    have t:=times_eq sa sb
    have b1:=cvS_bd ha hb (i:=i) (i + j) (by omega)
    have b2:=zmul_bd sa sb
    have hs:=cvL_step (a:=a) i j hj
    have hw : IntKind.i64.wrap ((i : Int) + (j : Int)) = (i : Int) + j:=by rw [w64 (by omega)]
    have hn : ((i : Int) + j).toNat = i + j:=by omega
    unfold zle at b1 b2
    constructor
    · unfold pulse_swept_l2
      simp only
      rw [if_pos (by rw [decide_eq_true_eq];omega),getI_nat,at0_get hj]
      simp only [Option.bind_some]
      rw [hw,hg]
      simp only [Option.bind_some]
      rw [t.1]
      simp only [Option.bind_some]
      unfold pulse_number_plus
      simp only [Option.bind_some]
      rw [w64 (by omega),w64 (by omega),wsucc (n:=1024) (by omega) (by decide),hn]
      exact congrArg (fun l=>some (Sum.inl (l,((j + 1 : Nat) : Int)))) hs
    · unfold ref04_Swept_l2
      simp only
      rw [if_pos (by rw [decide_eq_true_eq];omega),getI_nat,at0_get hi]
      simp only [Option.bind_some]
      rw [getI_nat,at0_get hj]
      simp only [Option.bind_some]
      rw [t.2]
      simp only [Option.bind_some]
      rw [hw,hg]
      simp only [Option.bind_some]
      rw [w64 (by omega),w64 (by omega),wsucc (n:=1024) (by omega) (by decide),hn]
      exact congrArg (fun l=>some (Sum.inl (l,((j + 1 : Nat) : Int)))) hs
  constructor
  · have key := run_iter (step := pulse_swept_l2 b (i : Int) (at0 a i).1 (at0 a i).2) (st := fun j (_ : Unit) => (cvL a b i j, (j : Int))) (g := fun _ x => x) (fin := fun _ => cvL a b (i + 1) 0) b.length (fun _ _ => True) (b0 := ()) trivial
      (fun j _ hj _=>⟨(step j hj).1,trivial⟩) (fun _ _=>by
        unfold pulse_swept_l2
        simp only
        rw [if_neg (by rw [decide_eq_true_eq];omega),cvL_next])
    exact key.1
  · have key := run_iter (step := ref04_Swept_l2 a b (i : Int)) (st := fun j (_ : Unit) => (cvL a b i j, (j : Int))) (g := fun _ x => x) (fin := fun _ => cvL a b (i + 1) 0) b.length (fun _ _ => True) (b0 := ()) trivial
      (fun j _ hj _=>⟨(step j hj).2,trivial⟩) (fun _ _=>by
        unfold ref04_Swept_l2
        simp only
        rw [if_neg (by rw [decide_eq_true_eq];omega),cvL_next])
    exact key.1
/-- the recording of a sweep -/
def cv (a b : List (Int × Int)) : List (Int × Int):=cvL a b a.length 0
theorem swept_run (ha : ∀ z ∈ a,small z) (hb : ∀ z ∈ b,small z) (la : 0 < a.length ∧ a.length ≤ 1024) (lb : 0 < b.length ∧ b.length ≤ 1024) : pulse_swept a b = some (cv a b) ∧ run (ref04_Swept_l1 a b) (List.replicate (a.length + b.length - 1) (0,0),0) = some (cv a b):=by
  constructor
  · have key := run_iter (step := pulse_swept_l1 a b) (st := fun i (_ : Unit) => (cvL a b i 0, (i : Int))) (g := fun _ x => x) (fin := fun _ => cv a b) a.length (fun _ _ => True) (b0 := ()) trivial
      (fun i _ hi _=>⟨by
        unfold pulse_swept_l1
        simp only
        rw [if_pos (by rw [decide_eq_true_eq];omega),getI_nat,at0_get hi]
        simp only [Option.bind_some]
        rw [(swept_in ha hb la lb hi).1]
        simp only [Option.bind_some]
        rw [wsucc (n:=1024) (by omega) (by decide)],trivial⟩) (fun _ _=>by
        unfold pulse_swept_l1
        simp only
        rw [if_neg (by rw [decide_eq_true_eq];omega)]
        rfl)
    have k1:=key.1
    simp only [Int.natCast_zero] at k1
    unfold pulse_swept mkI
    rw [w64 (x:=(a.length : Int) + b.length) (by omega),w64 (by omega),if_pos (by omega)]
    simp only [Option.bind_some]
    rw [show ((a.length : Int) + b.length - 1).toNat = a.length + b.length - 1 by omega,← cvL_zero,k1]
    rfl
  · have key := run_iter (step := ref04_Swept_l1 a b) (st := fun i (_ : Unit) => (cvL a b i 0, (i : Int))) (g := fun _ x => x) (fin := fun _ => cv a b) a.length (fun _ _ => True) (b0 := ()) trivial
      (fun i _ hi _=>⟨by
        unfold ref04_Swept_l1
        simp only
        rw [if_pos (by rw [decide_eq_true_eq];omega),(swept_in ha hb la lb hi).2]
        simp only [Option.bind_some]
        rw [wsucc (n:=1024) (by omega) (by decide)],trivial⟩) (fun _ _=>by
        unfold ref04_Swept_l1
        simp only
        rw [if_neg (by rw [decide_eq_true_eq];omega)]
        rfl)
    have k1:=key.1
    simp only [Int.natCast_zero] at k1
    rw [← cvL_zero]
    exact k1
end
theorem nums_small {l : List (Nat × Nat)} (G : GoodL l) : ∀ z ∈ nums l,small z:=by
  intro z hz
  unfold nums at hz
  obtain ⟨p,hp,rfl⟩:=List.mem_map.1 hz
  exact (G.val p hp).2
/-- the value of a sweep -/
noncomputable def swV (l c : List (Nat × Nat)) : List (Nat × Nat) × Int:=if lE l ≠ 0 then ([],lE l) else if lE c ≠ 0 then ([],lE c) else if 1024 < l.length + c.length - 1 then ([],8) else rec (cv (nums l) (nums c))
theorem fe_a (l c : List (Nat × Nat)) (b : Bool) (e : Int) : pulse_firstError_a59d l c b e = some (if lE l ≠ 0 then lE l else if lE c ≠ 0 then lE c else if b = true then e else 0):=by
  unfold pulse_firstError_a59d pulse_refuse_c1_11f9
  rw [listed_eq,listed_eq]
  simp only [Option.bind_some]
  by_cases h1 : lE l = 0
  · by_cases h2 : lE c = 0
    · cases b
      · simp [h1,h2]
      · by_cases he : e = 0<;>simp [h1,h2,he]
    · simp [h1,h2]
  · simp [h1]
theorem prog_swept (l c : List (Nat × Nat)) (hl : l.length ≤ 1026) (hc : c.length ≤ 1026) : pulse_Swept l c = some (swV l c):=by
  unfold pulse_Swept pulse_listed pulse_refuse swV
  simp only [Option.bind_some]
  rw [fe_a]
  simp only [Option.bind_some]
  by_cases h1 : lE l = 0
  · by_cases h2 : lE c = 0
    · have G1:=good_of h1
      have G2:=good_of h2
      have g1:=G1.len
      have g2:=G2.len
      have n1 : ¬ lE l ≠ 0:=by simpa using h1
      have n2 : ¬ lE c ≠ 0:=by simpa using h2
      rw [if_neg n1,if_neg n2,if_neg n1,if_neg n2,w64 (x:=(l.length : Int) + c.length) (by omega),w64 (x:=(l.length : Int) + c.length - 1) (by omega)]
      by_cases h3 : 1024 < l.length + c.length - 1
      · have e : decide ((l.length : Int) + c.length - 1 > 1024) = true:=by rw [decide_eq_true_eq];omega
        rw [if_pos h3,e]
        rfl
      · have e : decide ((l.length : Int) + c.length - 1 > 1024) = false:=by rw [decide_eq_false_iff_not];omega
        rw [if_neg h3,e,prog_nums G1,prog_nums G2]
        simp only [Option.bind_some]
        rw [(swept_run (nums_small G1) (nums_small G2) (by rw [nums_len];omega) (by rw [nums_len];omega)).1]
        simp only [Option.bind_some]
        rw [prog_rec _ (by unfold cv;rw [cvL_len,nums_len,nums_len];omega)]
        rfl
    · simp [h1,h2]
  · simp [h1]
end Go.Rex

namespace Go.Rex
open Go Go.Rex
set_option maxRecDepth 100000
/-! ## division by a chirp -/
theorem zs_rev (f : Nat → Int × Int) : ∀ n : Nat,zsum f n = zsum (fun t=>f (n - 1 - t)) n
  | 0=>rfl
  | n + 1=>by
    have head : ∀ (g : Nat → Int × Int) (m : Nat),zsum g (m + 1) = zadd (g 0) (zsum (fun t=>g (t + 1)) m):=by
      intro g m
      induction m with
      | zero=>simp [zsum,zadd]
      | succ m ih =>
        rw [zsum,ih]
        simp only [zsum,zadd]
        ext<;>simp only<;>omega
    rw [head (fun t=>f (n + 1 - 1 - t)) n]
    simp only [zsum]
    rw [zs_rev f n]
    have e : zsum (fun t=>f (n + 1 - 1 - (t + 1))) n = zsum (fun t=>f (n - 1 - t)) n:=zs_congr (fun k hk=>by rw [show n + 1 - 1 - (k + 1) = n - 1 - k by omega])
    rw [e,show n + 1 - 1 - 0 = n by omega]
    simp only [zadd]
    ext<;>simp only<;>omega
/-- a unit: 1, i, -1, -i -/
def unitZ (u : Int × Int) : Prop:=u = (1,0) ∨ u = (0,1) ∨ u = (-1,0) ∨ u = (0,-1)
def zconj (u : Int × Int) : Int × Int:=(u.1,-u.2)
/-- what the divided list is made of: the number behind the ones that are there -/
def dvT (c x : List (Int × Int)) (k j : Nat) : Int × Int:=zmul (at0 x (k - 1 - j)) (at0 c (j + 1))
def dvN (r c x : List (Int × Int)) (k : Nat) : Int × Int:=zmul (zsub (at0 r k) (zsum (dvT c x k) (min k (c.length - 1)))) (zconj (at0 c 0))
def dvL (r c : List (Int × Int)) : Nat → List (Int × Int)
  | 0=>[]
  | k + 1=>dvL r c k ++ [dvN r c (dvL r c k) k]
/-- the same with numbers that turn over -/
def zmulW (a b : Int × Int) : Int × Int:=(IntKind.i64.wrap (IntKind.i64.wrap (a.1 * b.1) - IntKind.i64.wrap (a.2 * b.2)),IntKind.i64.wrap (IntKind.i64.wrap (a.1 * b.2) + IntKind.i64.wrap (a.2 * b.1)))
def zsubW (a b : Int × Int) : Int × Int:=(IntKind.i64.wrap (a.1 - b.1),IntKind.i64.wrap (a.2 - b.2))
def ziter (f : Nat → Int × Int) (z : Int × Int) : Nat → Int × Int
  | 0=>z
  | n + 1=>zsubW (ziter f z n) (f n)
def dwN (r c x : List (Int × Int)) (k : Nat) : Int × Int:=zmulW (ziter (fun t=>zmulW (at0 x (k - min k (c.length - 1) + t)) (at0 c (min k (c.length - 1) - t))) (at0 r k) (min k (c.length - 1))) (zconj (at0 c 0))
def dwL (r c : List (Int × Int)) : Nat → List (Int × Int)
  | 0=>[]
  | k + 1=>dwL r c k ++ [dwN r c (dwL r c k) k]
theorem dwL_len (r c : List (Int × Int)) : ∀ k,(dwL r c k).length = k
  | 0=>rfl
  | k + 1=>by simp [dwL,dwL_len r c k]
theorem zmulW_eq {a b : Int × Int} (ha : small a) (hb : small b) : zmulW a b = zmul a b:=by
  have:=(times_eq ha hb).1
  unfold pulse_number_times at this
  exact Option.some.inj this
theorem ziter_eq {f : Nat → Int × Int} {z : Int × Int} (hz : small z) : ∀ {n : Nat},n ≤ 1024 → (∀ t,t < n → zle 562949953421312 (f t)) → ziter f z n = zsub z (zsum f n)
  | 0,_,_=>by simp [ziter,zsum,zsub]
  | n + 1,hn,h=>by
    have ih:=ziter_eq hz (f:=f) (n:=n) (by omega) (fun t ht=>h t (by omega))
    have b:=zs_bd (f:=f) (B:=562949953421312) (n:=n) (fun t ht=>h t (by omega))
    have b2:=h n (by omega)
    have h2 : (n : Int) * 562949953421312 ≤ 1024 * 562949953421312:=Int.mul_le_mul_of_nonneg_right (by omega) (by decide)
    simp only [ziter,zsum]
    rw [ih]
    unfold zsubW zsub zadd
    unfold zle at b b2
    unfold small at hz
    simp only
    rw [w64 (by omega),w64 (by omega)]
    ext<;>simp only<;>omega
theorem unit_small {u : Int × Int} (h : unitZ u) : small u ∧ small (zconj u) ∧ zle 1 (zconj u):=by
  rcases h with rfl|rfl|rfl|rfl<;>refine ⟨?_,?_,?_⟩<;>simp [small,zconj,zle]
theorem mulW_unit {z u : Int × Int} (hz : zle 4611686018427387904 z) (hu : unitZ u) : zmulW z (zconj u) = zmul z (zconj u):=by
  unfold zle at hz
  unfold zmulW zmul zconj
  rcases hu with rfl|rfl|rfl|rfl<;>simp only [Int.mul_one,Int.mul_zero,Int.mul_neg,Int.neg_zero,Int.neg_neg]
  · rw [w64 (x:=z.1) (by omega),w64 (x:=(0 : Int)) (by omega),w64 (x:=z.2) (by omega),w64 (by omega),w64 (by omega)]
  · rw [w64 (x:=-z.2) (by omega),w64 (x:=(0 : Int)) (by omega),w64 (x:=-z.1) (by omega),w64 (by omega),w64 (by omega)]
  · rw [w64 (x:=-z.1) (by omega),w64 (x:=(0 : Int)) (by omega),w64 (x:=-z.2) (by omega),w64 (by omega),w64 (by omega)]
  · rw [w64 (x:=z.2) (by omega),w64 (x:=(0 : Int)) (by omega),w64 (x:=z.1) (by omega),w64 (by omega),w64 (by omega)]
section
variable {r c : List (Int × Int)}
theorem dv_sum_bd {x : List (Int × Int)} (hc : ∀ z ∈ c,small z) (hx : ∀ z ∈ x,small z) (lc : c.length ≤ 1024) (k : Nat) : zle 576460752303423488 (zsum (dvT c x k) (min k (c.length - 1))):=by
  have b:=zs_bd (f:=dvT c x k) (B:=562949953421312) (n:=min k (c.length - 1)) (fun t _=>zmul_bd (at0_small hx _) (at0_small hc _))
  have h2 : ((min k (c.length - 1) : Nat) : Int) * 562949953421312 ≤ 1024 * 562949953421312:=Int.mul_le_mul_of_nonneg_right (by omega) (by decide)
  unfold zle at *
  omega
theorem dwN_eq {x : List (Int × Int)} (hr : ∀ z ∈ r,small z) (hc : ∀ z ∈ c,small z) (hx : ∀ z ∈ x,small z) (lc : c.length ≤ 1024) (hu : unitZ (at0 c 0)) (k : Nat) : dwN r c x k = dvN r c x k:=by
  unfold dwN dvN
  have e : (fun t=>zmulW (at0 x (k - min k (c.length - 1) + t)) (at0 c (min k (c.length - 1) - t))) = fun t=>zmul (at0 x (k - min k (c.length - 1) + t)) (at0 c (min k (c.length - 1) - t)):=by
    funext t
    exact zmulW_eq (at0_small hx _) (at0_small hc _)
  rw [e,ziter_eq (at0_small hr k) (by omega) (fun t _=>zmul_bd (at0_small hx _) (at0_small hc _))]
  have e2 : zsum (fun t=>zmul (at0 x (k - min k (c.length - 1) + t)) (at0 c (min k (c.length - 1) - t))) (min k (c.length - 1)) = zsum (dvT c x k) (min k (c.length - 1)):=by
    rw [zs_rev (dvT c x k)]
    refine zs_congr (fun t ht=>?_)
    unfold dvT
    rw [show k - 1 - (min k (c.length - 1) - 1 - t) = k - min k (c.length - 1) + t by omega,show min k (c.length - 1) - 1 - t + 1 = min k (c.length - 1) - t by omega]
  rw [e2]
  have b:=dv_sum_bd (k:=k) hc hx lc
  have b2:=at0_small hr k
  refine mulW_unit ?_ hu
  unfold zle zsub small at *
  simp only
  omega
/-- as long as all are small, both are one -/
theorem dw_eq (hr : ∀ z ∈ r,small z) (hc : ∀ z ∈ c,small z) (lc : c.length ≤ 1024) (hu : unitZ (at0 c 0)) : ∀ {k : Nat},(∀ z ∈ dvL r c k,small z) → dwL r c k = dvL r c k ∧ dwL r c (k + 1) = dvL r c (k + 1)
  | 0,h=>⟨rfl,by simp only [dwL,dvL];rw [dwN_eq hr hc (fun z hz=>by simp at hz) lc hu]⟩
  | k + 1,h=>by
    have h' : ∀ z ∈ dvL r c k,small z:=fun z hz=>h z (by simp only [dvL,List.mem_append];exact .inl hz)
    have ih:=dw_eq hr hc lc hu h'
    refine ⟨ih.2,?_⟩
    show dwL r c (k + 1) ++ [dwN r c (dwL r c (k + 1)) (k + 1)] = dvL r c (k + 1) ++ [dvN r c (dvL r c (k + 1)) (k + 1)]
    rw [ih.2,dwN_eq hr hc h lc hu]
theorem dw_run (hc0 : 0 < c.length ∧ c.length ≤ 1024) (lr : r.length ≤ 2048) : run (pulse_Divided_l1 c (at0 c 0).1 (-(at0 c 0).2) r) (([] : List (Int × Int)),0) = some (dwL r c r.length):=by
  have inner : ∀ k : Nat, k < r.length → run (pulse_Divided_l2 c (dwL r c k) (k : Int)) ((at0 r k).1, (at0 r k).2, ((k - min k (c.length - 1) : Nat) : Int)) =
      some (ziter (fun t=>zmulW (at0 (dwL r c k) (k - min k (c.length - 1) + t)) (at0 c (min k (c.length - 1) - t))) (at0 r k) (min k (c.length - 1))):=by
    intro k hk
    let M:=min k (c.length - 1)
    let f:=fun t=>zmulW (at0 (dwL r c k) (k - M + t)) (at0 c (M - t))
    have key:=run_iter (step:=pulse_Divided_l2 c (dwL r c k) (k : Int)) (st:=fun t (z : Int × Int)=>(z.1,z.2,((k - M + t : Nat) : Int))) (g:=fun t z=>zsubW z (f t)) (fin:=fun z=>z) M (fun t z=>z = ziter f (at0 r k) t) (b0:=at0 r k) rfl
      (fun t z ht hz=>by
        subst hz
        refine ⟨?_,rfl⟩
        have h1 : k - M + t < (dwL r c k).length:=by rw [dwL_len];omega
        have h2 : M - t < c.length:=by omega
        unfold pulse_Divided_l2 pulse_number_times pulse_number_less
        simp only
        rw [if_pos (by rw [decide_eq_true_eq];omega),getI_nat,at0_get h1]
        simp only [Option.bind_some]
        rw [w64 (x:=(k : Int) - ((k - M + t : Nat) : Int)) (by omega),show (k : Int) - ((k - M + t : Nat) : Int) = ((M - t : Nat) : Int) by omega,getI_nat,at0_get h2]
        simp only [Option.bind_some]
        rw [wsucc (n:=4096) (by omega) (by decide)]
        rfl) (fun z hz=>by
        unfold pulse_Divided_l2
        simp only
        rw [if_neg (by rw [decide_eq_true_eq];omega)])
    have hI:=key.2 M (Nat.le_refl _)
    have hr:=key.1
    rw [hI] at hr
    exact hr
  have key:=run_iter (step:=pulse_Divided_l1 c (at0 c 0).1 (-(at0 c 0).2) r) (st:=fun k (_ : Unit)=>(dwL r c k,(k : Int))) (g:=fun _ x=>x) (fin:=fun _=>dwL r c r.length) r.length (fun _ _=>True) (b0:=()) trivial
    (fun k _ hk _=>⟨by
      unfold pulse_Divided_l1
      simp only
      rw [if_pos (by rw [decide_eq_true_eq];omega),getI_nat,at0_get hk]
      simp only [Option.bind_some]
      have e : (if IntKind.i64.wrap (IntKind.i64.wrap ((k : Int) + 1) - (c.length : Int)) > 0 then IntKind.i64.wrap (IntKind.i64.wrap ((k : Int) + 1) - (c.length : Int)) else 0) = ((k - min k (c.length - 1) : Nat) : Int):=by
        rw [w64 (x:=(k : Int) + 1) (by omega),w64 (by omega)]
        split<;>omega
      rw [e,inner k hk]
      simp only [Option.bind_some]
      unfold pulse_number_times appI
      simp only [Option.bind_some]
      rw [if_pos (by rw [dwL_len];simp;omega),wsucc (n:=4096) (by omega) (by decide)]
      rfl,trivial⟩) (fun _ _=>by
      unfold pulse_Divided_l1
      simp only
      rw [if_neg (by rw [decide_eq_true_eq];omega)])
  have k1:=key.1
  simp only [Int.natCast_zero] at k1
  exact k1
end

end Go.Rex

namespace Go.Rex
open Go Go.Rex
set_option maxRecDepth 100000
instance (u : Int × Int) : Decidable (unitZ u):=by unfold unitZ;exact inferInstance
theorem unit_iff {u : Int × Int} (hu : small u) : (u.1 * u.1 + u.2 * u.2 = 1) ↔ unitZ u:=by
  have e1 : u.1 * u.1 = (u.1.natAbs : Int) * u.1.natAbs:=Int.natAbs_mul_self.symm
  have e2 : u.2 * u.2 = (u.2.natAbs : Int) * u.2.natAbs:=Int.natAbs_mul_self.symm
  constructor
  · intro h
    rw [e1,e2] at h
    have h1 : u.1.natAbs ≤ 1:=by
      rcases Nat.lt_or_ge 1 u.1.natAbs with g|g
      · have : (2 : Int) * 2 ≤ (u.1.natAbs : Int) * u.1.natAbs:=Int.mul_le_mul (by omega) (by omega) (by decide) (by omega)
        have : (0 : Int) ≤ (u.2.natAbs : Int) * u.2.natAbs:=Int.mul_nonneg (by omega) (by omega)
        omega
      · exact g
    have h2 : u.2.natAbs ≤ 1:=by
      rcases Nat.lt_or_ge 1 u.2.natAbs with g|g
      · have : (2 : Int) * 2 ≤ (u.2.natAbs : Int) * u.2.natAbs:=Int.mul_le_mul (by omega) (by omega) (by decide) (by omega)
        have : (0 : Int) ≤ (u.1.natAbs : Int) * u.1.natAbs:=Int.mul_nonneg (by omega) (by omega)
        omega
      · exact g
    obtain ⟨a,b⟩:=u
    simp only at h h1 h2
    have ca : a = 0 ∨ a = 1 ∨ a = -1:=by omega
    have cb : b = 0 ∨ b = 1 ∨ b = -1:=by omega
    rcases ca with rfl|rfl|rfl<;>rcases cb with rfl|rfl|rfl<;>first|exact absurd h (by decide)|(unfold unitZ;decide)
  · intro h
    rcases h with rfl|rfl|rfl|rfl<;>decide
theorem turning_eq {c : List (Nat × Nat)} (G : GoodL c) : pulse_turning_c1_f1d2 c = some (if unitZ (at0 (nums c) 0) then 0 else 15):=by
  have hle:=G.len
  have hv:=G.val c[0] (List.getElem_mem (by omega))
  have e0 : at0 (nums c) 0 = num c[0]:=by
    have h1:=at0_get (w:=nums c) (k:=0) (by rw [nums_len];omega)
    have h2:=nums_at (l:=c) (k:=0) (by omega)
    rw [h1] at h2
    exact Option.some.inj h2
  have hg : getI c 0 = some c[0]:=by
    have:=getI_nat (xs:=c) (k:=0)
    simp only [Int.natCast_zero] at this
    rw [this,List.getElem?_eq_getElem (by omega)]
  rw [e0]
  unfold pulse_turning_c1_f1d2 pulse_numberOf pulse_number_conjugate pulse_refuse pulse_refuse_c1_11f9
  rw [hg]
  simp only [Option.bind_some]
  rw [f2i_small hv.1.1 hv.2.1,f2i_small hv.1.2 hv.2.2]
  simp only [Option.bind_some]
  generalize num c[0] = u at *
  have hs:=hv.2
  have w1 : IntKind.i64.wrap (0 - u.2) = -u.2:=by have:=hs.2;rw [w64 (by omega)];omega
  have sc : small (zconj u):=by unfold small zconj at *;simp only;omega
  have t:=(times_eq hs sc).1
  unfold zconj at t
  simp only at t
  rw [w1,t]
  simp only [Option.bind_some]
  have e1 : (zmul u (u.1,-u.2)) = (u.1 * u.1 + u.2 * u.2,0):=by
    unfold zmul
    simp only [Int.mul_neg,Int.sub_neg]
    congr 1
    rw [Int.mul_comm u.2 u.1]
    omega
  rw [e1]
  have iff:=unit_iff hs
  by_cases q : unitZ u
  · rw [if_pos q]
    have:=iff.2 q
    simp [this]
  · rw [if_neg q]
    have : ¬ (u.1 * u.1 + u.2 * u.2 = 1):=fun h=>q (iff.1 h)
    simp [this]
noncomputable def dvV (l c : List (Nat × Nat)) : List (Nat × Nat) × Int:=if lE l ≠ 0 then ([],lE l) else if lE c ≠ 0 then ([],lE c) else if unitZ (at0 (nums c) 0) then rec (dvL (nums l) (nums c) l.length) else ([],15)
theorem dv_prefix (r c : List (Int × Int)) : ∀ {k n : Nat},k ≤ n → ∀ z ∈ dvL r c k,z ∈ dvL r c n:=by
  intro k n h
  induction h with
  | refl=>exact fun z hz=>hz
  | step h ih=>exact fun z hz=>by simp only [dvL,List.mem_append];exact .inl (ih z hz)
theorem dw_prefix (r c : List (Int × Int)) : ∀ {k n : Nat},k ≤ n → ∀ z ∈ dwL r c k,z ∈ dwL r c n:=by
  intro k n h
  induction h with
  | refl=>exact fun z hz=>hz
  | step h ih=>exact fun z hz=>by simp only [dwL,List.mem_append];exact .inl (ih z hz)
/-- all are small, or there is a first one that isn't -/
theorem dv_first (r c : List (Int × Int)) : ∀ n : Nat,(∀ z ∈ dvL r c n,small z) ∨ ∃ k,k < n ∧ (∀ z ∈ dvL r c k,small z) ∧ ¬ small (dvN r c (dvL r c k) k)
  | 0=>.inl (fun z hz=>by simp [dvL] at hz)
  | n + 1=>by
    rcases dv_first r c n with h|⟨k,h1,h2⟩
    · by_cases q : small (dvN r c (dvL r c n) n)
      · left
        intro z hz
        simp only [dvL,List.mem_append,List.mem_singleton] at hz
        rcases hz with hz|rfl
        · exact h z hz
        · exact q
      · exact .inr ⟨n,by omega,h,q⟩
    · exact .inr ⟨k,by omega,h2⟩
theorem rec_dw {r c : List (Int × Int)} (hr : ∀ z ∈ r,small z) (hc : ∀ z ∈ c,small z) (lc : c.length ≤ 1024) (hu : unitZ (at0 c 0)) (n : Nat) : rec (dwL r c n) = rec (dvL r c n):=by
  rcases dv_first r c n with h|⟨k,h1,h2,h3⟩
  · rw [(dw_eq hr hc lc hu h).1]
  · have e:=(dw_eq hr hc lc hu h2).2
    have m1 : dvN r c (dvL r c k) k ∈ dvL r c n:=dv_prefix r c (show k + 1 ≤ n by omega) _ (by simp [dvL])
    have m2 : dvN r c (dvL r c k) k ∈ dwL r c n:=dw_prefix r c (show k + 1 ≤ n by omega) _ (by rw [e];simp [dvL])
    unfold rec
    rw [if_neg (fun h=>h3 (h _ m2)),if_neg (fun h=>h3 (h _ m1))]
theorem fe_b (l c : List (Nat × Nat)) (l3 : List (Nat × Nat)) : pulse_firstError_123b l c l3 = (if lE l ≠ 0 then some (lE l) else if lE c ≠ 0 then some (lE c) else (pulse_turning_c1_f1d2 l3).bind fun v7=>if (decide (v7 ≠ 0)) = true then (some (v7)) else (some (0))):=by
  unfold pulse_firstError_123b
  rw [listed_eq,listed_eq]
  simp only [Option.bind_some]
  by_cases h1 : lE l = 0
  · by_cases h2 : lE c = 0
    · simp [h1,h2]
    · simp [h1,h2]
  · simp [h1]
theorem prog_divided (l c : List (Nat × Nat)) : pulse_Divided l c = some (dvV l c):=by
  unfold pulse_Divided pulse_listed pulse_turning dvV
  simp only [Option.bind_some]
  rw [fe_b]
  by_cases h1 : lE l = 0
  · by_cases h2 : lE c = 0
    · have G1:=good_of h1
      have G2:=good_of h2
      have g1:=G1.len
      have g2:=G2.len
      have n1 : ¬ lE l ≠ 0:=by simpa using h1
      have n2 : ¬ lE c ≠ 0:=by simpa using h2
      rw [if_neg n1,if_neg n2,if_neg n1,if_neg n2,turning_eq G2]
      simp only [Option.bind_some]
      by_cases hu : unitZ (at0 (nums c) 0)
      · rw [if_pos hu,if_pos hu,if_neg (by decide)]
        simp only [Option.bind_some]
        rw [if_neg (by decide),prog_nums G2]
        simp only [Option.bind_some]
        have hg : getI (nums c) 0 = some (at0 (nums c) 0):=by
          have:=getI_nat (xs:=nums c) (k:=0)
          simp only [Int.natCast_zero] at this
          rw [this,at0_get (by rw [nums_len];omega)]
        rw [hg]
        simp only [Option.bind_some]
        have us:=(unit_small hu).1.2
        have w1 : IntKind.i64.wrap (0 - (at0 (nums c) 0).2) = -(at0 (nums c) 0).2:=by rw [w64 (by omega)];omega
        unfold pulse_number_conjugate
        simp only [Option.bind_some]
        rw [w1,prog_nums G1]
        simp only [Option.bind_some]
        rw [dw_run (by rw [nums_len];omega) (by rw [nums_len];omega)]
        simp only [Option.bind_some]
        rw [prog_rec _ (by rw [dwL_len,nums_len];omega),nums_len,rec_dw (nums_small G1) (nums_small G2) (by rw [nums_len];omega) hu]
        rfl
      · rw [if_neg hu,if_neg hu]
        rfl
    · simp [h1,h2]
  · simp [h1]
def qz (q : Nat) : Int × Int:=if q % 4 = 0 then (1,0) else if q % 4 = 1 then (0,1) else if q % 4 = 2 then (-1,0) else (0,-1)
end Go.Rex

namespace Go.Rex
open Go Go.Rex
set_option maxRecDepth 100000
/-! ## a sweep that is divided -/
theorem zadd_zero (z : Int × Int) : zadd z (0,0) = z ∧ zadd (0,0) z = z:=by unfold zadd;simp
theorem zs_ext {f : Nat → Int × Int} {n : Nat} (h : ∀ t,n ≤ t → f t = (0,0)) : ∀ d : Nat,zsum f (n + d) = zsum f n
  | 0=>rfl
  | d + 1=>by
    show zadd (zsum f (n + d)) (f (n + d)) = zsum f n
    rw [zs_ext h d,h (n + d) (by omega),(zadd_zero _).1]
theorem at0_out {w : List (Int × Int)} {k : Nat} (hk : w.length ≤ k) : at0 w k = (0,0):=by
  unfold at0
  rw [List.getD_eq_getElem?_getD,List.getElem?_eq_none hk]
  rfl
theorem zmul_zero (z : Int × Int) : zmul (0,0) z = (0,0) ∧ zmul z (0,0) = (0,0):=by unfold zmul;simp
theorem cvS_flip (a c : List (Int × Int)) (hc : 0 < c.length) (k : Nat) : cvS a c a.length k = zsum (fun j=>zmul (at0 a (k - j)) (at0 c j)) (min k (c.length - 1) + 1):=by
  have e1 : cvS a c a.length k = zsum (cvT a c k) (a.length + (k + 1)):=(zs_ext (fun t ht=>by
    unfold cvT
    split
    · rw [at0_out ht,(zmul_zero _).1]
    · rfl) (k + 1)).symm
  have e2 : zsum (cvT a c k) (k + 1 + a.length) = zsum (cvT a c k) (k + 1):=zs_ext (fun t ht=>by
    unfold cvT
    rw [if_neg (by omega)]) a.length
  have e3 : zsum (fun t=>cvT a c k (k + 1 - 1 - t)) (k + 1) = zsum (fun j=>if j < c.length ∧ j ≤ k then zmul (at0 a (k - j)) (at0 c j) else (0,0)) (k + 1):=zs_congr (fun t ht=>by
    unfold cvT
    rw [show k + 1 - 1 - t = k - t by omega,show k - (k - t) = t by omega]
    by_cases q : t < c.length
    · rw [if_pos ⟨by omega,q⟩,if_pos ⟨q,by omega⟩]
    · rw [if_neg (fun h=>q h.2),if_neg (fun h=>q h.1)])
  have e4 : zsum (fun j=>if j < c.length ∧ j ≤ k then zmul (at0 a (k - j)) (at0 c j) else (0,0)) (min k (c.length - 1) + 1 + (k - min k (c.length - 1))) = zsum (fun j=>if j < c.length ∧ j ≤ k then zmul (at0 a (k - j)) (at0 c j) else (0,0)) (min k (c.length - 1) + 1):=zs_ext (fun t ht=>by
    rw [if_neg (by omega)]) _
  rw [e1,show a.length + (k + 1) = k + 1 + a.length by omega,e2,zs_rev,e3,show k + 1 = min k (c.length - 1) + 1 + (k - min k (c.length - 1)) by omega,e4]
  exact zs_congr (fun j hj=>by rw [if_pos (by omega)])
theorem zs_head (f : Nat → Int × Int) : ∀ n : Nat,zsum f (n + 1) = zadd (f 0) (zsum (fun t=>f (t + 1)) n)
  | 0=>by simp [zsum,zadd]
  | n + 1=>by
    rw [zsum,zs_head f n]
    simp only [zsum,zadd]
    ext<;>simp only<;>omega
theorem unit_inv {z u : Int × Int} (hu : unitZ u) : zmul (zmul z u) (zconj u) = z:=by
  rcases hu with rfl|rfl|rfl|rfl<;>simp [zmul,zconj]
/-- a list with zeros behind it -/
def padZ (a : List (Int × Int)) (n : Nat) : List (Int × Int):=(List.range n).map (at0 a)
theorem padZ_at (a : List (Int × Int)) (n k : Nat) : at0 (padZ a n) k = if k < n then at0 a k else (0,0):=by
  unfold padZ
  by_cases h : k < n
  · rw [if_pos h]
    have hl : k < ((List.range n).map (at0 a)).length:=by simp;exact h
    have:=at0_get hl
    rw [List.getElem?_map,List.getElem?_range h] at this
    exact (Option.some.inj this).symm
  · rw [if_neg h,at0_out (by simp;omega)]
theorem cv_len (a c : List (Int × Int)) : (cv a c).length = a.length + c.length - 1:=by unfold cv;rw [cvL_len]
theorem cv_at (a c : List (Int × Int)) {k : Nat} (hk : k < a.length + c.length - 1) : at0 (cv a c) k = cvS a c a.length k:=by
  have h1:=at0_get (w:=cv a c) (k:=k) (by rw [cv_len];exact hk)
  have h2:=cvL_at (a:=a) (b:=c) a.length 0 hk
  unfold cv at h1
  rw [h1] at h2
  have:=Option.some.inj h2
  unfold cv
  rw [this]
  unfold cvI
  rw [if_neg (by omega)]
theorem dv_cv (a c : List (Int × Int)) (hc : 0 < c.length) (hu : unitZ (at0 c 0)) : ∀ {k : Nat},k ≤ a.length + c.length - 1 → dvL (cv a c) c k = padZ a k
  | 0,_=>rfl
  | k + 1,hk=>by
    have ih:=dv_cv a c hc hu (k:=k) (by omega)
    show dvL (cv a c) c k ++ [dvN (cv a c) c (dvL (cv a c) c k) k] = padZ a (k + 1)
    have e : dvN (cv a c) c (dvL (cv a c) c k) k = at0 a k:=by
      unfold dvN
      rw [cv_at a c (by omega),cvS_flip a c hc,ih,zs_head]
      have e2 : zsum (dvT c (padZ a k) k) (min k (c.length - 1)) = zsum (fun t=>zmul (at0 a (k - (t + 1))) (at0 c (t + 1))) (min k (c.length - 1)):=zs_congr (fun t ht=>by
        unfold dvT
        rw [padZ_at,if_pos (by omega),show k - 1 - t = k - (t + 1) by omega])
      rw [e2,Nat.sub_zero]
      generalize zsum (fun t=>zmul (at0 a (k - (t + 1))) (at0 c (t + 1))) (min k (c.length - 1)) = S
      have e3 : zsub (zadd (zmul (at0 a k) (at0 c 0)) S) S = zmul (at0 a k) (at0 c 0):=by
        unfold zsub zadd
        ext<;>simp only<;>omega
      rw [e3,unit_inv hu]
    rw [e,ih]
    unfold padZ
    rw [List.range_succ,List.map_append]
    rfl
theorem zmul_add (a b u : Int × Int) : zmul (zadd a b) u = zadd (zmul a u) (zmul b u):=by
  unfold zmul zadd
  simp only [Int.add_mul]
  ext<;>simp only<;>omega
theorem zs_add (f g : Nat → Int × Int) : ∀ n : Nat,zsum (fun t=>zadd (f t) (g t)) n = zadd (zsum f n) (zsum g n)
  | 0=>by simp [zsum,zadd]
  | n + 1=>by
    simp only [zsum]
    rw [zs_add f g n]
    unfold zadd
    ext<;>simp only<;>omega
theorem cvS_add {a b s c : List (Int × Int)} (h : ∀ k,at0 s k = zadd (at0 a k) (at0 b k)) (i k : Nat) : cvS s c i k = zadd (cvS a c i k) (cvS b c i k):=by
  unfold cvS
  rw [← zs_add]
  refine zs_congr (fun t ht=>?_)
  unfold cvT
  split
  · rw [h t,zmul_add]
  · unfold zadd;simp
/-! chirps -/
theorem table_get (q : Nat) : ∃ p : Nat × Nat,getI ([(1065353216,0),(0,1065353216),(3212836864,0),(0,3212836864)] : List (Nat × Nat)) ((q % 4 : Nat) : Int) = some p ∧ PV p (qz q):=by
  have one : SV 1065353216 1:=by
    have h:=sv_near24 (x:=1) (by decide)
    have e : FloatKind.f32.nearest 1 = 1065353216:=by decide +kernel
    rwa [e] at h
  have mone : SV 3212836864 (-1):=by
    have h:=sv_near24 (x:=-1) (by decide)
    have e : FloatKind.f32.nearest (-1) = 3212836864:=by decide +kernel
    rwa [e] at h
  have zero : SV 0 0:=by
    have h:=sv_near24 (x:=0) (by decide)
    have e : FloatKind.f32.nearest 0 = 0:=by decide +kernel
    rwa [e] at h
  have hq : q % 4 = 0 ∨ q % 4 = 1 ∨ q % 4 = 2 ∨ q % 4 = 3:=by omega
  unfold qz
  rcases hq with h|h|h|h<;>rw [h]
  · exact ⟨_,rfl,one,zero⟩
  · exact ⟨_,rfl,zero,one⟩
  · exact ⟨_,rfl,mone,zero⟩
  · exact ⟨_,rfl,zero,mone⟩
theorem qz_unit (q : Nat) : unitZ (qz q):=by
  unfold qz unitZ
  split
  · exact .inl rfl
  split
  · exact .inr (.inl rfl)
  split
  · exact .inr (.inr (.inl rfl))
  · exact .inr (.inr (.inr rfl))
structure ChirpOf (n : Nat) (c : List (Nat × Nat)) : Prop where
  len : c.length = n
  val : ∀ p ∈ c,∃ z,PV p z ∧ unitZ z
theorem chirp_of {n b : Int} (hn : 1 ≤ n ∧ n ≤ 1024) (hb : 1 ≤ b ∧ b ≤ 1000) : ∃ c,pulse_Chirp n b = some (c,0) ∧ ChirpOf n.toNat c:=by
  have key : ∀ (d k : Nat) (v : List (Nat × Nat)) (q : Nat),k + d = n.toNat → v.length = k → (∀ p ∈ v,∃ z,PV p z ∧ unitZ z) → q ≤ k * 1024 → ∃ c,run (pulse_Chirp_l1 n b) (v,(q : Int),(k : Int)) = some c ∧ ChirpOf n.toNat c:=by
    intro d
    induction d with
    | zero =>
      intro k v q hk hv hp hq
      refine ⟨v,run_stop ?_,⟨by omega,hp⟩⟩
      unfold pulse_Chirp_l1
      simp only
      rw [if_neg (by rw [decide_eq_true_eq];omega)]
    | succ d ih =>
      intro k v q hk hv hp hq
      have hd : (k : Int).tdiv b = (k : Int) / b:=Int.tdiv_eq_ediv_of_nonneg (by omega)
      have h0 : 0 ≤ (k : Int) / b:=Int.ediv_nonneg (by omega) (by omega)
      have h1 : (k : Int) / b ≤ k:=Int.ediv_le_self _ (by omega)
      obtain ⟨e,he⟩ : ∃ e : Nat,(k : Int) / b = (e : Int):=⟨((k : Int) / b).toNat,by omega⟩
      obtain ⟨p,p1,p2⟩:=table_get (q + e)
      have step : pulse_Chirp_l1 n b (v,(q : Int),(k : Int)) = some (.inl (v ++ [p],((q + e : Nat) : Int),((k + 1 : Nat) : Int))):=by
        unfold pulse_Chirp_l1
        simp only
        rw [if_pos (by rw [decide_eq_true_eq];omega),if_neg (by omega),hd,he,w64 (x:=(e : Int)) (by omega),w64 (x:=(q : Int) + e) (by omega),Int.tmod_eq_emod_of_nonneg (by omega),show ((q : Int) + e) % 4 = (((q + e) % 4 : Nat) : Int) by omega,p1]
        simp only [Option.bind_some]
        unfold appI
        rw [if_pos (by simp;omega)]
        simp only [Option.bind_some]
        rw [wsucc (n:=4096) (by omega) (by decide)]
        rfl
      rw [run_next step]
      refine ih (k + 1) (v ++ [p]) (q + e) (by omega) (by simp [hv]) (fun x hx=>?_) (by rw [Nat.add_mul];omega)
      rcases List.mem_append.1 hx with hx|hx
      · exact hp x hx
      · obtain rfl:=List.mem_singleton.1 hx
        exact ⟨_,p2,qz_unit _⟩
  obtain ⟨c,c1,c2⟩:=key n.toNat 0 [] 0 (by omega) rfl (fun p hp=>by simp at hp) (by omega)
  refine ⟨c,?_,c2⟩
  have c1' : run (pulse_Chirp_l1 n b) ([],0,0) = some c:=c1
  unfold pulse_Chirp pulse_within pulse_refuse pulse_firstError_9abe pulse_refuse_c1_11f9
  rw [if_neg (by rw [decide_eq_true_eq];omega),if_neg (by rw [decide_eq_true_eq];omega)]
  have d1 : decide (n > 1024) = false:=by rw [decide_eq_false_iff_not];omega
  have d2 : decide (b > 1000) = false:=by rw [decide_eq_false_iff_not];omega
  simp only [Option.bind_some,d1,d2,Bool.false_eq_true,if_false,ne_eq,not_true_eq_false,decide_false]
  rw [c1']
  rfl
theorem lE_good {l : List (Nat × Nat)} (hl : 0 < l.length ∧ l.length ≤ 1024) (h : ∀ p ∈ l,∃ z,PV p z ∧ small z) : lE l = 0:=by
  unfold lE
  rw [if_neg (by omega),if_neg (by omega)]
  have : firstOf (cEAt l) l.length = none:=firstOf_none.2 (fun k hk=>by
    unfold cEAt
    rw [List.getElem?_eq_getElem hk]
    simp only
    rw [if_pos]
    obtain ⟨z,z1,z2⟩:=h l[k] (List.getElem_mem hk)
    unfold cE
    rw [wv_of z1.1,wv_of z1.2]
    simp only
    rw [if_pos]
    unfold sm24
    simp only [decide_eq_true_eq]
    exact z2)
  rw [this]
  rfl
theorem nums_map {w : List (Int × Int)} (h : ∀ z ∈ w,small z) : nums (w.map nearP) = w:=by
  unfold nums
  rw [List.map_map]
  conv=>rhs;rw [← List.map_id w]
  exact List.map_congr_left (fun z hz=>num_near (h z hz))
theorem near_ok {w : List (Int × Int)} (hl : 0 < w.length ∧ w.length ≤ 1024) (h : ∀ z ∈ w,small z) : lE (w.map nearP) = 0 :=
  lE_good (by simp;exact hl) (fun p hp=>by
    obtain ⟨z,hz,rfl⟩:=List.mem_map.1 hp
    exact ⟨z,pv_near (h z hz),h z hz⟩)
theorem ceq_sv {p q : Nat × Nat} {z : Int × Int} (hp : PV p z) (hq : PV q z) : ceq .f32 p.1 p.2 q.1 q.2 = true:=by
  have key : ∀ {a b : Nat} {x : Int},SV a x → SV b x → fcmp .eql .f32 a b = true:=by
    intro a b x ha hb
    obtain ⟨s,m,e,h1,h2,h3⟩:=ha
    obtain ⟨s',m',e',g1,g2,g3⟩:=hb
    unfold fcmp
    simp only
    rw [ord32 h1 g1,nv_order h3 g3,cmpI.2.2.2.2]
    exact decide_eq_true rfl
  have k1:=key hp.1 hq.1
  have k2:=key hp.2 hq.2
  unfold ceq
  rw [k1,k2]
  rfl
theorem cvS_le {a c : List (Int × Int)} {A : Int} (hA : 0 ≤ A) (ha : ∀ k,zle A (at0 a k)) (hc : ∀ j,j < c.length → unitZ (at0 c j)) (i k : Nat) : zle (i * A) (cvS a c i k):=by
  unfold cvS
  refine zs_bd (fun t _=>?_)
  unfold cvT
  by_cases q : t ≤ k ∧ k - t < c.length
  · rw [if_pos q]
    have hu:=hc (k - t) q.2
    have h:=ha t
    unfold zle at *
    rcases hu with e|e|e|e<;>rw [e]<;>simp [zmul]<;>omega
  · rw [if_neg q]
    unfold zle
    simp
    omega
theorem wrap24 {x : Int} (h : -40000 ≤ x ∧ x ≤ 40000) : IntKind.i64.wrap x = x:=w64 (by omega)
/-- the two responses, and their sum -/
structure Lists (v1 v2 : List (Int × Int)) (a b s : List (Int × Int)) : Prop where
  la : a.length = v1.length
  lb : b.length = v1.length
  ls : s.length = v1.length
  ba : ∀ k,zle 10000 (at0 a k)
  bb : ∀ k,zle 10000 (at0 b k)
  sum : ∀ k,at0 s k = zadd (at0 a k) (at0 b k)
theorem base_within (n a b : Int) : base_Within n a b = some (decide (a ≤ n ∧ n ≤ b)):=by
  unfold base_Within
  by_cases h : a ≤ n
  · rw [if_pos (decide_eq_true h)]
    simp [h]
  · rw [if_neg (by simpa using h)]
    simp [h]
theorem sample_eq {x y : Int} (hx : -10000 ≤ x ∧ x ≤ 10000) (hy : -10000 ≤ y ∧ y ≤ 10000) : base_Sample x y = some (nearP (x,y)):=by
  have e : ∀ z : Int,-10000 ≤ z ∧ z ≤ 10000 → (if (if z < 10000 then z else 10000) > (-10000) then (if z < 10000 then z else 10000) else (-10000)) = z:=fun z hz=>by
    split<;>split<;>omega
  unfold base_Sample
  rw [e x hx,e y hy]
  rfl
theorem lists_run (v1 v2 : List (Int × Int)) (h1 : v1.length ≤ 20) : run (law04_PulseDivides_l1 v1 v2) (([] : List (Nat × Nat)), ([] : List (Nat × Nat)), ([] : List (Nat × Nat)), 0) = some (.inl ()) ∨
    ∃ a b s,Lists v1 v2 a b s ∧ run (law04_PulseDivides_l1 v1 v2) (([] : List (Nat × Nat)),([] : List (Nat × Nat)),([] : List (Nat × Nat)),0) = some (.inr (a.map nearP,b.map nearP,s.map nearP)):=by
  have app : ∀ (w : List (Int × Int)) (z : Int × Int),w.length ≤ 20 → appI 8 (w.map nearP) [nearP z] = some ((w ++ [z]).map nearP):=fun w z hw=>by
    unfold appI
    rw [if_pos (by simp;omega),List.map_append]
    rfl
  have snoc : ∀ (w : List (Int × Int)) (z : Int × Int) (k : Nat),at0 (w ++ [z]) k = if k < w.length then at0 w k else if k = w.length then z else (0,0):=fun w z k=>by
    unfold at0
    rw [List.getD_eq_getElem?_getD,List.getElem?_append]
    by_cases q : k < w.length
    · rw [if_pos q,if_pos q,List.getD_eq_getElem?_getD]
    · rw [if_neg q,if_neg q]
      by_cases q2 : k = w.length
      · rw [if_pos q2,q2,Nat.sub_self];rfl
      · rw [if_neg q2,List.getElem?_eq_none (by simp;omega)];rfl
  have key : ∀ (d k : Nat) (a b s : List (Int × Int)), k + d = v1.length → a.length = k → b.length = k → s.length = k → (∀ k, zle 10000 (at0 a k)) → (∀ k, zle 10000 (at0 b k)) → (∀ k, at0 s k = zadd (at0 a k) (at0 b k)) →
      run (law04_PulseDivides_l1 v1 v2) (a.map nearP,b.map nearP,s.map nearP,(k : Int)) = some (.inl ()) ∨ ∃ a' b' s',Lists v1 v2 a' b' s' ∧ run (law04_PulseDivides_l1 v1 v2) (a.map nearP,b.map nearP,s.map nearP,(k : Int)) = some (.inr (a'.map nearP,b'.map nearP,s'.map nearP)):=by
    intro d
    induction d with
    | zero =>
      intro k a b s hk ea eb es ha hb hs
      refine .inr ⟨a,b,s,⟨by omega,by omega,by omega,ha,hb,hs⟩,run_stop ?_⟩
      unfold law04_PulseDivides_l1
      simp only
      rw [if_neg (by rw [decide_eq_true_eq];omega)]
    | succ d ih =>
      intro k a b s hk ea eb es ha hb hs
      have hk1 : k < v1.length:=by omega
      have gz : zle 10000 ((0 : Int),(0 : Int)):=by unfold zle;simp
      -- one more number
      have next : ∀ z2 : Int × Int, zle 10000 z2 → zle 10000 (at0 v1 k) → law04_PulseDivides_l1 v1 v2 (a.map nearP, b.map nearP, s.map nearP, (k : Int)) = some (.inl ((a ++ [at0 v1 k]).map nearP, (b ++ [z2]).map nearP, (s ++ [zadd z2 (at0 v1 k)]).map nearP, ((k + 1 : Nat) : Int))) →
          run (law04_PulseDivides_l1 v1 v2) (a.map nearP,b.map nearP,s.map nearP,(k : Int)) = some (.inl ()) ∨ ∃ a' b' s',Lists v1 v2 a' b' s' ∧ run (law04_PulseDivides_l1 v1 v2) (a.map nearP,b.map nearP,s.map nearP,(k : Int)) = some (.inr (a'.map nearP,b'.map nearP,s'.map nearP)):=by
        intro z2 g2 g1 hst
        rw [run_next hst]
        refine ih (k + 1) _ _ _ (by omega) (by simp [ea]) (by simp [eb]) (by simp [es]) (fun j=>?_) (fun j=>?_) (fun j=>?_)
        · rw [snoc]
          split
          · exact ha j
          · split
            · exact g1
            · exact gz
        · rw [snoc]
          split
          · exact hb j
          · split
            · exact g2
            · exact gz
        · rw [snoc,snoc,snoc,ea,eb,es]
          split
          · exact hs j
          · split
            · unfold zadd
              ext<;>simp only<;>omega
            · unfold zadd;simp
      have stop : law04_PulseDivides_l1 v1 v2 (a.map nearP,b.map nearP,s.map nearP,(k : Int)) = some (.inr (.inl ())) → run (law04_PulseDivides_l1 v1 v2) (a.map nearP,b.map nearP,s.map nearP,(k : Int)) = some (.inl ()):=fun h=>run_stop h
      have near2 : ∀ z2 : Int × Int,zle 10000 z2 → zle 10000 (at0 v1 k) → ((FloatKind.f32.nearest (IntKind.i64.wrap (z2.1 + (at0 v1 k).1))),(FloatKind.f32.nearest (IntKind.i64.wrap (z2.2 + (at0 v1 k).2)))) = nearP (zadd z2 (at0 v1 k)):=by
        intro z2 g2 g1
        unfold zle at g1 g2
        rw [wrap24 (by omega),wrap24 (by omega)]
        rfl
      have hl1 : a.length ≤ 20 ∧ b.length ≤ 20 ∧ s.length ≤ 20:=by omega
      by_cases q : k < v2.length
      · by_cases c : zle 10000 (at0 v2 k) ∧ zle 10000 (at0 v1 k)
        · obtain ⟨c1,c2⟩:=c
          refine next (at0 v2 k) c1 c2 ?_
          have n2:=near2 _ c1 c2
          unfold zle at c1 c2
          unfold law04_PulseDivides_l1
          simp only
          rw [if_pos (by rw [decide_eq_true_eq];omega),getI_nat,at0_get hk1]
          simp only [Option.bind_some]
          rw [if_pos (by rw [decide_eq_true_eq];omega),getI_nat,at0_get q]
          simp only [Option.bind_some]
          rw [base_within,base_within,base_within,base_within]
          simp only [Option.bind_some]
          rw [if_pos (decide_eq_true c1.1),if_pos (decide_eq_true c1.2),if_pos (decide_eq_true c2.1),if_pos (decide_eq_true c2.2),sample_eq c2.1 c2.2,sample_eq c1.1 c1.2]
          simp only [Option.bind_some]
          rw [n2,app a _ hl1.1,app b _ hl1.2.1,app s _ hl1.2.2]
          simp only [Option.bind_some]
          rw [wsucc (n:=4096) (by omega) (by decide)]
        · left
          refine stop ?_
          unfold zle at c
          unfold law04_PulseDivides_l1
          simp only
          rw [if_pos (by rw [decide_eq_true_eq];omega),getI_nat,at0_get hk1]
          simp only [Option.bind_some]
          rw [if_pos (by rw [decide_eq_true_eq];omega),getI_nat,at0_get q]
          simp only [Option.bind_some]
          rw [base_within,base_within,base_within,base_within]
          simp only [Option.bind_some,decide_eq_true_eq]
          by_cases d1 : -10000 ≤ (at0 v2 k).1 ∧ (at0 v2 k).1 ≤ 10000
          · rw [if_pos d1]
            by_cases d2 : -10000 ≤ (at0 v2 k).2 ∧ (at0 v2 k).2 ≤ 10000
            · rw [if_pos d2]
              by_cases d3 : -10000 ≤ (at0 v1 k).1 ∧ (at0 v1 k).1 ≤ 10000
              · rw [if_pos d3,if_neg (by omega)]
              · rw [if_neg d3]
            · rw [if_neg d2]
          · rw [if_neg d1]
      · by_cases c2 : zle 10000 (at0 v1 k)
        · refine next (0,0) gz c2 ?_
          have n2:=near2 (0,0) gz c2
          unfold zle at c2
          unfold law04_PulseDivides_l1
          simp only
          rw [if_pos (by rw [decide_eq_true_eq];omega),getI_nat,at0_get hk1]
          simp only [Option.bind_some]
          rw [if_neg (by rw [decide_eq_true_eq];omega),base_within,base_within,base_within]
          simp only [Option.bind_some]
          rw [if_pos (by decide),if_pos (by decide),if_pos (decide_eq_true c2.1),if_pos (decide_eq_true c2.2),sample_eq c2.1 c2.2,sample_eq (x:=0) (y:=0) (by omega) (by omega)]
          simp only [Option.bind_some]
          simp only at n2
          rw [n2,app a _ hl1.1,app b _ hl1.2.1,app s _ hl1.2.2]
          simp only [Option.bind_some]
          rw [wsucc (n:=4096) (by omega) (by decide)]
        · left
          refine stop ?_
          unfold zle at c2
          unfold law04_PulseDivides_l1
          simp only
          rw [if_pos (by rw [decide_eq_true_eq];omega),getI_nat,at0_get hk1]
          simp only [Option.bind_some]
          rw [if_neg (by rw [decide_eq_true_eq];omega),base_within,base_within,base_within]
          simp only [Option.bind_some]
          rw [if_pos (by decide),if_pos (by decide)]
          simp only [decide_eq_true_eq]
          by_cases d3 : -10000 ≤ (at0 v1 k).1 ∧ (at0 v1 k).1 ≤ 10000
          · rw [if_pos d3,if_neg (by omega)]
          · rw [if_neg d3]
  have:=key v1.length 0 [] [] [] (by omega) rfl rfl rfl (fun k=>by unfold at0 zle;simp) (fun k=>by unfold at0 zle;simp) (fun k=>by unfold at0 zadd;simp)
  exact this

end Go.Rex

namespace Go.Rex
open Go Go.Rex
set_option maxRecDepth 100000
theorem app_nil (l : List (Nat × Nat)) (h : l.length ≤ 1024) : appI 8 ([] : List (Nat × Nat)) l = some l:=by
  unfold appI
  rw [if_pos (by simp;omega)]
  rfl
theorem small_at {w : List (Int × Int)} (h : ∀ k,zle 16777216 (at0 w k)) : ∀ z ∈ w,small z:=by
  intro z hz
  obtain ⟨k,hk⟩:=List.mem_iff_getElem?.1 hz
  have hkl:=(List.getElem?_eq_some_iff.1 hk).1
  have:=at0_get hkl
  rw [hk] at this
  rw [Option.some.inj this]
  have:=h k
  unfold zle at this
  exact this
theorem zle_mono {A B : Int} {z : Int × Int} (h : A ≤ B) (hz : zle A z) : zle B z:=by unfold zle at *;omega
/-- a chirp's numbers -/
theorem chirp_nums {n : Nat} {c : List (Nat × Nat)} (hn : 0 < n ∧ n ≤ 1024) (C : ChirpOf n c) : lE c = 0 ∧ (nums c).length = n ∧ ∀ j,j < (nums c).length → unitZ (at0 (nums c) j):=by
  have hl:=C.len
  refine ⟨lE_good (by omega) (fun p hp=>?_),by rw [nums_len];exact hl,fun j hj=>?_⟩
  · obtain ⟨z,z1,z2⟩:=C.val p hp
    exact ⟨z,z1,(unit_small z2).1⟩
  · rw [nums_len] at hj
    have h1:=at0_get (w:=nums c) (k:=j) (by rw [nums_len];exact hj)
    rw [nums_at hj] at h1
    obtain ⟨z,z1,z2⟩:=C.val c[j] (List.getElem_mem hj)
    rw [← Option.some.inj h1,num_pv z1]
    exact z2
/-- the recording of a response by a chirp -/
theorem swept_by {n : Nat} {c : List (Nat × Nat)} (hn : 0 < n ∧ n ≤ 40) (C : ChirpOf n c) {w : List (Int × Int)} {A : Int} (hA : 0 ≤ A ∧ A ≤ 20000) (hw : ∀ k, zle A (at0 w k)) (lw : 0 < w.length ∧ w.length ≤ 20) :
    pulse_Swept (w.map nearP) c = some ((cv w (nums c)).map nearP,0) ∧ ∀ z ∈ cv w (nums c),small z:=by
  obtain ⟨c1,c2,c3⟩:=chirp_nums (by omega) C
  have hl:=C.len
  have sw:=small_at (w:=w) (fun k=>zle_mono (by omega) (hw k))
  have e1 : lE (w.map nearP) = 0:=near_ok (by omega) sw
  have scv : ∀ z ∈ cv w (nums c),small z:=by
    refine small_at (fun k=>?_)
    by_cases hk : k < w.length + (nums c).length - 1
    · rw [cv_at w (nums c) hk]
      have h:=cvS_le hA.1 hw c3 w.length k
      refine zle_mono ?_ h
      have : (w.length : Int) * A ≤ 20 * 20000:=Int.mul_le_mul (by omega) hA.2 hA.1 (by decide)
      omega
    · rw [at0_out (by rw [cv_len];omega)]
      unfold zle;simp
  refine ⟨?_,scv⟩
  rw [prog_swept _ _ (by simp;omega) (by omega)]
  unfold swV
  rw [if_neg (by rw [e1];decide),if_neg (by rw [c1];decide),if_neg (by simp;omega),nums_map sw]
  unfold rec
  rw [if_pos scv]
theorem divides_true (v1 v2 : List (Int × Int)) (n b : Int) : law04_PulseDivides v1 v2 n b = some true:=by
  unfold law04_PulseDivides
  by_cases h0 : (v1.length : Int) = 0
  · rw [if_pos (decide_eq_true h0)]
  rw [if_neg (by simpa using h0)]
  by_cases h1 : (v1.length : Int) > 20
  · rw [if_pos (decide_eq_true h1)]
  rw [if_neg (by simpa using h1)]
  by_cases h2 : (v2.length : Int) > 20
  · rw [if_pos (decide_eq_true h2)]
  rw [if_neg (by simpa using h2),base_within]
  simp only [Option.bind_some]
  by_cases hn : 1 ≤ n ∧ n ≤ 40
  rotate_left
  · rw [if_neg (by simpa using hn)]
  rw [if_pos (decide_eq_true hn),base_within]
  simp only [Option.bind_some]
  by_cases hb : 1 ≤ b ∧ b ≤ 1000
  rotate_left
  · rw [if_neg (by simpa using hb)]
  rw [if_pos (decide_eq_true hb)]
  rcases lists_run v1 v2 (by omega) with h|⟨a,q,s,L,h⟩
  · rw [h];rfl
  rw [h]
  simp only [Option.bind_some]
  obtain ⟨c,hc,C⟩:=chirp_of (n:=n) (b:=b) (by omega) hb
  have hcl:=C.len
  have la:=L.la
  have lb:=L.lb
  have ls:=L.ls
  have hn' : 0 < n.toNat ∧ n.toNat ≤ 40:=by omega
  obtain ⟨c1,c2,c3⟩:=chirp_nums (by omega) C
  have hs : ∀ k,zle 20000 (at0 s k):=fun k=>by
    have h1:=L.ba k
    have h2:=L.bb k
    rw [L.sum k]
    unfold zle zadd at *
    simp only
    omega
  obtain ⟨w1,s1⟩:=swept_by hn' C (w:=a) (A:=10000) (by omega) L.ba (by omega)
  obtain ⟨w2,s2⟩:=swept_by hn' C (w:=q) (A:=10000) (by omega) L.bb (by omega)
  obtain ⟨w3,s3⟩:=swept_by hn' C (w:=s) (A:=20000) (by omega) hs (by omega)
  have l1:=cv_len a (nums c)
  have l2:=cv_len q (nums c)
  have l3:=cv_len s (nums c)
  rw [hc]
  simp only [Option.bind_some]
  rw [if_neg (by simp),if_neg (by rw [decide_eq_true_eq];omega),app_nil _ (by simp;omega),app_nil _ (by omega)]
  simp only [Option.bind_some]
  rw [w1]
  simp only [Option.bind_some]
  rw [w2]
  simp only [Option.bind_some]
  rw [w3]
  simp only [Option.bind_some]
  rw [if_neg (by simp),if_neg (by simp),if_neg (by simp)]
  simp only [List.length_map]
  rw [w64 (x:=(a.length : Int) + c.length) (by omega),w64 (x:=(a.length : Int) + c.length - 1) (by omega),if_neg (by rw [decide_eq_true_eq];omega),if_neg (by rw [decide_eq_true_eq];omega),if_neg (by rw [decide_eq_true_eq];omega)]
  have r2 : run (law04_PulseDivides_l2 ((cv a (nums c)).map nearP) ((cv q (nums c)).map nearP) ((cv s (nums c)).map nearP)) 0 = some (.inr ()):=by
    refine run_count (fun k=>(k : Int)) (n:=(cv a (nums c)).length) (fun k hk=>?_) ?_
    · have ka : ((cv a (nums c)).map nearP)[k]? = some (nearP (at0 (cv a (nums c)) k)):=by rw [List.getElem?_map,at0_get hk];rfl
      have kq : ((cv q (nums c)).map nearP)[k]? = some (nearP (at0 (cv q (nums c)) k)):=by rw [List.getElem?_map,at0_get (by omega)];rfl
      have ks : ((cv s (nums c)).map nearP)[k]? = some (nearP (at0 (cv s (nums c)) k)):=by rw [List.getElem?_map,at0_get (by omega)];rfl
      have ba:=at0_small s1 k
      have bq:=at0_small s2 k
      have bs:=at0_small s3 k
      have es : at0 (cv s (nums c)) k = zadd (at0 (cv a (nums c)) k) (at0 (cv q (nums c)) k):=by
        rw [cv_at s _ (by omega),cv_at a _ (by omega),cv_at q _ (by omega),cvS_add L.sum,ls,la,lb]
      have z1:=cvS_le (A:=10000) (by omega) L.ba c3 a.length k
      have z2:=cvS_le (A:=10000) (by omega) L.bb c3 q.length k
      rw [← cv_at a _ (by omega)] at z1
      rw [← cv_at q _ (by omega)] at z2
      have h24 : (16777216 : Nat) = 2 ^ 24:=by decide
      have i1 : (a.length : Int) * 10000 ≤ 200000:=by omega
      have i2 : (q.length : Int) * 10000 ≤ 200000:=by omega
      have pa:=pv_near ba
      have pq:=pv_near bq
      unfold zle at z1 z2
      obtain ⟨f1,g1,v1'⟩:=add32 pa.1 pq.1 (by rw [← h24];omega) (by rw [← h24];omega) (by rw [← h24];omega)
      obtain ⟨f2,g2,v2'⟩:=add32 pa.2 pq.2 (by rw [← h24];omega) (by rw [← h24];omega) (by rw [← h24];omega)
      unfold law04_PulseDivides_l2
      simp only [List.length_map]
      rw [if_pos (by rw [decide_eq_true_eq];omega),getI_nat,ks]
      simp only [Option.bind_some]
      rw [getI_nat,ka]
      simp only [Option.bind_some]
      rw [getI_nat,kq]
      simp only [Option.bind_some]
      rw [g1,g2]
      simp only [Option.bind_some]
      have hc:=ceq_sv (p:=nearP (at0 (cv s (nums c)) k)) (q:=(f1,f2)) (z:=zadd (at0 (cv a (nums c)) k) (at0 (cv q (nums c)) k)) (by rw [← es];exact pv_near bs) ⟨v1',v2'⟩
      rw [if_pos hc,wsucc (n:=4096) (by omega) (by decide)]
    · unfold law04_PulseDivides_l2
      simp only [List.length_map]
      rw [if_neg (by rw [decide_eq_true_eq];omega)]
  rw [r2]
  simp only [Option.bind_some]
  have hu : unitZ (at0 (nums c) 0):=c3 0 (by omega)
  have e1 : lE ((cv a (nums c)).map nearP) = 0:=near_ok (by omega) s1
  have hd : pulse_Divided ((cv a (nums c)).map nearP) c = some ((padZ a (cv a (nums c)).length).map nearP,0):=by
    rw [prog_divided]
    unfold dvV
    rw [if_neg (by rw [e1];decide),if_neg (by rw [c1];decide),if_pos hu,nums_map s1,List.length_map,dv_cv a (nums c) (by omega) hu (by omega)]
    unfold rec
    rw [if_pos]
    refine small_at (fun k=>?_)
    rw [padZ_at]
    split
    · exact zle_mono (by omega) (L.ba k)
    · unfold zle;simp
  rw [hd]
  simp only [Option.bind_some]
  have lp : (padZ a (cv a (nums c)).length).length = (cv a (nums c)).length:=by unfold padZ;simp
  rw [if_neg (by simp)]
  simp only [List.length_map]
  rw [if_neg (by rw [decide_eq_true_eq];omega)]
  have hcut : cutI ((padZ a (cv a (nums c)).length).map nearP) (a.length : Int) = some a.length:=by
    unfold cutI
    simp only [List.length_map]
    rw [if_pos (by omega)]
    rfl
  rw [hcut]
  simp only [Option.bind_some]
  have htk : ((padZ a (cv a (nums c)).length).map nearP).take a.length = a.map nearP:=by
    rw [← List.map_take]
    congr 1
    apply List.ext_getElem?
    intro k
    rw [List.getElem?_take]
    by_cases hk : k < a.length
    · rw [if_pos hk,at0_get hk,at0_get (by omega),padZ_at,if_pos (by omega)]
    · rw [if_neg hk,List.getElem?_eq_none (by omega)]
  have sa:=small_at (w:=a) (fun k=>zle_mono (by omega) (L.ba k))
  rw [htk,same_refl _ (by simp;omega) (fun p hp=>by
    obtain ⟨z,hz,rfl⟩:=List.mem_map.1 hp
    exact ⟨z,pv_near (sa z hz)⟩)]
  simp only [Option.bind_some,if_true]
  have r3 : run (law04_PulseDivides_l3 ((padZ a (cv a (nums c)).length).map nearP)) (a.length : Int) = some (.inr ()):=by
    have key:=run_iter (step:=law04_PulseDivides_l3 ((padZ a (cv a (nums c)).length).map nearP)) (st:=fun k (_ : Unit)=>((a.length + k : Nat) : Int)) (g:=fun _ x=>x) (fin:=fun _=>(.inr () : Unit ⊕ Unit)) ((cv a (nums c)).length - a.length) (fun _ _=>True) (b0:=()) trivial
      (fun k _ hk _=>⟨by
        have hg : ((padZ a (cv a (nums c)).length).map nearP)[a.length + k]? = some (nearP (0,0)):=by
          rw [List.getElem?_map,at0_get (by omega),padZ_at,if_pos (by omega),at0_out (by omega)]
          rfl
        have z0 : PV (0,0) (0,0):=by
          have h:=sv_near24 (x:=0) (by decide)
          have e : FloatKind.f32.nearest 0 = 0:=by decide +kernel
          rw [e] at h
          exact ⟨h,h⟩
        unfold law04_PulseDivides_l3
        simp only [List.length_map]
        rw [if_pos (by rw [decide_eq_true_eq];omega),getI_nat,hg]
        simp only [Option.bind_some]
        have hc:=ceq_sv (p:=nearP (0,0)) (q:=(0,0)) (pv_near (by unfold small;simp)) z0
        rw [if_pos hc,wsucc (n:=4096) (by omega) (by decide)]
        rfl,trivial⟩) (fun _ _=>by
        unfold law04_PulseDivides_l3
        simp only [List.length_map]
        rw [if_neg (by rw [decide_eq_true_eq];omega)])
    exact key.1
  rw [r3]
  rfl

end Go.Rex

namespace Go.Rex
open Go Go.ChangeShapes Go.WideShapes Go.ChangeAt Go.RowKit Go.Joins Go.Proofs
/-! ### arguments: what they are as trees,and the names of their blocks -/
structure Arg (W : World) (v' : Value) (p : TV) (bs : List Blk) (is : List Info) (av : Nat → Value) : Prop where
  vr : ∀ (D : Nat → Prop) (m : NMap) n,(∀ j,j < bs.length → D (n + j)) → (∀ (j : Nat) i,is[j]? = some i → m (n + j) = i) → VR D m (av n) v'
  vl : ∀ (Fz : Nat → Prop) (h : List Blk) n,(∀ j,j < bs.length → Fz (n + j)) → (∀ (j : Nat) b,bs[j]? = some b → h[n + j]? = some b) → VL Fz h noL p (av n)
  ok : ∀ (D : Nat → Prop) (m : NMap) n,(∀ j,j < bs.length → D (n + j)) → (∀ (j : Nat) i,is[j]? = some i → m (n + j) = i) → ∀ (j : Nat) b,bs[j]? = some b → BlkOk D m W (n + j) b
  lt : ∀ (j : Nat) b i,bs[j]? = some b → is[j]? = some i → b ≠ .dead → i.block < W.heap.size
  len : is.length = bs.length
structure Args (W : World) (vs' : List Value) (ps : List TV) (bs : List Blk) (is : List Info) (av : Nat → List Value) : Prop where
  vr : ∀ (D : Nat → Prop) (m : NMap) n,(∀ j,j < bs.length → D (n + j)) → (∀ (j : Nat) i,is[j]? = some i → m (n + j) = i) → VRs D m (av n) vs'
  vl : ∀ (Fz : Nat → Prop) (h : List Blk) n,(∀ j,j < bs.length → Fz (n + j)) → (∀ (j : Nat) b,bs[j]? = some b → h[n + j]? = some b) → VLs Fz h noL ps (av n)
  ok : ∀ (D : Nat → Prop) (m : NMap) n,(∀ j,j < bs.length → D (n + j)) → (∀ (j : Nat) i,is[j]? = some i → m (n + j) = i) → ∀ (j : Nat) b,bs[j]? = some b → BlkOk D m W (n + j) b
  lt : ∀ (j : Nat) b i,bs[j]? = some b → is[j]? = some i → b ≠ .dead → i.block < W.heap.size
  len : is.length = bs.length
/-- the names of the arguments -/
def nm (is : List Info) : NMap:=fun n=>is.getD n ⟨0,0,0,0⟩
section
variable {W : World} {vs' : List Value} {ps : List TV} {bs : List Blk} {is : List Info} {av : Nat → List Value}
end
theorem len2 {α : Type} {l : List α} (h : l.length = 2) : ∃ x0 x1,l = [x0,x1]:=by
  match l,h with
  | [x0,x1],_=>exact ⟨_,_,rfl⟩
/-! ### arguments without names -/
def AtomV (c : Value) : Prop:=isAtom c = true ∧ ∀ D m,VR D m c c
theorem atomV_int (k : IntKind) (n : Int) : AtomV (.int k n):=⟨rfl,fun _ _=>.int _ _⟩
theorem Arg.agg {W : World} {l : List Value} (h : ∀ c ∈ l,AtomV c) : Arg W (.agg ⟨l⟩) (.agg (l.map .v)) [] [] (fun _=>.agg ⟨l⟩):=by
  refine ⟨fun _ _ _ _ _=>.agg _ _ rfl fun i v v' hv hv'=>?_,fun _ _ _ _ _=>.agg _ _ _ (by simp) fun i p x hp hx=>?_,fun _ _ _ _ _ j b h=>by simp at h,fun j b i h=>by simp at h,rfl⟩
  · obtain rfl : v = v':=Option.some.inj (hv.symm.trans hv')
    exact (h v (List.mem_of_getElem? hv)).2 _ _
  · rw [List.getElem?_map,hx] at hp
    obtain rfl:=Option.some.inj hp
    exact .v _ _ (h x (List.mem_of_getElem? hx)).1
/-! ### a slice of rows -/
theorem flatMap_at {α β : Type} {g : α → List β} {es : Nat} (hg : ∀ x,(g x).length = es) (he : 0 < es) : ∀ (xs : List α) i,(xs.flatMap g)[i]? = (xs[i / es]?).bind fun x=>(g x)[i % es]?
  | [],i=>by simp
  | x :: t,i=>by
    rw [List.flatMap_cons]
    rcases Nat.lt_or_ge i es with h|h
    · rw [List.getElem?_append_left (by rw [hg];exact h),Nat.div_eq_of_lt h,Nat.mod_eq_of_lt h]
      rfl
    · rw [List.getElem?_append_right (by rw [hg];exact h),hg,flatMap_at hg he t (i - es)]
      have e1 : i / es = (i - es) / es + 1:=by rw [Nat.div_eq_sub_div he h]
      have e2 : i % es = (i - es) % es:=Nat.mod_eq_sub_mod h
      rw [e1,e2]
      rfl
theorem flatMap_len {α β : Type} {g : α → List β} {es : Nat} (hg : ∀ x,(g x).length = es) : ∀ (xs : List α),(xs.flatMap g).length = xs.length * es
  | []=>by simp
  | x :: t=>by rw [List.flatMap_cons,List.length_append,hg,flatMap_len hg t,List.length_cons,Nat.add_mul];omega
theorem flatMap_map {α : Type} {f : α → List TV} {g : α → List Value} (hf : ∀ x,f x = (g x).map .v) : ∀ (xs : List α),(xs.map f).flatten = (xs.flatMap g).map .v
  | []=>rfl
  | x :: t=>by rw [List.map_cons,List.flatten_cons,flatMap_map hf t,List.flatMap_cons,List.map_append,hf]
theorem choose_list {α : Type} {Q : Nat → α → Prop} : ∀ n,(∀ i,i < n → ∃ x,Q i x) → ∃ xs : List α,xs.length = n ∧ ∀ (i : Nat) x,xs[i]? = some x → Q i x
  | 0,_=>⟨[],rfl,fun i x h=>by simp at h⟩
  | n + 1,h=>by
    obtain ⟨xs,hl,hq⟩:=choose_list n (fun i hi=>h i (by omega))
    obtain ⟨x,hx⟩:=h n (by omega)
    refine ⟨xs ++ [x],by simp [hl],fun i y hy=>?_⟩
    rcases Nat.lt_or_ge i n with hi|hi
    · rw [List.getElem?_append_left (by omega)] at hy
      exact hq i y hy
    · rw [List.getElem?_append_right (by omega),hl] at hy
      have : i = n:=by
        rcases Nat.lt_or_ge 0 (i - n) with g|g
        · rw [List.getElem?_eq_none (by simp;omega)] at hy;cases hy
        · omega
      subst this
      simp at hy
      subst hy
      exact hx
section
variable {H : Type} {enc : TypeId × Value → H} {W : World} {base : Nat} {spare : Nat → Bool} {held : Bool}
theorem open_rowsC {α : Type} {f : α → List TV} {g : α → List Value} {es : Nat} (he : 0 < es) (hf : ∀ x, f x = (g x).map .v) (hg : ∀ x, (g x).length = es) (hat : ∀ x, ∀ c ∈ g x, AtomV c)
    {P : Program} {t te : TypeId} (ht : P.underlying t = some (.slice te)) (hC : P.cellsOf te = es) {r : Reach} {b0 : Nat} {v' : Value} (hval : Cell.okWide P W r b0 t v')
    (elem : ∀ n cs y,DataW.trod enc P W base spare held n te cs = some y → cs.length = es → ∃ x : α,cs = g x)
    {fuel : Nat} {x : DataW H × List MemPlace} (h : DataW.trod enc P W base spare held fuel t [v'] = some x) : ∃ (xs : List α) (bs : List Blk) (is : List Info) (av : Nat → Value),Arg W v' (.list es (xs.map f)) bs is av:=by
  rcases DataW.trod_slice ht h with ⟨hv,_⟩|⟨a,len,cap,elems,rest,n,_,hv,_,hb,hlc,hcm,hel,hel2,_,_⟩
  · obtain rfl : v' = .slice none 0 0:=by simpa using hv
    exact ⟨[],[],[],fun _=>.slice none 0 0,fun _ _ _ _ _=>.nilSlice 0 0,fun _ _ _ _ _=>.nillist _ _,fun _ _ _ _ _ j b h=>by simp at h,fun j b i h=>by simp at h,rfl⟩
  · obtain rfl : v' = .slice (some a) len cap:=by simpa using hv
    have hok : len ≤ cap ∧ (cap : Int) ≤ IntKind.i64.max ∧ W.has P r b0 a te cap:=by
      unfold Cell.okWide at hval
      simp only [ht] at hval
      unfold Cell.ok at hval
      simpa only [ht] using hval
    obtain ⟨gb,o,s⟩:=a
    obtain ⟨_,_,_,hs,row,cells,hsh,_⟩:=hok
    simp only at hs hsh
    subst hs
    have hgb : gb < W.heap.size:=by
      unfold World.shape? at hsh
      rcases Nat.lt_or_ge gb W.heap.size with hg|hg
      · exact hg
      · rw [Array.getElem?_eq_none hg] at hsh
        simp at hsh
    have key : ∀ i,i < len → ∃ x : α,∀ j,j < es → W.cell? ⟨gb,o + i * es + j,none⟩ = (g x)[j]?:=fun i hi=>by
      have h1:=hel2 i hi
      rw [List.getElem?_eq_getElem (by omega),Option.bind_eq_some_iff] at h1
      obtain ⟨cs,hcs,htr⟩:=h1
      rw [hC] at hcs
      unfold World.cells? at hcs
      split at hcs
      · have hlen:=mapM_some_length hcs
        simp at hlen
        obtain ⟨x,rfl⟩:=elem n cs _ htr hlen
        refine ⟨x,fun j hj=>?_⟩
        have:=mapM_some_get hcs j j (by simp [hj])
        have e : ((⟨gb,o,none⟩ : Addr).add (i * es)).add j = ⟨gb,o + i * es + j,none⟩:=by
          unfold Addr.add
          split<;>split<;>simp_all
        rw [← e]
        exact this
      · cases hcs
    obtain ⟨xs,hl,hq⟩:=choose_list len key
    subst hl
    have hlen:=flatMap_len hg xs
    have hfl:=flatMap_map hf xs
    refine ⟨xs,[.cells es (xs.flatMap g)],[⟨gb,o,cap * es,es⟩],fun n=>.slice (some ⟨n,0,none⟩) xs.length xs.length,fun D m n hD hm=>?_,fun Fz h n hF hh=>?_,fun D m n hD hm j b hb=>?_,fun j b i hb hi hd=>?_,rfl⟩
    · have e:=hm 0 _ rfl
      rw [Nat.add_zero] at e
      have:=VR.slice (D:=D) (m:=m) n 0 xs.length xs.length cap (hD 0 (by simp)) (Nat.le_refl _) hlc (.inr (by rw [e];simp))
      rw [e] at this
      exact this
    · have hw : ∀ r ∈ xs.map f,r.length = es:=fun r hr=>by obtain ⟨x,_,rfl⟩:=List.mem_map.1 hr;rw [hf,List.length_map,hg]
      have:=VL.list (Fz:=Fz) (h:=h) noL es (xs.map f) n 0 xs.length (xs.flatMap g) es (hF 0 (by simp)) (hh 0 _ rfl) (.inl rfl) hw (by simp) (by rw [List.length_map,hlen];omega) (fun j p x hp hx=>by
        rw [hfl,List.getElem?_map,Option.map_eq_some_iff] at hp
        rw [Nat.zero_add] at hx
        obtain ⟨y,h1,rfl⟩:=hp
        obtain rfl : y = x:=Option.some.inj (h1.symm.trans hx)
        obtain ⟨z,_,hz⟩:=List.mem_flatMap.1 (List.mem_of_getElem? hx)
        exact .v _ _ (hat z y hz).1)
      rw [List.length_map] at this
      exact this
    · match j,hb with
      | 0,hb =>
        obtain rfl:=Option.some.inj hb
        have e:=hm 0 _ rfl
        rw [Nat.add_zero] at e ⊢
        refine ⟨by rw [e],fun i v hv=>⟨v,?_,?_⟩⟩
        · rw [flatMap_at hg he,Option.bind_eq_some_iff] at hv
          obtain ⟨x,hx,hv⟩:=hv
          rw [e]
          have:=hq _ x hx (i % es) (Nat.mod_lt _ he)
          rw [Nat.add_assoc,Nat.mul_comm,Nat.div_add_mod] at this
          rw [this]
          exact hv
        · obtain ⟨z,_,hz⟩:=List.mem_flatMap.1 (List.mem_of_getElem? hv)
          exact (hat z v hz).2 _ _
      | j + 1,hb=>simp at hb
    · match j,hb,hi with
      | 0, hb, hi => obtain rfl := Option.some.inj hi
                     exact hgb
      | j + 1,hb,hi=>simp at hb
theorem open_rows {α : Type} {f : α → List TV} {g : α → List Value} {es : Nat} (he : 0 < es) (hf : ∀ x, f x = (g x).map .v) (hg : ∀ x, (g x).length = es) (hat : ∀ x, ∀ c ∈ g x, AtomV c)
    {P : Program} {t te : TypeId} (ht : P.underlying t = some (.slice te)) (hC : P.cellsOf te = es) {r : Reach} {b0 : Nat} {v' : Value} (hval : Value.okWide P W r b0 t v')
    (elem : ∀ n cs y,DataW.trod enc P W base spare held n te cs = some y → cs.length = es → ∃ x : α,cs = g x)
    {fuel : Nat} {x : DataW H × List MemPlace} (h : DataW.trod enc P W base spare held fuel t [v'] = some x) : ∃ (xs : List α) (bs : List Blk) (is : List Info) (av : Nat → Value),Arg W v' (.list es (xs.map f)) bs is av:=by
  refine open_rowsC he hf hg hat ht hC (r:=r) (b0:=b0) ?_ elem h
  unfold Value.okWide at hval
  simpa only [ht] using hval
/-! ### aggregates of ints -/
def AI (cs : List Value) : Prop:=∀ c ∈ cs,∃ n : Int,c = .int .i64 n
theorem AI.list {cs : List Value} (h : AI cs) : ∃ l : List Int,cs = l.map (.int .i64):=by
  induction cs with
  | nil=>exact ⟨[],rfl⟩
  | cons c t ih =>
    obtain ⟨n,rfl⟩:=h c (by simp)
    obtain ⟨l,rfl⟩:=ih fun c hc=>h c (by simp [hc])
    exact ⟨n :: l,rfl⟩
variable {P : Program}
theorem ai_int {te : TypeId} (ht : P.underlying te = some (.int .i64)) {fuel : Nat} {cs : List Value} {x : DataW H × List MemPlace} (h : DataW.trod enc P W base spare held fuel te cs = some x) : AI cs:=by
  obtain ⟨n,rfl,_⟩:=DataW.trod_int ht h
  exact fun c hc=>⟨n,by simpa using hc⟩
theorem ai_arr {t e : TypeId} {m k : Nat} (ht : P.underlying t = some (.array m e)) (hk : P.cellsOf e = k) (hk0 : 0 < k) (hc : P.cellsOf t = m * k) (he : ∀ n cs y, DataW.trod enc P W base spare held n e cs = some y → AI cs)
    {fuel : Nat} {cs : List Value} {x : DataW H × List MemPlace} (h : DataW.trod enc P W base spare held fuel t cs = some x) : AI cs:=by
  obtain ⟨xs,n,_,_,hl,hx,hi⟩:=DataW.trod_array ht h
  intro c hcm
  obtain ⟨j,hj,rfl⟩:=List.mem_iff_getElem.1 hcm
  rw [hl,hc] at hj
  have hd : j / k < m:=(Nat.div_lt_iff_lt_mul hk0).2 hj
  have h1:=hi _ hd
  rw [List.getElem?_eq_getElem (by omega),hk] at h1
  refine he _ _ _ h1 _ ?_
  refine List.mem_of_getElem? (i:=j % k) ?_
  rw [List.getElem?_take,if_pos (Nat.mod_lt _ hk0),List.getElem?_drop,Nat.mul_comm,Nat.div_add_mod,List.getElem?_eq_getElem]
theorem okW_int {t : TypeId} (ht : P.underlying t = some (.int .i64)) {r : Reach} {b : Nat} {v : Value} (w : Cell.okWide P W r b t v) : ∃ n : Int,v = .int .i64 n:=by
  unfold Cell.okWide at w
  simp only [ht] at w
  unfold Cell.ok at w
  simp only [ht] at w
  cases v<;>first|exact ⟨_,by rw [w.1]⟩|exact absurd w (by simp)
theorem open_ari {t ti e : TypeId} {k n : Nat} (ht : P.underlying t = some (.array k e)) (hti : P.underlying ti = some (.int .i64)) (hct : P.cellTypes P.depth t = some (List.replicate n ti)) (hn : P.cellsOf t = n)
    {r : Reach} {b : Nat} {v : Value} (w : Value.okWide P W r b t v) : ∃ l : List Int,l.length = n ∧ v = .agg ⟨l.map (.int .i64)⟩:=by
  unfold Value.okWide at w
  simp only [ht] at w
  obtain ⟨cs,rfl,hs,ts,hts,_,hc⟩:=w
  rw [hct] at hts
  obtain rfl:=Option.some.inj hts
  obtain ⟨l⟩:=cs
  have : AI l:=by
    intro c hcm
    obtain ⟨j,hj,rfl⟩:=List.mem_iff_getElem.1 hcm
    obtain ⟨u,hu,hok⟩:=hc j l[j] (by simp)
    have:=List.eq_of_mem_replicate (List.mem_of_getElem? hu)
    subst this
    exact okW_int hti hok
  obtain ⟨l',rfl⟩:=this.list
  refine ⟨l',?_,rfl⟩
  simpa [hn] using hs
theorem arg_ints (l : List Int) : Arg W (.agg ⟨l.map (.int .i64)⟩) (.agg (l.map fun x=>.v (.int .i64 x))) [] [] (fun _=>.agg ⟨l.map (.int .i64)⟩):=by
  have:=Arg.agg (W:=W) (l:=l.map (.int .i64)) fun c hc=>by obtain ⟨x,_,rfl⟩:=List.mem_map.1 hc;exact atomV_int _ _
  rwa [List.map_map] at this
end
end Go.Rex

namespace Go.Rex
open Go Go.ChangeShapes Go.WideShapes Go.ChangeAt Go.RowKit Go.Joins Go.Proofs
/-! ### arguments whose blocks name one another: lists of lists -/
structure NArg (W : World) (v' : Value) (p : TV) (bs : Nat → List Blk) (is : List Info) (av : Nat → Value) : Prop where
  vr : ∀ (D : Nat → Prop) (m : NMap) n,(∀ j,j < is.length → D (n + j)) → (∀ (j : Nat) i,is[j]? = some i → m (n + j) = i) → VR D m (av n) v'
  vl : ∀ (Fz : Nat → Prop) (h : List Blk) n,(∀ j,j < is.length → Fz (n + j)) → (∀ (j : Nat) b,(bs n)[j]? = some b → h[n + j]? = some b) → VL Fz h noL p (av n)
  ok : ∀ (D : Nat → Prop) (m : NMap) n,(∀ j,j < is.length → D (n + j)) → (∀ (j : Nat) i,is[j]? = some i → m (n + j) = i) → ∀ (j : Nat) b,(bs n)[j]? = some b → BlkOk D m W (n + j) b
  lt : ∀ n (j : Nat) b i,(bs n)[j]? = some b → is[j]? = some i → b ≠ .dead → i.block < W.heap.size
  len : ∀ n,(bs n).length = is.length
structure NArgs (W : World) (vs' : List Value) (ps : List TV) (bs : Nat → List Blk) (is : List Info) (av : Nat → List Value) : Prop where
  vr : ∀ (D : Nat → Prop) (m : NMap) n,(∀ j,j < is.length → D (n + j)) → (∀ (j : Nat) i,is[j]? = some i → m (n + j) = i) → VRs D m (av n) vs'
  vl : ∀ (Fz : Nat → Prop) (h : List Blk) n,(∀ j,j < is.length → Fz (n + j)) → (∀ (j : Nat) b,(bs n)[j]? = some b → h[n + j]? = some b) → VLs Fz h noL ps (av n)
  ok : ∀ (D : Nat → Prop) (m : NMap) n,(∀ j,j < is.length → D (n + j)) → (∀ (j : Nat) i,is[j]? = some i → m (n + j) = i) → ∀ (j : Nat) b,(bs n)[j]? = some b → BlkOk D m W (n + j) b
  lt : ∀ n (j : Nat) b i,(bs n)[j]? = some b → is[j]? = some i → b ≠ .dead → i.block < W.heap.size
  len : ∀ n,(bs n).length = is.length
theorem Arg.n {W : World} {v' : Value} {p : TV} {bs : List Blk} {is : List Info} {av : Nat → Value} (a : Arg W v' p bs is av) : NArg W v' p (fun _=>bs) is av :=
  ⟨fun D m n hD hm=>a.vr D m n (by rw [← a.len];exact hD) hm,fun Fz h n hF hh=>a.vl Fz h n (by rw [← a.len];exact hF) hh,fun D m n hD hm=>a.ok D m n (by rw [← a.len];exact hD) hm,fun _=>a.lt,fun _=>a.len.symm⟩
theorem NArgs.nil (W : World) : NArgs W [] [] (fun _=>[]) [] (fun _=>[]) :=
  ⟨fun _ _ _ _ _=>⟨rfl,fun i a a' h=>by simp at h⟩,fun _ _ _ _ _=>.nil,fun _ _ _ _ _ j b h=>by simp at h,fun _ j b i h=>by simp at h,fun _=>rfl⟩
theorem NArgs.cons {W : World} {v' : Value} {p : TV} {bs bs2 : Nat → List Blk} {is is2 : List Info} {av : Nat → Value} {vs' : List Value} {ps : List TV} {avs : Nat → List Value}
    (a : NArg W v' p bs is av) (az : NArgs W vs' ps bs2 is2 avs) : NArgs W (v' :: vs') (p :: ps) (fun n=>bs n ++ bs2 (n + is.length)) (is ++ is2) (fun n=>av n :: avs (n + is.length)):=by
  have cD : ∀ (D : Nat → Prop) n,(∀ j,j < (is ++ is2).length → D (n + j)) → (∀ j,j < is.length → D (n + j)) ∧ (∀ j,j < is2.length → D (n + is.length + j)):=by
    intro D n h
    refine ⟨fun j hj=>h j (by simp;omega),fun j hj=>?_⟩
    have:=h (is.length + j) (by simp;omega)
    rwa [← Nat.add_assoc] at this
  have cI : ∀ (m : NMap) n,(∀ (j : Nat) i,(is ++ is2)[j]? = some i → m (n + j) = i) → (∀ (j : Nat) i,is[j]? = some i → m (n + j) = i) ∧ (∀ (j : Nat) i,is2[j]? = some i → m (n + is.length + j) = i):=by
    intro m n h
    refine ⟨fun j i hj=>h j i (by rw [List.getElem?_append_left (List.getElem?_eq_some_iff.1 hj).1];exact hj),fun j i hj=>?_⟩
    have:=h (is.length + j) i (by rw [List.getElem?_append_right (by omega),Nat.add_sub_cancel_left];exact hj)
    rwa [← Nat.add_assoc] at this
  refine ⟨fun D m n hD hm=>?_,fun Fz h n hF hh=>?_,fun D m n hD hm j b hb=>?_,fun n j b i hb hi hd=>?_,fun n=>by simp [a.len,az.len]⟩
  · have h1:=a.vr D m n (cD D n hD).1 (cI m n hm).1
    have h2:=az.vr D m (n + is.length) (cD D n hD).2 (cI m n hm).2
    refine ⟨by simp [h2.len],fun i x x' hx hx'=>?_⟩
    cases i with
    | zero=>simp at hx hx';subst hx hx';exact h1
    | succ i=>simp at hx hx';exact h2.at' i x x' hx hx'
  · refine .cons (a.vl Fz h n (cD Fz n hF).1 fun j b hb=>hh j b (by rw [List.getElem?_append_left (List.getElem?_eq_some_iff.1 hb).1];exact hb)) (az.vl Fz h (n + is.length) (cD Fz n hF).2 fun j b hb=>?_)
    have:=hh (is.length + j) b (by rw [List.getElem?_append_right (by rw [a.len];omega),a.len,Nat.add_sub_cancel_left];exact hb)
    rwa [← Nat.add_assoc] at this
  · rcases Nat.lt_or_ge j is.length with hj|hj
    · rw [List.getElem?_append_left (by rw [a.len];exact hj)] at hb
      exact a.ok D m n (cD D n hD).1 (cI m n hm).1 j b hb
    · rw [List.getElem?_append_right (by rw [a.len];exact hj),a.len] at hb
      have:=az.ok D m (n + is.length) (cD D n hD).2 (cI m n hm).2 _ b hb
      rwa [show n + is.length + (j - is.length) = n + j by omega] at this
  · rcases Nat.lt_or_ge j is.length with hj|hj
    · rw [List.getElem?_append_left (by rw [a.len];exact hj)] at hb
      rw [List.getElem?_append_left hj] at hi
      exact a.lt n j b i hb hi hd
    · rw [List.getElem?_append_right (by rw [a.len];exact hj),a.len] at hb
      rw [List.getElem?_append_right hj] at hi
      exact az.lt _ _ b i hb hi hd
section
variable {W : World} {vs' : List Value} {ps : List TV} {bs : Nat → List Blk} {is : List Info} {av : Nat → List Value}
/-- the names of the variables of packages come first -/
def gnm (is : List Info) : NMap:=fun k=>if k < NG then gm k else is.getD (k - NG) ⟨0,0,0,0⟩
theorem gnm_at {is : List Info} {j : Nat} {i : Info} (h : is[j]? = some i) : gnm is (NG + j) = i:=by
  unfold gnm
  rw [if_neg (by omega),Nat.add_sub_cancel_left,List.getD_eq_getElem?_getD,h]
  rfl
theorem gh_len : GH.length = NG:=rfl
theorem NArgs.rel (a : NArgs W vs' ps bs is av) (hw : GW W) (hs : NG ≤ W.heap.size) : Rel W.heap.size (GH ++ bs NG).length (fun k=>k < (GH ++ bs NG).length) (gnm is) (GH ++ bs NG) W:=by
  have hl:=a.len NG
  have hn : (GH ++ bs NG).length = NG + is.length:=by rw [List.length_append,gh_len,hl]
  have old : ∀ k,k < NG → gnm is k = gm k:=fun k hk=>if_pos hk
  have parts : ∀ n b,n < (GH ++ bs NG).length → (GH ++ bs NG)[n]? = some b → (n < NG ∧ GH[n]? = some b) ∨ ∃ j,n = NG + j ∧ (bs NG)[j]? = some b:=by
    intro n b hn' hb
    rcases Nat.lt_or_ge n NG with h|h
    · rw [List.getElem?_append_left h] at hb;exact .inl ⟨h,hb⟩
    · rw [List.getElem?_append_right h,gh_len] at hb;exact .inr ⟨n - NG,by omega,hb⟩
  have st:=Rel.start W hw hs
  have lt : ∀ n b,n < (GH ++ bs NG).length → (GH ++ bs NG)[n]? = some b → b ≠ .dead → (gnm is n).block < W.heap.size:=by
    intro n b hn' hb hd
    rcases parts n b hn' hb with ⟨h1,h2⟩|⟨j,rfl,h2⟩
    · rw [old n h1];exact st.lt n b h1 h2 hd
    · have hj : j < is.length:=by omega
      rw [gnm_at (List.getElem?_eq_getElem hj)]
      exact a.lt NG j b _ h2 (List.getElem?_eq_getElem hj) hd
  refine ⟨Nat.le_refl _,fun _ h=>h,fun n b hn' hb=>?_,lt,fun n b hD hl=>absurd hD (by omega),fun n b hn' _ hb hd=>lt n b hn' hb hd,fun n b hD hl=>absurd hD (by omega),fun n n' b b' hD _ hl=>absurd hD (by omega),⟨fun g hg=>⟨?_,?_⟩,hs,hw⟩⟩
  · rcases parts n b hn' hb with ⟨h1,h2⟩|⟨j,rfl,h2⟩
    · exact (st.ok n b h1 h2).mono (fun k hk=>by have hk' : k < NG:=hk;show k < (GH ++ bs NG).length;omega) (fun k hk=>old k hk) (old n h1)
    · exact a.ok (fun k=>k < (GH ++ bs NG).length) (gnm is) NG (fun j hj=>by omega) (fun j i hi=>gnm_at hi) j b h2
  · show g < (GH ++ bs NG).length;omega
  · rw [old g hg];exact gm_at g
theorem NArgs.vls (a : NArgs W vs' ps bs is av) : VLs (fun k=>k < (GH ++ bs NG).length) (GH ++ bs NG) noL ps (av NG):=by
  have hn : (GH ++ bs NG).length = NG + is.length:=by rw [List.length_append,gh_len,a.len NG]
  exact a.vl _ _ NG (fun j hj=>by omega) (fun j b hb=>by rw [List.getElem?_append_right (by rw [gh_len];omega),gh_len,Nat.add_sub_cancel_left];exact hb)
theorem NArgs.fz (_a : NArgs W vs' ps bs is av) : FZ (fun k=>k < (GH ++ bs NG).length) (GH ++ bs NG) :=
  ⟨fun _ h=>h,fun g hg=>by
    have h1 : g < GH.length:=hg
    exact ⟨by rw [List.length_append];omega,List.getElem?_append_left h1⟩⟩
theorem NArgs.vrs (a : NArgs W vs' ps bs is av) : VRs (fun k=>k < (GH ++ bs NG).length) (gnm is) (av NG) vs':=by
  have hn : (GH ++ bs NG).length = NG + is.length:=by rw [List.length_append,gh_len,a.len NG]
  exact a.vr _ _ NG (fun j hj=>by omega) (fun j i hi=>gnm_at hi)
end
section
variable {H : Type} {enc : TypeId × Value → H} {W : World} {base : Nat} {spare : Nat → Bool} {held : Bool}
end

section
variable {H : Type} {enc : TypeId × Value → H} {W : World} {base : Nat} {spare : Nat → Bool} {held : Bool}
end
/-! ### aggregates of floats -/
section
variable {H : Type} {enc : TypeId × Value → H} {W : World} {base : Nat} {spare : Nat → Bool} {held : Bool} {P : Program} {k0 : FloatKind}
end
end Go.Rex
