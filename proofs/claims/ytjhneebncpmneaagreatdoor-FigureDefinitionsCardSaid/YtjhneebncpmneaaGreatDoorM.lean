/- What these functions return: facts on lists and numbers. -/
import Derived.Test.YtjhneebncpmneaaGreatDoorRexG9
import Derived.Test.YtjhneebncpmneaaGreatDoorS
import Derived.ProofKit
import Derived.OpenShut
import Derived.ShutString
import Derived.ChangeOld
import Derived.Below
import Derived.Lib.SmallJoins
import Derived.ChangeShapes
import Derived.ChangeArms
import Derived.WideShapes
import Derived.Lay
import Derived.MakeChecks
import Derived.SevenTiedAt
set_option linter.unusedSimpArgs false
set_option linter.unusedVariables false
set_option linter.defProp false
set_option linter.unusedSectionVars false
namespace Go.Rex
open Go.RowKit
/-! ## whole floats -/
structure FOk (f : Ieee.Format) (q : Nat) : Prop where
  lp : f.leastPlace = -(q : Int)
  le : f.fractionBits + 1 ≤ q
  inf : (q + 2) * f.binade ≤ f.infRung
  sgn : f.infRung < f.signWeight
def fb : FloatKind → Nat
  | .f32=>23
  | .f64=>52
theorem cut_zero (n : Nat) (neg : Bool) : Ieee.Toward.cut .even neg n 0 = n:=by
  simp [Ieee.Toward.cut,Nat.mod_one]
theorem shl (m s : Nat) : m <<< s = m * 2 ^ s:=Nat.shiftLeft_eq m s
theorem log2_mul {m : Nat} (hm : m ≠ 0) (s : Nat) : (m * 2 ^ s).log2 = m.log2 + s:=by
  rw [Nat.log2_eq_iff (by have:=Nat.two_pow_pos s;exact Nat.mul_ne_zero hm (by omega))]
  have h1:=(Nat.log2_eq_iff hm).1 rfl
  constructor
  · rw [Nat.pow_add];exact Nat.mul_le_mul_right _ h1.1
  · rw [show m.log2 + s + 1 = m.log2 + 1 + s by omega,Nat.pow_add];exact Nat.mul_lt_mul_of_pos_right h1.2 (Nat.two_pow_pos s)
theorem cut_exact {m : Nat} (hm : m ≠ 0) (neg : Bool) {s d : Nat} (hd : d ≤ s) (way : Ieee.Toward) : way.cut neg (m * 2 ^ s) d = m * 2 ^ (s - d):=by
  have hg : min d ((m * 2 ^ s).log2 + 2) = d:=by rw [log2_mul hm];omega
  have e : m * 2 ^ s = 2 ^ d * (m * 2 ^ (s - d)):=by
    rw [Nat.mul_comm (2 ^ d),Nat.mul_assoc,← Nat.pow_add,Nat.sub_add_cancel hd]
  have hp:=Nat.two_pow_pos d
  unfold Ieee.Toward.cut
  rw [hg,shl,Nat.one_mul,e]
  dsimp only
  rw [Nat.mul_div_cancel_left _ hp,Nat.mul_mod_right]
  have : (2 ^ d == 0) = false:=by simp
  cases way<;>simp [this]
theorem cut_exact0 (neg : Bool) {d : Nat} (way : Ieee.Toward) : way.cut neg 0 d = 0:=by
  unfold Ieee.Toward.cut
  have hp : 0 < 1 <<< min d ((0 : Nat).log2 + 2):=by rw [shl,Nat.one_mul];exact Nat.two_pow_pos _
  have : (1 <<< min d ((0 : Nat).log2 + 2) == 0) = false:=by rw [beq_eq_false_iff_ne];omega
  cases way<;>simp [this]
theorem log2_lt {m b : Nat} (hm : m ≠ 0) (h : m < 2 ^ (b + 1)) : m.log2 ≤ b:=by
  have:=(Nat.log2_lt hm).2 h
  omega
def sg (s : Bool) (m : Nat) : Int:=if s then -(m : Int) else m
theorem signed_eq (s : Bool) (m u : Nat) : Ieee.signed s m u = sg s m * 2 ^ u:=by
  unfold Ieee.signed sg
  rw [shl]
  cases s<;>simp [Int.neg_mul]
/-- a whole float: a sign and a size -/
def fz (k : FloatKind) (s : Bool) (m : Nat) : Nat:=k.encode (.number s m 0)
theorem sg_mul (s : Bool) (m n : Nat) : sg s (m * n) = sg s m * n:=by cases s<;>simp [sg,Int.neg_mul]
theorem sg_abs (s : Bool) (m : Nat) : (sg s m).natAbs = m:=by cases s<;>simp [sg]
theorem far_of {op : BinOp} {k : FloatKind} {a b r : Nat} (h : farith0 op k a b = some r) : farith op k a b = some r:=by
  unfold farith arN
  rw [h]
  rfl
end Go.Rex

open Go Go.Rex
namespace Go.Rex
set_option maxRecDepth 100000
/-! ## numbers as words,at any place -/
theorem dbl : Ieee.double.fractionBits = 52 ∧ Ieee.double.leastPlace = -1074 ∧ Ieee.double.binade = 2 ^ 52 ∧ Ieee.double.infRung = 2047 * Ieee.double.binade ∧ Ieee.double.signWeight = 2048 * Ieee.double.binade:=by decide +kernel
theorem near_at {m : Nat} (hm : m ≠ 0) (hl : m < 2 ^ 53) (neg : Bool) (a : Nat) {e p : Int} (hp : p = e - a) (h1 : -1074 ≤ e + m.log2 - 52) (h2 : e + m.log2 ≤ 1023) :
    Ieee.double.nearest neg (m * 2 ^ a) p = Ieee.double.word neg ((1074 + e + m.log2 - 52).toNat * Ieee.double.binade + m * 2 ^ (52 - m.log2)):=by
  subst hp
  have hL:=log2_lt hm hl
  unfold Ieee.Format.nearest
  rw [if_neg (by have:=Nat.two_pow_pos a;exact Nat.mul_ne_zero hm (by omega)),log2_mul hm,dbl.1,dbl.2.1]
  have e1 : max (e - (a : Int) + ((m.log2 + a : Nat) : Int) - ((52 : Nat) : Int)) (-1074) = e + (m.log2 : Int) - 52:=by omega
  rw [e1]
  have kept : Ieee.Toward.even.cut neg ((m * 2 ^ a) <<< (e - (a : Int) - (e + (m.log2 : Int) - 52)).toNat) (e + (m.log2 : Int) - 52 - (e - (a : Int))).toNat = m * 2 ^ (52 - m.log2):=by
    rcases Nat.lt_or_ge (52 - m.log2) a with h|h
    · have a1 : (e - (a : Int) - (e + (m.log2 : Int) - 52)).toNat = 0:=by omega
      rw [a1,shl,Nat.pow_zero,Nat.mul_one,cut_exact hm neg (by omega)]
      congr 2;omega
    · have a1 : (e - (a : Int) - (e + (m.log2 : Int) - 52)).toNat = 52 - m.log2 - a:=by omega
      have a2 : (e + (m.log2 : Int) - 52 - (e - (a : Int))).toNat = 0:=by omega
      rw [a1,a2,cut_zero,shl,Nat.mul_assoc,← Nat.pow_add]
      congr 2;omega
  dsimp only
  rw [kept]
  have a3 : (e + (m.log2 : Int) - 52 - -1074).toNat = (1074 + e + m.log2 - 52).toNat:=by omega
  rw [a3]
  have hk : m * 2 ^ (52 - m.log2) < 2 * Ieee.double.binade:=by
    have h1:=(Nat.log2_eq_iff hm).1 rfl
    have h2:=Nat.mul_lt_mul_of_pos_right h1.2 (Nat.two_pow_pos (52 - m.log2))
    rw [← Nat.pow_add] at h2
    rw [show m.log2 + 1 + (52 - m.log2) = 53 by omega] at h2
    rw [dbl.2.2.1]
    omega
  rw [dbl.2.2.2.1]
  generalize Ieee.double.binade = B at hk ⊢
  rw [Nat.min_eq_left (by
    have : (1074 + e + (m.log2 : Int) - 52).toNat ≤ 2045:=by omega
    have:=Nat.mul_le_mul_right B this
    omega)]
theorem wd (neg : Bool) (r : Nat) (hr : r < Ieee.double.signWeight) : (Ieee.double.word neg r / Ieee.double.signWeight % 2 == 1) = neg ∧ Ieee.double.word neg r % Ieee.double.signWeight = r:=by
  unfold Ieee.Format.word
  cases neg
  · simp [Nat.div_eq_of_lt hr,Nat.mod_eq_of_lt hr]
  · have hs : 0 < Ieee.double.signWeight:=by omega
    simp only [if_true]
    rw [Nat.add_div_left _ hs,Nat.div_eq_of_lt hr,Nat.add_mod_left,Nat.mod_eq_of_lt hr]
    simp
theorem read_at {m : Nat} (hm : m ≠ 0) (hl : m < 2 ^ 53) (neg : Bool) {e : Int} (h1 : -1074 ≤ e + m.log2 - 52) (h2 : e + m.log2 ≤ 1023) :
    Ieee.double.read (Ieee.double.nearest neg m e) = .number neg (m * 2 ^ (52 - m.log2)) (e - ((52 - m.log2 : Nat) : Int)):=by
  have h0:=near_at hm hl neg 0 (e:=e) (p:=e) (by simp) h1 h2
  rw [Nat.pow_zero,Nat.mul_one] at h0
  rw [h0]
  have hL:=log2_lt hm hl
  have hh:=(Nat.log2_eq_iff hm).1 rfl
  have hB:=dbl.2.2.1
  have hk : m * 2 ^ (52 - m.log2) < 2 * Ieee.double.binade:=by
    have h2:=Nat.mul_lt_mul_of_pos_right hh.2 (Nat.two_pow_pos (52 - m.log2))
    rw [← Nat.pow_add] at h2
    rw [show m.log2 + 1 + (52 - m.log2) = 53 by omega] at h2
    rw [hB]
    omega
  have hk2 : Ieee.double.binade ≤ m * 2 ^ (52 - m.log2):=by
    have h2:=Nat.mul_le_mul_right (2 ^ (52 - m.log2)) hh.1
    rw [← Nat.pow_add] at h2
    rw [show m.log2 + (52 - m.log2) = 52 by omega] at h2
    rw [hB]
    exact h2
  have hB0 : 0 < Ieee.double.binade:=by rw [hB];decide
  generalize hK : m * 2 ^ (52 - m.log2) = K at *
  obtain ⟨j,hj⟩ : ∃ j,K = Ieee.double.binade + j:=⟨K - Ieee.double.binade,by omega⟩
  subst hj
  obtain ⟨q,hq⟩ : ∃ q : Nat,(1074 + e + (m.log2 : Int) - 52).toNat = q:=⟨_,rfl⟩
  rw [hq]
  have hq2 : q ≤ 2045:=by omega
  have hqb:=Nat.mul_le_mul_right Ieee.double.binade hq2
  have hr : q * Ieee.double.binade + (Ieee.double.binade + j) < Ieee.double.signWeight:=by
    rw [dbl.2.2.2.2]
    omega
  unfold Ieee.Format.read
  simp only [(wd neg _ hr).1,(wd neg _ hr).2]
  rw [dbl.2.2.2.1,dbl.2.1]
  generalize Ieee.double.binade = B at *
  rw [if_neg (by omega),if_pos (by omega)]
  have e1 : q * B + (B + j) = B * (q + 1) + j:=by rw [Nat.mul_add,Nat.mul_comm];omega
  have hjb : j < B:=by omega
  rw [e1,Nat.mul_add_mod,Nat.mod_eq_of_lt hjb,Nat.mul_add_div hB0,Nat.div_eq_of_lt hjb]
  congr 1
  omega
/-- zero's word -/
theorem near_0 (neg : Bool) (p : Int) : Ieee.double.nearest neg 0 p = Ieee.double.word neg 0:=by
  unfold Ieee.Format.nearest
  simp
theorem read_0 (neg : Bool) : Ieee.double.read (Ieee.double.word neg 0) = .number neg 0 (-1074):=by
  cases neg<;>decide +kernel
/-! ## which number a datum is -/
/-- the number s m times 2 to the e is the whole number x -/
def NV (s : Bool) (m : Nat) (e : Int) (x : Int) : Prop:=(0 ≤ e ∧ sg s m * 2 ^ e.toNat = x) ∨ (e < 0 ∧ sg s m = x * 2 ^ (-e).toNat)
theorem pow_split (a b : Nat) : (2 : Int) ^ (a + b) = 2 ^ a * 2 ^ b:=Int.pow_add ..
theorem NV.at {s : Bool} {m : Nat} {e x : Int} (h : NV s m e x) {b : Int} (hb : b ≤ e) (hb0 : b ≤ 0) : sg s m * 2 ^ (e - b).toNat = x * 2 ^ (-b).toNat:=by
  rcases h with ⟨h0,h1⟩|⟨h0,h1⟩
  · rw [show (e - b).toNat = e.toNat + (-b).toNat by omega,pow_split,← Int.mul_assoc,h1]
  · rw [h1,show (-b).toNat = (-e).toNat + (e - b).toNat by omega,pow_split,Int.mul_assoc]
theorem NV.of {s : Bool} {m : Nat} {e x b : Int} (hb : b ≤ e) (hb0 : b ≤ 0) (h : sg s m * 2 ^ (e - b).toNat = x * 2 ^ (-b).toNat) : NV s m e x:=by
  have hp : ∀ k : Nat,(0 : Int) < 2 ^ k:=fun k=>Int.pow_pos (by decide)
  by_cases he : 0 ≤ e
  · left
    refine ⟨he,?_⟩
    rw [show (e - b).toNat = e.toNat + (-b).toNat by omega,pow_split,← Int.mul_assoc] at h
    exact Int.eq_of_mul_eq_mul_right (Int.ne_of_gt (hp _)) h
  · right
    refine ⟨by omega,?_⟩
    rw [show (-b).toNat = (-e).toNat + (e - b).toNat by omega,pow_split,← Int.mul_assoc] at h
    exact Int.eq_of_mul_eq_mul_right (Int.ne_of_gt (hp _)) h
theorem cmp_scale (a b : Int) (k : Nat) : compare (a * 2 ^ k) (b * 2 ^ k) = compare a b:=by
  have hp : (0 : Int) < 2 ^ k:=Int.pow_pos (by decide)
  have key : ∀ a b : Int,a * 2 ^ k < b * 2 ^ k ↔ a < b:=fun a b=>Int.mul_lt_mul_right hp
  simp only [compare,compareOfLessAndEq,key]
  have : (a * 2 ^ k = b * 2 ^ k) ↔ a = b:=Int.mul_eq_mul_right_iff (by omega)
  simp only [this]
/-- how numbers compare, over any lower place -/
theorem order_at {s t : Bool} {m n : Nat} {i j b : Int} (hi : b ≤ i) (hj : b ≤ j) : Ieee.Datum.order (.number s m i) (.number t n j) = some (compare (sg s m * 2 ^ (i - b).toNat) (sg t n * 2 ^ (j - b).toNat)):=by
  simp only [Ieee.Datum.order,signed_eq]
  congr 1
  rw [show (i - b).toNat = (i - min i j).toNat + (min i j - b).toNat by omega,show (j - b).toNat = (j - min i j).toNat + (min i j - b).toNat by omega,pow_split,pow_split,← Int.mul_assoc,← Int.mul_assoc,cmp_scale]
theorem nv_order {s t : Bool} {m n : Nat} {i j x y : Int} (h : NV s m i x) (g : NV t n j y) : Ieee.Datum.order (.number s m i) (.number t n j) = some (compare x y):=by
  have hb : min (min i j) 0 ≤ i ∧ min (min i j) 0 ≤ j ∧ min (min i j) 0 ≤ 0:=by omega
  rw [order_at hb.1 hb.2.1,h.at hb.1 hb.2.2,g.at hb.2.1 hb.2.2,cmp_scale]
theorem nv_of_eq {s t : Bool} {m n : Nat} {i j y : Int} (g : NV t n j y) (h : Ieee.Datum.order (.number s m i) (.number t n j) = some .eq) : NV s m i y:=by
  have hb : min (min i j) 0 ≤ i ∧ min (min i j) 0 ≤ j ∧ min (min i j) 0 ≤ 0:=by omega
  rw [order_at hb.1 hb.2.1,g.at hb.2.1 hb.2.2,Option.some.injEq,Int.compare_eq_eq] at h
  exact NV.of hb.1 hb.2.2 h
/-- the same number with other digits -/
theorem NV.shift {s : Bool} {m : Nat} {e x : Int} (a : Nat) : NV s (m * 2 ^ a) (e - a) x ↔ NV s m e x:=by
  have hb : min (e - a) 0 ≤ e ∧ min (e - a) 0 ≤ e - a ∧ min (e - a) 0 ≤ 0:=by omega
  have key : sg s (m * 2 ^ a) * 2 ^ (e - a - min (e - a) 0).toNat = sg s m * 2 ^ (e - min (e - a) 0).toNat:=by
    rw [sg_mul,Int.mul_assoc,Int.natCast_pow]
    congr 1
    show (2 : Int) ^ a * 2 ^ _ = _
    rw [← pow_split]
    congr 1
    omega
  constructor
  · intro h
    exact NV.of hb.1 hb.2.2 (by rw [← key];exact h.at hb.2.1 hb.2.2)
  · intro h
    exact NV.of hb.2.1 hb.2.2 (by rw [key];exact h.at hb.1 hb.2.2)
end Go.Rex

open Go Go.Rex
namespace Go.Rex
set_option maxRecDepth 100000
/-! ## samples: what a word of 32 bits is -/
def MOk (m : Nat) (e : Int) : Prop:=(m = 0 ∧ e = -149) ∨ (m ≠ 0 ∧ m < 2 ^ 24 ∧ -149 ≤ e ∧ e ≤ 104)
theorem sng : Ieee.single.leastPlace = -149 ∧ Ieee.single.binade = 2 ^ 23 ∧ Ieee.single.infRung = 255 * 2 ^ 23:=by decide +kernel
theorem smp_cases (b : Nat) : (∃ s t,Ieee.single.read b = .nan s t) ∨ (∃ s,Ieee.single.read b = .infinity s) ∨ (∃ s m e,Ieee.single.read b = .number s m e ∧ MOk m e):=by
  unfold Ieee.Format.read
  simp only [sng.1,sng.2.1,sng.2.2]
  generalize b % Ieee.single.signWeight = r
  generalize (b / Ieee.single.signWeight % 2 == 1) = s
  split
  · rename_i h
    refine .inr (.inr ⟨_,_,_,rfl,?_⟩)
    by_cases h0 : r = 0
    · exact .inl ⟨h0,rfl⟩
    · exact .inr ⟨h0,by omega,by omega,by omega⟩
  · split
    · refine .inr (.inr ⟨_,_,_,rfl,.inr ⟨by omega,?_,by omega,by omega⟩⟩)
      have:=Nat.mod_lt r (show 0 < 2 ^ 23 by decide)
      omega
    · split
      · exact .inr (.inl ⟨_,rfl⟩)
      · exact .inl ⟨_,_,rfl⟩
theorem near_inv2 {m : Nat} (hm : m ≠ 0) (hl : m < 2 ^ 53) (neg : Bool) (a : Nat) {e p : Int} (hp : p = e - a) (h1 : -1074 ≤ e + m.log2 - 52) (h2 : e + m.log2 ≤ 1023) : Ieee.double.nearest neg (m * 2 ^ a) p = Ieee.double.nearest neg m e:=by
  rw [near_at hm hl neg a hp h1 h2]
  have:=near_at hm hl neg 0 (e:=e) (p:=e) (by simp) h1 h2
  rw [Nat.pow_zero,Nat.mul_one] at this
  exact this.symm
theorem near_word (s : Bool) (m : Nat) (e : Int) : ∃ r,Ieee.double.nearest s m e = Ieee.double.word s r ∧ r ≤ Ieee.double.infRung:=by
  unfold Ieee.Format.nearest
  split
  · exact ⟨0,rfl,Nat.zero_le _⟩
  · exact ⟨_,rfl,Nat.min_le_right _ _⟩
theorem mok_log {m : Nat} {e : Int} (h : m ≠ 0 ∧ m < 2 ^ 24 ∧ -149 ≤ e ∧ e ≤ 104) : -1074 ≤ e + m.log2 - 52 ∧ e + m.log2 ≤ 1023 ∧ m < 2 ^ 53:=by
  have : m.log2 ≤ 23:=log2_lt h.1 h.2.1
  exact ⟨by omega,by omega,by omega⟩
/-- a sample's number as a double -/
structure Dbl (s : Bool) (m : Nat) (e : Int) (v M : Nat) (E : Int) : Prop where
  nr : v = Ieee.double.nearest s m e
  rd : Ieee.double.read v = .number s M E
  nv : ∀ x,NV s M E x ↔ NV s m e x
  lt : M < 2 ^ 53
  hi : E ≤ 104
  sh : (m = 0 ∧ M = 0 ∧ E = -1074) ∨ ∃ t : Nat,m ≠ 0 ∧ M = m * 2 ^ t ∧ E = e - t
theorem dbl_of {s : Bool} {m : Nat} {e : Int} (h : MOk m e) : ∃ M E,Dbl s m e (Ieee.double.nearest s m e) M E:=by
  rcases h with ⟨rfl,rfl⟩|h
  · refine ⟨0,-1074,rfl,by rw [near_0];exact read_0 s,fun x=>?_,by decide,by decide,.inl ⟨rfl,rfl,rfl⟩⟩
    have e0 : sg s 0 = 0:=by cases s<;>rfl
    have hp : ∀ k : Nat,(2 : Int) ^ k ≠ 0:=fun k=>Int.ne_of_gt (Int.pow_pos (by decide))
    unfold NV
    simp only [e0,Int.zero_mul]
    constructor
    · rintro (⟨h,_⟩|⟨_,h⟩)
      · omega
      · right
        refine ⟨by decide,?_⟩
        rcases Int.mul_eq_zero.1 h.symm with h|h
        · rw [h,Int.zero_mul]
        · exact absurd h (hp _)
    · rintro (⟨h,_⟩|⟨_,h⟩)
      · omega
      · right
        refine ⟨by decide,?_⟩
        rcases Int.mul_eq_zero.1 h.symm with h|h
        · rw [h,Int.zero_mul]
        · exact absurd h (hp _)
  · obtain ⟨h1,h2,h3⟩:=mok_log h
    have hlog : m.log2 ≤ 23:=log2_lt h.1 h.2.1
    refine ⟨m * 2 ^ (52 - m.log2),e - ((52 - m.log2 : Nat) : Int),rfl,read_at h.1 h3 s h1 h2,fun x=>NV.shift _,?_,by omega,.inr ⟨52 - m.log2,h.1,rfl,rfl⟩⟩
    have hh:=(Nat.log2_eq_iff h.1).1 rfl
    have h2:=Nat.mul_lt_mul_of_pos_right hh.2 (Nat.two_pow_pos (52 - m.log2))
    rw [← Nat.pow_add] at h2
    rw [show m.log2 + 1 + (52 - m.log2) = 53 by omega] at h2
    exact h2
theorem num_notnan {k : FloatKind} {b : Nat} {s : Bool} {m : Nat} {e : Int} (h : k.format.read b = .number s m e) : nanB k b = false:=by
  cases hq : nanB k b with
  | false=>rfl
  | true =>
    obtain ⟨s',t,e'⟩:=nan_read hq
    rw [h] at e'
    cases e'
theorem f2f_num {b : Nat} {s : Bool} {m : Nat} {e : Int} (hr : Ieee.single.read b = .number s m e) (h : MOk m e) : f2f .f32 b .f64 = some (Ieee.double.nearest s m e):=by
  obtain ⟨M,E,hd⟩:=dbl_of (s:=s) h
  have hn : nanB .f32 b = false:=num_notnan (k:=.f32) hr
  unfold f2f
  rw [if_neg (by decide),hn,if_neg (by decide)]
  have hr' : FloatKind.f32.decode b = .number s m e:=hr
  rw [hr']
  simp only
  have e1 : FloatKind.f64.encode (.number s m e) = Ieee.double.nearest s m e:=rfl
  rw [e1]
  have e2 : FloatKind.f64.decode (Ieee.double.nearest s m e) = .number s M E:=hd.rd
  rw [e2]
  rfl
/-! ### the whole part -/
theorem trI_num {v : Nat} {s : Bool} {M : Nat} {E : Int} (h : Ieee.double.read v = .number s M E) : trI .zero v = some (Ieee.double.nearest s (Ieee.Toward.cut .zero s (M <<< E.toNat) (-E).toNat) 0):=by
  unfold trI
  rw [num_notnan (k:=.f64) h,if_neg (by decide)]
  have h' : FloatKind.f64.decode v = .number s M E:=h
  rw [h']
  rfl
theorem sg_of_nat {s : Bool} {m : Nat} {e x : Int} (h : NV s m e x) : sg s x.natAbs = x:=by
  have key : ∀ (a : Nat) (y : Int),sg s a = y → sg s y.natAbs = y:=fun a y h=>by rw [← h,sg_abs]
  have hp : ∀ k : Nat,(0 : Int) < 2 ^ k:=fun k=>Int.pow_pos (by decide)
  rcases h with ⟨_,h⟩|⟨_,h⟩
  · have : sg s (m * 2 ^ e.toNat) = x:=by rw [sg_mul,← h,Int.natCast_pow];rfl
    exact key _ _ this
  · have h2 : 0 ≤ sg s 1 * x := by
      have h3 : sg s m = sg s 1 * (m : Int):=by cases s<;>simp [sg]
      have h4 : (0 : Int) ≤ sg s 1 * (x * 2 ^ (-e).toNat):=by rw [← h,h3];cases s<;>simp [sg]
      rw [← Int.mul_assoc] at h4
      by_cases hn : sg s 1 * x < 0
      · have:=Int.mul_neg_of_neg_of_pos hn (hp (-e).toNat)
        omega
      · omega
    cases s
    · simp [sg] at h2 ⊢;omega
    · simp [sg] at h2 ⊢;omega
theorem trI_whole {s : Bool} {m : Nat} {e : Int} {v M : Nat} {E x : Int} (h : MOk m e) (hd : Dbl s m e v M E) (hx : NV s m e x) : trI .zero v = some v:=by
  rw [trI_num hd.rd]
  congr 1
  rcases hd.sh with ⟨h0,h1,h2⟩|⟨t,hm,h1,h2⟩
  · subst h0 h1 h2
    rw [show (0 : Nat) <<< (-1074 : Int).toNat = 0 by rw [shl];simp,cut_exact0,near_0,hd.nr,near_0]
  · rcases h with ⟨h0,_⟩|hk
    · exact absurd h0 hm
    obtain ⟨k1,k2,k3⟩:=mok_log hk
    have hlog : m.log2 ≤ 23:=log2_lt hk.1 hk.2.1
    subst h1 h2
    rw [hd.nr]
    rcases hx with ⟨he,hx⟩|⟨he,hx⟩
    · have hq : Ieee.Toward.cut .zero s ((m * 2 ^ t) <<< (e - (t : Int)).toNat) (-(e - (t : Int))).toNat = m * 2 ^ e.toNat := by
        rw [shl,Nat.mul_assoc,← Nat.pow_add,cut_exact hm s (by omega)]
        congr 2
        omega
      rw [hq]
      exact near_inv2 hm k3 s e.toNat (by omega) k1 k2
    · have hX : m = x.natAbs * 2 ^ (-e).toNat := by
        have:=congrArg Int.natAbs hx
        rw [sg_abs,Int.natAbs_mul,Int.natAbs_pow] at this
        exact this
      have hX0 : x.natAbs ≠ 0:=by
        intro h
        rw [h,Nat.zero_mul] at hX
        exact hm hX
      have hXl : x.natAbs ≤ m:=by rw [hX];exact Nat.le_mul_of_pos_right _ (Nat.two_pow_pos _)
      have hXlog : x.natAbs.log2 ≤ 23:=log2_lt hX0 (by omega)
      have hq : Ieee.Toward.cut .zero s ((m * 2 ^ t) <<< (e - (t : Int)).toNat) (-(e - (t : Int))).toNat = x.natAbs:=by
        rw [show (e - (t : Int)).toNat = 0 by omega,shl,Nat.pow_zero,Nat.mul_one,hX,Nat.mul_assoc,← Nat.pow_add,cut_exact hX0 s (by omega)]
        rw [show (-e).toNat + t - (-(e - (t : Int))).toNat = 0 by omega]
        simp
      rw [hq]
      have:=near_inv2 hX0 (by omega) s (-e).toNat (e:=0) (p:=e) (by omega) (by omega) (by omega)
      rw [← hX] at this
      exact this.symm
theorem read_small {q : Nat} (hq : q < 2 ^ 53) (s : Bool) : ∃ n j,Ieee.double.read (Ieee.double.nearest s q 0) = .number s n j ∧ NV s n j (sg s q):=by
  by_cases h0 : q = 0
  · subst h0
    refine ⟨0,-1074,by rw [near_0];exact read_0 s,.inr ⟨by decide,?_⟩⟩
    rw [show sg s 0 = 0 by cases s<;>rfl,Int.zero_mul]
  · have hl:=log2_lt h0 hq
    refine ⟨_,_,read_at h0 hq s (by omega) (by omega),(NV.shift _).2 (.inl ⟨by decide,?_⟩)⟩
    simp
theorem trI_part {s : Bool} {m : Nat} {e : Int} {v M : Nat} {E : Int} (h : MOk m e) (hd : Dbl s m e v M E) (hx : ∀ x,¬ NV s m e x) : ∃ w,trI .zero v = some w ∧ fcmp .eql .f64 v w = false:=by
  have hE : E < 0:=by
    rcases hd.sh with ⟨h0,h1,h2⟩|⟨t,hm,h1,h2⟩
    · omega
    · by_cases he : 0 ≤ e
      · exact absurd (.inl ⟨he,rfl⟩) (hx _)
      · omega
  have hq : Ieee.Toward.cut .zero s (M <<< E.toNat) (-E).toNat < 2 ^ 53:=by
    rw [show E.toNat = 0 by omega,shl,Nat.pow_zero,Nat.mul_one]
    unfold Ieee.Toward.cut
    simp only [Bool.toNat_false,Nat.add_zero]
    exact Nat.lt_of_le_of_lt (Nat.div_le_self _ _) hd.lt
  obtain ⟨n,j,hr,hn⟩:=read_small hq s
  refine ⟨_,trI_num hd.rd,?_⟩
  unfold fcmp
  have ho : FloatKind.f64.format.order v (Ieee.double.nearest s (Ieee.Toward.cut .zero s (M <<< E.toNat) (-E).toNat) 0) = Ieee.Datum.order (.number s M E) (.number s n j):=by
    show Ieee.Datum.order (Ieee.double.read v) (Ieee.double.read _) = _
    rw [hd.rd,hr]
  simp only [ho]
  rw [beq_eq_false_iff_ne]
  intro he
  exact hx _ ((hd.nv _).1 (nv_of_eq hn he))
end Go.Rex

namespace Go.Rex
open Go Go.Rex
set_option maxRecDepth 100000
/-! ## samples: what the program and the reference say of them -/
theorem ord64 {a b : Nat} {s t : Bool} {m n : Nat} {i j : Int} (h : Ieee.double.read a = .number s m i) (g : Ieee.double.read b = .number t n j) : FloatKind.f64.format.order a b = Ieee.Datum.order (.number s m i) (.number t n j):=by
  show Ieee.Datum.order (Ieee.double.read a) (Ieee.double.read b) = _
  rw [h,g]
theorem ord32 {a b : Nat} {s t : Bool} {m n : Nat} {i j : Int} (h : Ieee.single.read a = .number s m i) (g : Ieee.single.read b = .number t n j) : FloatKind.f32.format.order a b = Ieee.Datum.order (.number s m i) (.number t n j):=by
  show Ieee.Datum.order (Ieee.single.read a) (Ieee.single.read b) = _
  rw [h,g]
theorem eqv_self {v : Nat} {s : Bool} {M : Nat} {E : Int} (h : Ieee.double.read v = .number s M E) : fcmp .eql .f64 v v = true ∧ fcmp .neq .f64 v v = false:=by
  have : FloatKind.f64.format.order v v = some .eq:=by
    rw [ord64 h h,order_at (Int.le_refl _) (Int.le_refl _)]
    congr 1
    exact Int.compare_eq_eq.2 rfl
  unfold fcmp
  simp only [this]
  exact ⟨rfl,rfl⟩
/-- the size of a finite double is not above the greatest one -/
theorem read_abs {s : Bool} {r M : Nat} {E : Int} (hr : r < Ieee.double.signWeight) (h : Ieee.double.read (Ieee.double.word s r) = .number s M E) : Ieee.double.read r = .number false M E:=by
  have h1:=wd s r hr
  have h2 : (r / Ieee.double.signWeight % 2 == 1) = false ∧ r % Ieee.double.signWeight = r:=by
    rw [Nat.div_eq_of_lt hr,Nat.mod_eq_of_lt hr]
    exact ⟨rfl,rfl⟩
  unfold Ieee.Format.read at h ⊢
  simp only [h1.1,h1.2] at h
  simp only [h2.1,h2.2]
  split at h
  · rename_i q
    rw [if_pos q]
    cases h
    rfl
  · rename_i q
    rw [if_neg q]
    split at h
    · rename_i q2
      rw [if_pos q2]
      cases h
      rfl
    · split at h<;>cases h
theorem read_max : Ieee.double.read 9218868437227405311 = .number false (2 ^ 53 - 1) 971:=by decide +kernel
theorem not_inf {r M : Nat} {E : Int} (h : Ieee.double.read r = .number false M E) (hM : M < 2 ^ 53) (hE : E ≤ 104) : fcmp .gtr .f64 r 9218868437227405311 = false:=by
  have : FloatKind.f64.format.order r 9218868437227405311 ≠ some .gt:=by
    rw [ord64 h read_max,order_at (b:=E) (Int.le_refl _) (by omega)]
    intro hc
    rw [Option.some.injEq,Int.compare_eq_gt] at hc
    have h0 : (E - E).toNat = 0:=by omega
    rw [h0] at hc
    simp only [sg,Bool.false_eq_true,if_false,Int.pow_zero,Int.mul_one] at hc
    have h2 : (1 : Int) ≤ 2 ^ (971 - E).toNat:=by have:=Int.pow_pos (m:=(971 - E).toNat) (show (0 : Int) < 2 by decide);omega
    have h3:=Int.mul_le_mul_of_nonneg_left h2 (show (0 : Int) ≤ ((2 ^ 53 - 1 : Nat) : Int) by decide)
    rw [Int.mul_one] at h3
    have h4 : ((2 ^ 53 - 1 : Nat) : Int) = 9007199254740991:=by decide
    rw [h4] at h3 hc
    omega
  unfold fcmp
  simp only
  rw [beq_eq_false_iff_ne]
  exact this
theorem and_not (s : Bool) (r : Nat) (hr : r < 2 ^ 63) : (bitI .andNot .u64 ((Ieee.double.word s r : Nat) : Int) 9223372036854775808).toNat = r:=by
  have hw : Ieee.double.word s r < 2 ^ 64 ∧ Ieee.double.word s r % 2 ^ 63 = r:=by
    unfold Ieee.Format.word
    have e : Ieee.double.signWeight = 2 ^ 63:=by decide +kernel
    rw [e]
    cases s
    · simp only [Bool.false_eq_true,if_false]
      omega
    · simp only [if_true]
      omega
  generalize Ieee.double.word s r = v at hw ⊢
  unfold bitI
  have hb : IntKind.u64.bits = 64:=rfl
  have hwrap : ∀ n : Int,IntKind.u64.wrap n = n % 2 ^ 64:=fun n=>rfl
  simp only [hwrap]
  show (((BitVec.ofInt 64 (v : Int) &&& ~~~ BitVec.ofInt 64 9223372036854775808).toNat : Int) % 2 ^ 64).toNat = r
  have h1 : (BitVec.ofInt 64 (v : Int) &&& ~~~ BitVec.ofInt 64 9223372036854775808).toNat = v % 2 ^ 63:=by
    have h2 : (~~~ BitVec.ofInt 64 9223372036854775808).toNat = 2 ^ 63 - 1:=by decide
    have h3 : (BitVec.ofInt 64 (v : Int)).toNat = v:=by
      rw [BitVec.toNat_ofInt]
      omega
    rw [BitVec.toNat_and,h2,h3,Nat.and_two_pow_sub_one_eq_mod]
  rw [h1,hw.2]
  omega
theorem inf_false {s : Bool} {m : Nat} {e : Int} {v M : Nat} {E : Int} (hd : Dbl s m e v M E) : math_IsInf v 0 = some false:=by
  obtain ⟨r,hr,hri⟩:=near_word s m e
  rw [← hd.nr] at hr
  have hs : r < Ieee.double.signWeight:=by
    have:=dbl.2.2.2
    have h0 : Ieee.double.infRung < Ieee.double.signWeight:=by decide +kernel
    omega
  have hs63 : r < 2 ^ 63:=by
    have e : Ieee.double.signWeight = 2 ^ 63:=by decide +kernel
    rw [e] at hs
    exact hs
  have hn:=num_notnan (k:=.f64) hd.rd
  have hrd:=hd.rd
  unfold math_IsInf math_Abs fbits
  rw [hn]
  simp only [decide_true,if_true,Bool.false_eq_true,if_false,Option.bind_some]
  rw [hr,and_not s r hs63]
  rw [hr] at hrd
  rw [not_inf (read_abs hs hrd) hd.lt hd.hi]
theorem prog_whole {b : Nat} {s : Bool} {m : Nat} {e x : Int} (hr : Ieee.single.read b = .number s m e) (h : MOk m e) (hx : NV s m e x) : figure_isWhole b = some true:=by
  obtain ⟨M,E,hd⟩:=dbl_of (s:=s) h
  unfold figure_isWhole math_Trunc
  rw [f2f_num hr h]
  simp only [Option.bind_some]
  rw [trI_whole h hd hx]
  simp only [Option.bind_some]
  rw [(eqv_self hd.rd).1,inf_false hd]
  simp
theorem prog_part {b : Nat} {s : Bool} {m : Nat} {e : Int} (hr : Ieee.single.read b = .number s m e) (h : MOk m e) (hx : ∀ x,¬ NV s m e x) : figure_isWhole b = some false:=by
  obtain ⟨M,E,hd⟩:=dbl_of (s:=s) h
  obtain ⟨w,h1,h2⟩:=trI_part h hd hx
  unfold figure_isWhole math_Trunc
  rw [f2f_num hr h]
  simp only [Option.bind_some]
  rw [h1]
  simp only [Option.bind_some]
  rw [h2]
  simp
theorem prog_nan {b : Nat} {s : Bool} {t : Nat} (hr : Ieee.single.read b = .nan s t) : figure_isWhole b = some false ∧ f2f .f32 b .f64 = some (qn .f64):=by
  have hn : nanB .f32 b = true:=nan_of_read (k:=.f32) hr
  have hf : f2f .f32 b .f64 = some (qn .f64):=by
    unfold f2f
    rw [if_neg (by decide),hn,if_pos rfl]
  refine ⟨?_,hf⟩
  unfold figure_isWhole math_Trunc
  rw [hf]
  simp only [Option.bind_some]
  have e : trI .zero (qn .f64) = some (qn .f64):=by decide +kernel
  rw [e]
  simp only [Option.bind_some]
  have e2 : fcmp .eql .f64 (qn .f64) (qn .f64) = false:=by decide +kernel
  rw [e2]
  simp
theorem prog_inf {b : Nat} {s : Bool} (hr : Ieee.single.read b = .infinity s) : figure_isWhole b = some false ∧ f2f .f32 b .f64 = some (FloatKind.f64.encode (.infinity s)):=by
  have hn : nanB .f32 b = false:=by
    cases hq : nanB .f32 b with
    | false=>rfl
    | true =>
      obtain ⟨s',t,e'⟩:=nan_read hq
      have e' : Ieee.single.read b = .nan s' t:=e'
      rw [hr] at e'
      cases e'
  have hf : f2f .f32 b .f64 = some (FloatKind.f64.encode (.infinity s)):=by
    unfold f2f
    rw [if_neg (by decide),hn,if_neg (by decide)]
    have : FloatKind.f32.decode b = .infinity s:=hr
    rw [this]
  refine ⟨?_,hf⟩
  unfold figure_isWhole
  rw [hf]
  simp only [Option.bind_some]
  cases s<;>decide +kernel

end Go.Rex

namespace Go.Rex
open Go Go.Rex
set_option maxRecDepth 100000
theorem cut_whole {s : Bool} {m : Nat} {e : Int} {v M : Nat} {E x : Int} (h : MOk m e) (hd : Dbl s m e v M E) (hx : NV s m e x) : Ieee.Toward.cut .zero s (M <<< E.toNat) (-E).toNat = x.natAbs ∧ Ieee.double.nearest s x.natAbs 0 = v:=by
  have key:=trI_whole h hd hx
  rw [trI_num hd.rd] at key
  have key:=Option.some.inj key
  suffices hq : Ieee.Toward.cut .zero s (M <<< E.toNat) (-E).toNat = x.natAbs by
    rw [hq] at key
    exact ⟨hq,key⟩
  clear key
  rcases hd.sh with ⟨h0,h1,h2⟩|⟨t,hm,h1,h2⟩
  · subst h0 h1 h2
    have e0 : sg s 0 = 0:=by cases s<;>rfl
    have hx0 : x = 0:=by
      rcases hx with ⟨_,hx⟩|⟨_,hx⟩
      · rw [e0,Int.zero_mul] at hx;exact hx.symm
      · rw [e0] at hx
        rcases Int.mul_eq_zero.1 hx.symm with h|h
        · exact h
        · exact absurd h (Int.ne_of_gt (Int.pow_pos (by decide)))
    rw [hx0,show (0 : Nat) <<< (-1074 : Int).toNat = 0 by rw [shl];simp,cut_exact0]
    rfl
  · subst h1 h2
    rcases hx with ⟨he,hx⟩|⟨he,hx⟩
    · rw [shl,Nat.mul_assoc,← Nat.pow_add,cut_exact hm s (by omega)]
      have h3:=congrArg Int.natAbs hx
      rw [Int.natAbs_mul,sg_abs,Int.natAbs_pow] at h3
      rw [← h3]
      show _ = m * 2 ^ e.toNat
      congr 2
      omega
    · have hX : m = x.natAbs * 2 ^ (-e).toNat := by
        have:=congrArg Int.natAbs hx
        rw [sg_abs,Int.natAbs_mul,Int.natAbs_pow] at this
        exact this
      have hX0 : x.natAbs ≠ 0:=by
        intro h
        rw [h,Nat.zero_mul] at hX
        exact hm hX
      rw [show (e - (t : Int)).toNat = 0 by omega,shl,Nat.pow_zero,Nat.mul_one,hX,Nat.mul_assoc,← Nat.pow_add,cut_exact hX0 s (by omega)]
      rw [show (-e).toNat + t - (-(e - (t : Int))).toNat = 0 by omega]
      simp
theorem nv_of_eq2 {s t : Bool} {m n : Nat} {i j y : Int} (g : NV t n j y) (h : Ieee.Datum.order (.number t n j) (.number s m i) = some .eq) : NV s m i y:=by
  have hb : min (min i j) 0 ≤ i ∧ min (min i j) 0 ≤ j ∧ min (min i j) 0 ≤ 0:=by omega
  rw [order_at hb.2.1 hb.1,g.at hb.2.1 hb.2.2,Option.some.injEq,Int.compare_eq_eq] at h
  exact NV.of hb.1 hb.2.2 h.symm
theorem read_c1 : Ieee.double.read 14069741636278059008 = .number true 5000000000000000 1:=by decide +kernel
theorem read_c2 : Ieee.double.read 4846369599423283200 = .number false 5000000000000000 1:=by decide +kernel
theorem sub_self0 {v : Nat} {s : Bool} {M : Nat} {E : Int} (h : Ieee.double.read v = .number s M E) : farith .sub .f64 v v = some 0:=by
  refine far_of ?_
  show (((Ieee.double.read v).sum (Ieee.double.read v).opposite).map Ieee.double.write) = some 0
  rw [h]
  simp only [Ieee.Datum.opposite,Ieee.Datum.sum]
  have e : min E E = E:=by omega
  rw [e]
  have h0 : (E - E).toNat = 0:=by omega
  rw [h0]
  simp only [signed_eq,Int.pow_zero,Int.mul_one]
  have hz : sg s M + sg (!s) M = 0:=by cases s<;>simp [sg]<;>omega
  rw [hz]
  simp only [if_true,Option.map_some]
  have hs : (s && !s) = false:=by cases s<;>rfl
  rw [hs]
  show some (Ieee.double.nearest false 0 E) = some 0
  rw [near_0]
  rfl
theorem cmpI {x y : Int} : ((some (compare x y) == some Ordering.gt || some (compare x y) == some Ordering.eq) = decide (y ≤ x)) ∧ ((some (compare x y) == some Ordering.lt || some (compare x y) == some Ordering.eq) = decide (x ≤ y)) ∧ ((some (compare x y) == some Ordering.lt) = decide (x < y)) ∧ ((some (compare x y) == some Ordering.gt) = decide (y < x)) ∧ ((some (compare x y) == some Ordering.eq) = decide (x = y)):=by
  simp only [compare,compareOfLessAndEq]
  rcases Int.lt_trichotomy x y with h|h|h
  · rw [if_pos h]
    refine ⟨?_,?_,?_,?_,?_⟩<;>simp<;>omega
  · subst h
    rw [if_neg (Int.lt_irrefl _),if_pos rfl]
    refine ⟨?_,?_,?_,?_,?_⟩<;>simp
  · rw [if_neg (by omega),if_neg (by omega)]
    refine ⟨?_,?_,?_,?_,?_⟩<;>simp<;>omega
theorem f2i_num {v : Nat} {s : Bool} {M : Nat} {E : Int} {q : Nat} (h : Ieee.double.read v = .number s M E) (hq : Ieee.Toward.cut .zero s (M <<< E.toNat) (-E).toNat = q) (hb : q < 2 ^ 63) : f2i .f64 v .i64 = some (sg s q):=by
  unfold f2i
  have e : FloatKind.f64.decode v = .number s M E:=h
  rw [e]
  have e2 : (Ieee.Datum.number s M E).toInt .zero = some (sg s q):=by
    unfold Ieee.Datum.toInt Ieee.Datum.integral
    simp only [hq,signed_eq,Int.pow_zero,Int.mul_one]
  rw [e2]
  simp only
  have hm : IntKind.i64.min = -9223372036854775808 ∧ IntKind.i64.max = 9223372036854775807:=by decide
  rw [hm.1,hm.2,if_pos]
  cases s<;>simp only [sg,if_true,if_false,Bool.false_eq_true]<;>omega
theorem ref_whole {s : Bool} {m : Nat} {e : Int} {v M : Nat} {E x : Int} (h : MOk m e) (hd : Dbl s m e v M E) (hx : NV s m e x) : base_IsWhole v = some true:=by
  have hX:=(hd.nv x).2 hx
  have g1 : fcmp .geq .f64 v 14069741636278059008 = decide (-10000000000000000 ≤ x):=by
    unfold fcmp
    simp only
    rw [ord64 hd.rd read_c1,nv_order hX (y:=-10000000000000000) (.inl ⟨by decide,by decide⟩)]
    exact cmpI.1
  have g2 : fcmp .leq .f64 v 4846369599423283200 = decide (x ≤ 10000000000000000):=by
    unfold fcmp
    simp only
    rw [ord64 hd.rd read_c2,nv_order hX (y:=10000000000000000) (.inl ⟨by decide,by decide⟩)]
    exact cmpI.2.1
  unfold base_IsWhole
  rw [(eqv_self hd.rd).2,sub_self0 hd.rd]
  simp only [Bool.false_eq_true,if_false,Option.bind_some]
  have g0 : fcmp .neq .f64 0 0 = false:=by decide +kernel
  rw [g0,g1,g2]
  simp only [Bool.false_eq_true,if_false]
  by_cases c1 : -10000000000000000 ≤ x
  · by_cases c2 : x ≤ 10000000000000000
    · rw [if_pos (decide_eq_true c1),if_pos (decide_eq_true c2)]
      obtain ⟨hq,hn⟩:=cut_whole h hd hx
      rw [f2i_num hd.rd hq (by omega),sg_of_nat hx]
      simp only [Option.bind_some]
      congr 1
      have hne : FloatKind.f64.nearest x = Ieee.double.nearest (decide (x < 0)) x.natAbs 0:=rfl
      by_cases x0 : x = 0
      · subst x0
        have e1 : FloatKind.f64.nearest 0 = Ieee.double.word false 0:=by rw [hne];exact near_0 _ _
        have r1 : Ieee.double.read (FloatKind.f64.nearest 0) = .number false 0 (-1074):=by rw [e1];exact read_0 false
        unfold fcmp
        simp only
        rw [ord64 r1 hd.rd,nv_order (x:=0) (.inr ⟨by decide,by rw [show sg false 0 = 0 from rfl,Int.zero_mul]⟩) hX]
        rfl
      · have hs : decide (x < 0) = s := by
          have h1:=sg_of_nat hx
          cases s
          · simp only [sg,Bool.false_eq_true,if_false] at h1
            exact decide_eq_false (by omega)
          · simp only [sg,if_true] at h1
            exact decide_eq_true (by omega)
        rw [hne,hs,hn]
        exact (eqv_self hd.rd).1
    · rw [if_pos (decide_eq_true c1),if_neg (by simp;omega)]
  · rw [if_neg (by simp;omega)]
theorem ref_part {s : Bool} {m : Nat} {e : Int} {v M : Nat} {E : Int} (h : MOk m e) (hd : Dbl s m e v M E) (hx : ∀ x,¬ NV s m e x) : base_IsWhole v = some false:=by
  have hE : E < 0:=by
    rcases hd.sh with ⟨h0,h1,h2⟩|⟨t,hm,h1,h2⟩
    · omega
    · by_cases he : 0 ≤ e
      · exact absurd (.inl ⟨he,rfl⟩) (hx _)
      · omega
  have hlt:=hd.lt
  have hp4 : (4 : Int) ≤ 2 ^ (1 - E).toNat:=by
    rw [show (1 - E).toNat = 2 + (-E - 1).toNat by omega,pow_split]
    have : (1 : Int) ≤ 2 ^ (-E - 1).toNat:=by have:=Int.pow_pos (m:=(-E - 1).toNat) (show (0 : Int) < 2 by decide);omega
    omega
  have hbig:=Int.mul_le_mul_of_nonneg_left hp4 (show (0 : Int) ≤ 5000000000000000 by decide)
  have h0 : (E - E).toNat = 0:=by omega
  have hsg : -(M : Int) ≤ sg s M ∧ sg s M ≤ M:=by cases s<;>simp [sg]<;>omega
  have g1 : fcmp .geq .f64 v 14069741636278059008 = true:=by
    unfold fcmp
    simp only
    rw [ord64 hd.rd read_c1,order_at (b:=E) (Int.le_refl _) (by omega),cmpI.1,h0]
    refine decide_eq_true ?_
    have e1 : sg true 5000000000000000 = -5000000000000000:=by decide
    rw [e1,Int.pow_zero,Int.mul_one,Int.neg_mul]
    omega
  have g2 : fcmp .leq .f64 v 4846369599423283200 = true:=by
    unfold fcmp
    simp only
    rw [ord64 hd.rd read_c2,order_at (b:=E) (Int.le_refl _) (by omega),cmpI.2.1,h0]
    refine decide_eq_true ?_
    have e1 : sg false 5000000000000000 = 5000000000000000:=by decide
    rw [e1,Int.pow_zero,Int.mul_one]
    omega
  unfold base_IsWhole
  rw [(eqv_self hd.rd).2,sub_self0 hd.rd]
  simp only [Bool.false_eq_true,if_false,Option.bind_some]
  have g0 : fcmp .neq .f64 0 0 = false:=by decide +kernel
  rw [g0,g1,g2]
  simp only [Bool.false_eq_true,if_false,if_true]
  have hq : Ieee.Toward.cut .zero s (M <<< E.toNat) (-E).toNat < 2 ^ 53:=by
    rw [show E.toNat = 0 by omega,shl,Nat.pow_zero,Nat.mul_one]
    unfold Ieee.Toward.cut
    simp only [Bool.toNat_false,Nat.add_zero]
    exact Nat.lt_of_le_of_lt (Nat.div_le_self _ _) hlt
  generalize hqq : Ieee.Toward.cut .zero s (M <<< E.toNat) (-E).toNat = q at hq
  rw [f2i_num hd.rd hqq (by omega)]
  simp only [Option.bind_some]
  congr 1
  have hne : FloatKind.f64.nearest (sg s q) = Ieee.double.nearest (decide (sg s q < 0)) (sg s q).natAbs 0:=rfl
  rw [sg_abs] at hne
  obtain ⟨n,j,r1,r2⟩:=read_small hq (decide (sg s q < 0))
  rw [← hne] at r1
  unfold fcmp
  simp only
  rw [beq_eq_false_iff_ne,ord64 r1 hd.rd]
  intro he
  exact hx _ ((hd.nv _).1 (nv_of_eq2 r2 he))

end Go.Rex

namespace Go.Rex
/-! ### plain facts for shallow functions -/
theorem w64 {x : Int} (h : -9223372036854775808 ≤ x ∧ x ≤ 9223372036854775807) : IntKind.i64.wrap x = x:=IntWalk.i64_in x (by omega)
/-- a loop that counts -/
theorem run_count {σ ε : Type} {step : σ → Option (σ ⊕ ε)} (f : Nat → σ) {n : Nat} {e : ε} (h : ∀ k,k < n → step (f k) = some (.inl (f (k + 1)))) (hn : step (f n) = some (.inr e)) : run step (f 0) = some e:=by
  suffices H : ∀ j k,n - k = j → k ≤ n → run step (f k) = some e from H n 0 (by omega) (Nat.zero_le _)
  intro j
  induction j with
  | zero => intro k hj hk; obtain rfl : k = n := by omega
            exact run_stop hn
  | succ j ih=>intro k hj hk;rw [run_next (h k (by omega))];exact ih (k + 1) (by omega) (by omega)
theorem getI_nat {α : Type} {xs : List α} {k : Nat} : getI xs (k : Int) = xs[k]?:=by
  unfold getI
  rw [if_pos (by omega),Int.toNat_natCast]
end Go.Rex

namespace Go.Rex
/-! ### a loop that walks a list,gathers,and may end early -/
end Go.Rex

open Go Go.Rex
namespace Go.Rex
set_option maxRecDepth 100000
/-! ### loops,once more -/
theorem wsucc {k : Nat} {n : Nat} (h : k ≤ n) (hn : n ≤ 2 ^ 62) : IntKind.i64.wrap ((k : Int) + 1) = ((k + 1 : Nat) : Int):=by rw [w64 (by omega)];omega
/-- the first one that has an answer -/
def firstOf {ε : Type} (p : Nat → Option ε) (n : Nat) : Option ε:=(List.range n).findSome? p
theorem firstOf_none {ε : Type} {p : Nat → Option ε} {n : Nat} : firstOf p n = none ↔ ∀ k,k < n → p k = none:=by
  unfold firstOf
  rw [List.findSome?_eq_none_iff]
  constructor
  · intro h k hk;exact h k (List.mem_range.2 hk)
  · intro h k hk;exact h k (List.mem_range.1 hk)
theorem firstOf_succ {ε : Type} {p : Nat → Option ε} {n : Nat} : firstOf p (n + 1) = match firstOf p n with|some e=>some e|none=>p n:=by
  unfold firstOf
  rw [List.range_succ,List.findSome?_append]
  cases h : List.findSome? p (List.range n) with
  | some e=>rfl
  | none=>simp
theorem run_find {ε δ : Type} {step : Int → Option (Int ⊕ (ε ⊕ δ))} {n : Nat} {p : Nat → Option ε} {r : δ}
    (h : ∀ k : Nat,k < n → (∀ j,j < k → p j = none) → step (k : Int) = some (match p k with|none=>.inl ((k + 1 : Nat) : Int)|some e=>.inr (.inl e))) (he : (∀ j,j < n → p j = none) → step (n : Int) = some (.inr (.inr r))) : run step 0 = some (match firstOf p n with|some e=>.inl e|none=>.inr r):=by
  suffices H : ∀ m,m ≤ n → firstOf p m = none → run step 0 = run step (m : Int) by
    cases hf : firstOf p n with
    | none =>
      simp only
      rw [H n (Nat.le_refl _) hf]
      exact run_stop (he (firstOf_none.1 hf))
    | some e =>
      simp only
      have : ∃ m,m < n ∧ firstOf p m = none ∧ p m = some e:=by
        clear h he H
        induction n with
        | zero=>simp [firstOf] at hf
        | succ n ih =>
          rw [firstOf_succ] at hf
          cases hn : firstOf p n with
          | none=>rw [hn] at hf;exact ⟨n,by omega,hn,hf⟩
          | some e'=>rw [hn] at hf;cases hf;obtain ⟨m,h1,h2⟩:=ih hn;exact ⟨m,by omega,h2⟩
      obtain ⟨m,hm,h1,h2⟩:=this
      rw [H m (by omega) h1]
      have:=h m hm (firstOf_none.1 h1)
      rw [h2] at this
      exact run_stop this
  intro m
  induction m with
  | zero=>intro _ _;rfl
  | succ m ih =>
    intro hm hf
    have hf':=firstOf_none.1 hf
    rw [ih (by omega) (firstOf_none.2 fun k hk=>hf' k (by omega))]
    have:=h m (by omega) (fun j hj=>hf' j (by omega))
    rw [hf' m (by omega)] at this
    exact run_next this
def iter {β : Type} (g : Nat → β → β) : Nat → β → β
  | 0,b=>b
  | k + 1,b=>g k (iter g k b)
theorem run_iter {β σ ε : Type} {step : σ → Option (σ ⊕ ε)} (st : Nat → β → σ) (g : Nat → β → β) (fin : β → ε) (n : Nat) (Inv : Nat → β → Prop) {b0 : β} (h0 : Inv 0 b0)
    (hs : ∀ k b,k < n → Inv k b → step (st k b) = some (.inl (st (k + 1) (g k b))) ∧ Inv (k + 1) (g k b)) (he : ∀ b,Inv n b → step (st n b) = some (.inr (fin b))) :
    run step (st 0 b0) = some (fin (iter g n b0)) ∧ ∀ k,k ≤ n → Inv k (iter g k b0):=by
  have hI : ∀ k,k ≤ n → Inv k (iter g k b0):=by
    intro k
    induction k with
    | zero=>intro _;exact h0
    | succ k ih=>intro hk;exact (hs k _ (by omega) (ih (by omega))).2
  refine ⟨?_,hI⟩
  exact run_count (fun k=>st k (iter g k b0)) (fun k hk=>(hs k _ hk (hI k (by omega))).1) (he _ (hI n (Nat.le_refl _)))
theorem getI_lt' {α : Type} {l : List α} {k : Nat} (h : k < l.length) : getI l (k : Int) = some l[k]:=by
  rw [getI_nat];exact List.getElem?_eq_getElem h
/-! ### small things -/
/-! ### sums of lists -/
end Go.Rex

namespace Go.Rex
open Go Go.Rex
set_option maxRecDepth 100000
/-! ## a sample's error -/
theorem cutN {s : Bool} {m : Nat} {e x : Int} (h : MOk m e) (hx : NV s m e x) : Ieee.Toward.cut .zero s (m <<< e.toNat) (-e).toNat = x.natAbs:=by
  rcases h with ⟨h0,h1⟩|⟨hm,-,-,-⟩
  · subst h0 h1
    have e0 : sg s 0 = 0:=by cases s<;>rfl
    have hx0 : x = 0:=by
      rcases hx with ⟨_,hx⟩|⟨_,hx⟩
      · rw [e0,Int.zero_mul] at hx;exact hx.symm
      · rw [e0] at hx
        rcases Int.mul_eq_zero.1 hx.symm with h|h
        · exact h
        · exact absurd h (Int.ne_of_gt (Int.pow_pos (by decide)))
    rw [hx0,show (0 : Nat) <<< (-149 : Int).toNat = 0 by rw [shl];simp,cut_exact0]
    rfl
  · rcases hx with ⟨he,hx⟩|⟨he,hx⟩
    · rw [shl,show (-e).toNat = 0 by omega,cut_exact hm s (by omega)]
      have h3:=congrArg Int.natAbs hx
      rw [Int.natAbs_mul,sg_abs,Int.natAbs_pow] at h3
      rw [← h3]
      rfl
    · have hX : m = x.natAbs * 2 ^ (-e).toNat := by
        have:=congrArg Int.natAbs hx
        rw [sg_abs,Int.natAbs_mul,Int.natAbs_pow] at this
        exact this
      have hX0 : x.natAbs ≠ 0:=by
        intro h
        rw [h,Nat.zero_mul] at hX
        exact hm hX
      rw [show e.toNat = 0 by omega,shl,Nat.pow_zero,Nat.mul_one,hX,cut_exact hX0 s (Nat.le_refl _)]
      simp
theorem f2i_32 {b : Nat} {s : Bool} {m : Nat} {e x : Int} (hr : Ieee.single.read b = .number s m e) (h : MOk m e) (hx : NV s m e x) (hb : -32767 ≤ x ∧ x ≤ 32767) : f2i .f32 b .i64 = some x:=by
  unfold f2i
  have e1 : FloatKind.f32.decode b = .number s m e:=hr
  rw [e1]
  have e2 : (Ieee.Datum.number s m e).toInt .zero = some x:=by
    unfold Ieee.Datum.toInt Ieee.Datum.integral
    simp only [cutN h hx,signed_eq,Int.pow_zero,Int.mul_one,sg_of_nat hx]
  rw [e2]
  simp only
  have hm : IntKind.i64.min = -9223372036854775808 ∧ IntKind.i64.max = 9223372036854775807:=by decide
  rw [hm.1,hm.2,if_pos (by omega)]
theorem read_s1 : Ieee.single.read 3338665472 = .number true 16776704 (-9):=by decide +kernel
theorem read_s2 : Ieee.single.read 1191181824 = .number false 16776704 (-9):=by decide +kernel
theorem read_d1 : Ieee.double.read 13898108175187443712 = .number true 9006924376834048 (-38):=by decide +kernel
theorem read_d2 : Ieee.double.read 4674736138332667904 = .number false 9006924376834048 (-38):=by decide +kernel
/-- the first error of a list -/
def fe : List Int → Int
  | []=>0
  | a :: t=>if a ≠ 0 then a else fe t
theorem firstError_eq {l : List Int} (hl : l.length ≤ 100) : figure_firstError l = some (fe l):=by
  have key : ∀ (t : List Int) (k : Nat),l.drop k = t → k ≤ l.length → ∃ r,run (figure_firstError_l1 l) (k : Int) = some r ∧ (match r with|.inl v=>v|.inr _=>0) = fe t:=by
    intro t
    induction t with
    | nil =>
      intro k hk hkl
      have : k = l.length:=by
        have:=congrArg List.length hk
        simp at this
        omega
      subst this
      refine ⟨.inr (),run_stop ?_,rfl⟩
      unfold figure_firstError_l1
      rw [if_neg (by simp)]
    | cons a t ih =>
      intro k hk hkl
      have hlt : k < l.length:=by
        rcases Nat.lt_or_ge k l.length with h|h
        · exact h
        · rw [List.drop_eq_nil_of_le h] at hk;cases hk
      have ha : l[k]? = some a:=by
        have : (l.drop k)[0]? = some a:=by rw [hk];rfl
        simpa using this
      have ht : l.drop (k + 1) = t:=by
        rw [← List.drop_drop,hk]
        rfl
      by_cases h0 : a = 0
      · obtain ⟨r,h1,h2⟩:=ih (k + 1) ht hlt
        refine ⟨r,?_,by rw [h2];unfold fe;rw [if_neg (by simpa using h0)];cases t<;>rfl⟩
        rw [← h1]
        refine run_next ?_
        unfold figure_firstError_l1
        rw [if_pos (by simp;omega),getI_nat,ha]
        simp only [Option.bind_some,h0,ne_eq,not_true_eq_false,decide_false,Bool.false_eq_true,if_false]
        rw [w64 (by omega)]
        rfl
      · refine ⟨.inl a,run_stop ?_,by unfold fe;rw [if_pos h0]⟩
        unfold figure_firstError_l1
        rw [if_pos (by simp;omega),getI_nat,ha]
        simp [h0]
  obtain ⟨r,h1,h2⟩:=key l 0 rfl (Nat.zero_le _)
  unfold figure_firstError
  rw [show (0 : Int) = ((0 : Nat) : Int) from rfl,h1]
  rw [← h2]
  cases r<;>rfl
/-! ## a sample -/
/-- the word b is the whole number x -/
def SV (b : Nat) (x : Int) : Prop:=∃ s m e,Ieee.single.read b = .number s m e ∧ MOk m e ∧ NV s m e x
theorem SV.val {b : Nat} {x : Int} (h : SV b x) (hb : -32767 ≤ x ∧ x ≤ 32767) : f2i .f32 b .i64 = some x:=by
  obtain ⟨s,m,e,h1,h2,h3⟩:=h
  exact f2i_32 h1 h2 h3 hb
theorem smpErr_bad {b : Nat} (h : figure_isWhole b = some false) : figure_sampleError b = some 27:=by
  unfold figure_sampleError
  rw [h]
  simp only [Option.bind_some,figure_refuse,Bool.not_false,if_true]
  have h2 : ∀ a : Int,figure_firstError [27,a] = some 27:=fun a=>by rw [firstError_eq (by simp)];rfl
  split
  · simp only [Option.bind_some,h2]
  · split<;>simp only [Option.bind_some,h2]
theorem smpErr_good {b : Nat} {x : Int} (h : SV b x) : figure_sampleError b = some (if -32767 ≤ x ∧ x ≤ 32767 then 0 else 2):=by
  obtain ⟨s,m,e,h1,h2,h3⟩:=h
  unfold figure_sampleError
  rw [prog_whole h1 h2 h3]
  simp only [Option.bind_some,figure_refuse,Bool.not_true,Bool.false_eq_true,if_false,if_true]
  have g1 : fcmp .lss .f32 b 3338665472 = decide (x < -32767):=by
    unfold fcmp
    simp only
    rw [ord32 h1 read_s1,nv_order h3 (y:=-32767) (.inr ⟨by decide,by decide⟩)]
    exact cmpI.2.2.1
  have g2 : fcmp .gtr .f32 b 1191181824 = decide (32767 < x):=by
    unfold fcmp
    simp only
    rw [ord32 h1 read_s2,nv_order h3 (y:=32767) (.inr ⟨by decide,by decide⟩)]
    exact cmpI.2.2.2.1
  rw [g1,g2]
  have hf : ∀ a : Int,figure_firstError [0,a] = some a:=fun a=>by
    rw [firstError_eq (by simp)]
    unfold fe fe
    by_cases h : a = 0
    · subst h;rfl
    · simp [h]
  by_cases c1 : x < -32767
  · rw [if_pos (decide_eq_true c1),hf]
    simp only [Option.bind_some]
    rw [if_neg (by omega)]
  · rw [if_neg (by simpa using c1)]
    by_cases c2 : 32767 < x
    · rw [if_pos (decide_eq_true c2)]
      simp only [Option.bind_some]
      rw [hf]
      simp only [Option.bind_some]
      rw [if_neg (by omega)]
    · rw [if_neg (by simpa using c2)]
      simp only [Option.bind_some]
      rw [hf]
      simp only [Option.bind_some]
      rw [if_pos (by omega)]
/-- what the reference sees of a sample -/
structure RS (b : Nat) (o : Option Int) : Prop where
  val : ∃ v,f2f .f32 b .f64 = some v ∧ base_IsWhole v = some o.isSome ∧ ∀ x,o = some x → fcmp .gtr .f64 v 4674736138332667904 = decide (32767 < x) ∧ fcmp .lss .f64 v 13898108175187443712 = decide (x < -32767)
theorem sample_cases (b : Nat) : (figure_sampleError b = some 27 ∧ RS b none) ∨ ∃ x,SV b x ∧ RS b (some x):=by
  rcases smp_cases b with ⟨s,t,h⟩|⟨s,h⟩|⟨s,m,e,h,hm⟩
  · obtain ⟨h1,h2⟩:=prog_nan h
    exact .inl ⟨smpErr_bad h1,⟨_,h2,by decide +kernel,fun x hx=>by cases hx⟩⟩
  · obtain ⟨h1,h2⟩:=prog_inf h
    exact .inl ⟨smpErr_bad h1,⟨_,h2,by cases s<;>decide +kernel,fun x hx=>by cases hx⟩⟩
  · obtain ⟨M,E,hd⟩:=dbl_of (s:=s) hm
    by_cases hx : ∃ x,NV s m e x
    · obtain ⟨x,hx⟩:=hx
      refine .inr ⟨x,⟨s,m,e,h,hm,hx⟩,⟨_,f2f_num h hm,ref_whole hm hd hx,fun y hy=>?_⟩⟩
      cases hy
      have hX:=(hd.nv x).2 hx
      constructor
      · unfold fcmp
        simp only
        rw [ord64 hd.rd read_d2,nv_order hX (y:=32767) (.inr ⟨by decide,by decide⟩)]
        exact cmpI.2.2.2.1
      · unfold fcmp
        simp only
        rw [ord64 hd.rd read_d1,nv_order hX (y:=-32767) (.inr ⟨by decide,by decide⟩)]
        exact cmpI.2.2.1
    · have hx : ∀ x,¬ NV s m e x:=fun x h=>hx ⟨x,h⟩
      exact .inl ⟨smpErr_bad (prog_part h hm hx),⟨_,f2f_num h hm,ref_part hm hd hx,fun x hx=>by cases hx⟩⟩

end Go.Rex

namespace Go.Rex
open Go Go.Rex
set_option maxRecDepth 100000
/-! ## the checks of responses and asks -/
noncomputable def serr (b : Nat) : Int:=(figure_sampleError b).getD 0
theorem serr_prog (b : Nat) : figure_sampleError b = some (serr b):=by
  unfold serr
  rcases sample_cases b with ⟨h,_⟩|⟨x,h,_⟩
  · rw [h];rfl
  · rw [smpErr_good h];rfl
/-- a sample that is right -/
def SGood (b : Nat) (x : Int) : Prop:=SV b x ∧ -32767 ≤ x ∧ x ≤ 32767
theorem serr_zero {b : Nat} (h : serr b = 0) : ∃ x,SGood b x:=by
  have hp:=serr_prog b
  rw [h] at hp
  rcases sample_cases b with ⟨h1,_⟩|⟨x,h1,_⟩
  · rw [h1] at hp
    exact absurd (Option.some.inj hp) (by decide)
  · rw [smpErr_good h1] at hp
    have hp:=Option.some.inj hp
    by_cases hc : -32767 ≤ x ∧ x ≤ 32767
    · exact ⟨x,h1,hc.1,hc.2⟩
    · rw [if_neg hc] at hp
      exact absurd hp (by decide)
noncomputable def serrAt (l : List Nat) (k : Nat) : Option (Int × Int):=match l[k]? with
  | some b=>if serr b = 0 then none else some ((k : Int),serr b)
  | none=>none
theorem prog_loop (r : Int) (l : List Nat) (hl : l.length ≤ 2 ^ 40) : run (figure_CheckResponse_l1 l) 0 = some (match firstOf (serrAt l) l.length with|some e=>.inl e|none=>.inr ()):=by
  suffices H : (∀ k : Nat,k < l.length → (∀ j,j < k → serrAt l j = none) → figure_CheckResponse_l1 l (k : Int) = some (match serrAt l k with|none=>.inl ((k + 1 : Nat) : Int)|some e=>.inr (.inl e))) ∧ figure_CheckResponse_l1 l (l.length : Int) = some (.inr (.inr ())) by
    have h:=run_find (step:=figure_CheckResponse_l1 l) (p:=serrAt l) (n:=l.length) (r:=()) (fun k hk hb=>by
      have h1:=H.1 k hk hb
      cases hs : serrAt l k<;>rw [hs] at h1<;>exact h1) (fun _=>H.2)
    rw [h]
    cases firstOf (serrAt l) l.length<;>rfl
  refine ⟨fun k hk hb=>?_,?_⟩
  · unfold figure_CheckResponse_l1
    rw [if_pos (by simp;omega),getI_nat,List.getElem?_eq_getElem hk]
    simp only [Option.bind_some]
    rw [serr_prog]
    simp only [Option.bind_some,serrAt,List.getElem?_eq_getElem hk]
    by_cases h : serr l[k] = 0
    · simp only [h,ne_eq,not_true_eq_false,decide_false,Bool.false_eq_true,if_false,if_true]
      rw [w64 (by omega)]
      rfl
    · simp only [h,ne_eq,not_false_eq_true,decide_true,if_true,if_false]
  · unfold figure_CheckResponse_l1
    rw [if_neg (by simp)]
theorem ref_loop (r : Int) (l : List Nat) (hl : l.length ≤ 2 ^ 40) : run (ref05_CheckResponse_l1 l) 0 = some (match firstOf (serrAt l) l.length with|some e=>.inl e|none=>.inr ()):=by
  suffices H : (∀ k : Nat,k < l.length → (∀ j,j < k → serrAt l j = none) → ref05_CheckResponse_l1 l (k : Int) = some (match serrAt l k with|none=>.inl ((k + 1 : Nat) : Int)|some e=>.inr (.inl e))) ∧ ref05_CheckResponse_l1 l (l.length : Int) = some (.inr (.inr ())) by
    have h:=run_find (step:=ref05_CheckResponse_l1 l) (p:=serrAt l) (n:=l.length) (r:=()) (fun k hk hb=>by
      have h1:=H.1 k hk hb
      cases hs : serrAt l k<;>rw [hs] at h1<;>exact h1) (fun _=>H.2)
    rw [h]
    cases firstOf (serrAt l) l.length<;>rfl
  refine ⟨fun k hk hb=>?_,?_⟩
  · unfold ref05_CheckResponse_l1
    rw [if_pos (by simp;omega),getI_nat,List.getElem?_eq_getElem hk]
    simp only [Option.bind_some,serrAt,List.getElem?_eq_getElem hk]
    have hp:=serr_prog l[k]
    rcases sample_cases l[k] with ⟨h1,h2⟩|⟨x,h1,h2⟩
    · obtain ⟨v,e1,e2,-⟩:=h2.val
      rw [h1] at hp
      have hp:=Option.some.inj hp
      rw [e1]
      simp only [Option.bind_some]
      rw [e2]
      simp only [Option.bind_some,Option.isSome_none,Bool.false_eq_true,if_false]
      rw [← hp]
      simp
    · obtain ⟨v,e1,e2,e3⟩:=h2.val
      obtain ⟨g1,g2⟩:=e3 x rfl
      rw [smpErr_good h1] at hp
      have hp:=Option.some.inj hp
      rw [e1]
      simp only [Option.bind_some]
      rw [e2]
      simp only [Option.bind_some,Option.isSome_some,if_true]
      rw [g1,g2,← hp]
      by_cases c1 : 32767 < x
      · rw [if_pos (decide_eq_true c1),if_neg (show ¬ (-32767 ≤ x ∧ x ≤ 32767) by omega)]
        simp
      · rw [if_neg (by simpa using c1)]
        by_cases c2 : x < -32767
        · rw [if_pos (decide_eq_true c2),if_neg (show ¬ (-32767 ≤ x ∧ x ≤ 32767) by omega)]
          simp
        · rw [if_neg (by simpa using c2),if_pos (show -32767 ≤ x ∧ x ≤ 32767 by omega)]
          simp only [if_true]
          rw [w64 (by omega)]
          rfl
  · unfold ref05_CheckResponse_l1
    rw [if_neg (by simp)]
theorem within_eq (n a b : Int) : figure_within n a b = some (if a ≤ n ∧ n ≤ b then 0 else 2):=by
  unfold figure_within figure_refuse
  by_cases h1 : n < a
  · rw [if_pos (decide_eq_true h1)]
    simp only [if_true,Option.bind_some]
    rw [if_neg (by omega)]
  · rw [if_neg (by simpa using h1)]
    by_cases h2 : n > b
    · rw [if_pos (decide_eq_true h2)]
      simp only [Option.bind_some]
      rw [if_neg (by omega)]
    · rw [if_neg (by simpa using h2)]
      simp only [Option.bind_some]
      rw [if_pos (by omega)]
theorem base_within (n a b : Int) : base_Within n a b = some (decide (a ≤ n ∧ n ≤ b)):=by
  unfold base_Within
  by_cases h : a ≤ n
  · rw [if_pos (decide_eq_true h)]
    simp [h]
  · rw [if_neg (by simpa using h)]
    simp [h]
/-- the number and the error of a response -/
noncomputable def crErr (r : Int) (l : List Nat) : Int × Int :=
  if 8000 ≤ r ∧ r ≤ 192000 then (if l.length = 0 then (0,10) else if 1024 < l.length then (0,8) else (firstOf (serrAt l) l.length).getD (0,0)) else (0,2)
theorem prog_check (r : Int) (l : List Nat) : figure_CheckResponse r l = some (crErr r l):=by
  unfold figure_CheckResponse figure_rateError crErr
  rw [within_eq]
  simp only [Option.bind_some,figure_refuse]
  by_cases hr : 8000 ≤ r ∧ r ≤ 192000
  · simp only [if_pos hr]
    by_cases h0 : l.length = 0
    · have e1 : decide ((l.length : Int) = 0) = true:=by simp [h0]
      rw [e1,if_pos h0]
      have e2 : decide ((l.length : Int) > 1024) = false:=by simp [h0]
      rw [e2]
      simp only [if_true,Bool.false_eq_true,if_false,Option.bind_some]
      rw [firstError_eq (by simp)]
      rfl
    · have e1 : decide ((l.length : Int) = 0) = false:=decide_eq_false (by omega)
      rw [e1,if_neg h0]
      by_cases h1 : 1024 < l.length
      · have e2 : decide ((l.length : Int) > 1024) = true:=by simp;omega
        rw [e2,if_pos h1]
        simp only [if_true,Bool.false_eq_true,if_false,Option.bind_some]
        rw [firstError_eq (by simp)]
        rfl
      · have e2 : decide ((l.length : Int) > 1024) = false:=by simp;omega
        rw [e2,if_neg h1]
        simp only [Bool.false_eq_true,if_false,Option.bind_some]
        rw [firstError_eq (by simp)]
        have hfe : fe [0,0,0] = 0:=rfl
        simp only [Option.bind_some,hfe,ne_eq,not_true_eq_false,decide_false,Bool.false_eq_true,if_false]
        rw [prog_loop r l (by omega)]
        cases firstOf (serrAt l) l.length with
        | none=>rfl
        | some e=>obtain ⟨a,b⟩:=e;rfl
  · simp only [if_neg hr]
    have hf : ∀ a b : Int,figure_firstError [2,a,b] = some 2:=fun a b=>by rw [firstError_eq (by simp)];rfl
    by_cases c1 : decide ((l.length : Int) = 0) = true<;>by_cases c2 : decide ((l.length : Int) > 1024) = true<;>simp only [c1,c2,if_true,if_false,Bool.false_eq_true,Option.bind_some,hf]<;>rfl
theorem ref_check (r : Int) (l : List Nat) : ref05_CheckResponse r l = some (crErr r l):=by
  unfold ref05_CheckResponse ref05_isRate crErr
  rw [base_within]
  simp only [Option.bind_some]
  by_cases hr : 8000 ≤ r ∧ r ≤ 192000
  · rw [if_pos (decide_eq_true hr),if_pos hr]
    by_cases h0 : l.length = 0
    · rw [if_pos (by simp [h0]),if_pos h0]
    · rw [if_neg (by rw [decide_eq_true_eq];omega),if_neg h0]
      by_cases h1 : 1024 < l.length
      · rw [if_pos (by simp;omega),if_pos h1]
      · rw [if_neg (by simp;omega),if_neg h1,ref_loop r l (by omega)]
        cases firstOf (serrAt l) l.length with
        | none=>rfl
        | some e=>obtain ⟨a,b⟩:=e;rfl
  · rw [if_neg (by simpa using hr),if_neg hr]
/-- a response without an error -/
structure Right (r : Int) (l : List Nat) : Prop where
  rate : 8000 ≤ r ∧ r ≤ 192000
  len : 0 < l.length ∧ l.length ≤ 1024
  smp : ∀ b ∈ l,∃ x,SGood b x
theorem right_of {r : Int} {l : List Nat} (h : (crErr r l).2 = 0) : Right r l ∧ crErr r l = (0,0):=by
  unfold crErr at h ⊢
  by_cases hr : 8000 ≤ r ∧ r ≤ 192000
  · rw [if_pos hr] at h ⊢
    by_cases h0 : l.length = 0
    · rw [if_pos h0] at h;exact absurd h (by decide)
    · rw [if_neg h0] at h ⊢
      by_cases h1 : 1024 < l.length
      · rw [if_pos h1] at h;exact absurd h (by decide)
      · rw [if_neg h1] at h ⊢
        cases hf : firstOf (serrAt l) l.length with
        | none =>
          refine ⟨⟨hr,⟨by omega,by omega⟩,fun b hb=>?_⟩,by rw [Option.getD_none]⟩
          obtain ⟨k,hk⟩:=List.mem_iff_getElem?.1 hb
          have hkl:=(List.getElem?_eq_some_iff.1 hk).1
          have:=firstOf_none.1 hf k hkl
          unfold serrAt at this
          rw [hk] at this
          simp only at this
          split at this
          · rename_i hz;exact serr_zero hz
          · cases this
        | some e =>
          rw [hf,Option.getD_some] at h
          exfalso
          unfold firstOf at hf
          obtain ⟨k,_,hk⟩:=List.exists_of_findSome?_eq_some hf
          unfold serrAt at hk
          split at hk
          · split at hk
            · cases hk
            · rename_i hz
              have:=Option.some.inj hk
              rw [← this] at h
              exact hz h
          · cases hk
  · rw [if_neg hr] at h
    exact absurd h (by decide)
noncomputable def caErr (r : Int) (l : List Nat) (n t : Int) : Int × Int :=
  if (crErr r l).2 ≠ 0 then crErr r l else (0,if 0 ≤ n ∧ n ≤ 32767 ∧ 0 ≤ t ∧ t ≤ 1000000000000 then 0 else 2)
theorem prog_ask (r : Int) (l : List Nat) (n t : Int) : figure_CheckAsk r l n t = some (caErr r l n t):=by
  unfold figure_CheckAsk caErr
  rw [prog_check]
  simp only [Option.bind_some]
  by_cases h : (crErr r l).2 = 0
  · rw [if_neg (by simp [h]),if_neg (by simp [h]),within_eq,within_eq]
    simp only [Option.bind_some]
    rw [firstError_eq (by simp)]
    simp only [Option.bind_some,Option.some.injEq,Prod.mk.injEq,true_and]
    by_cases h1 : 0 ≤ n ∧ n ≤ 32767<;>by_cases h2 : 0 ≤ t ∧ t ≤ 1000000000000
    · rw [if_pos h1,if_pos h2,if_pos (by omega)];rfl
    · rw [if_pos h1,if_neg h2,if_neg (by omega)];rfl
    · rw [if_neg h1,if_pos h2,if_neg (by omega)];rfl
    · rw [if_neg h1,if_neg h2,if_neg (by omega)];rfl
  · rw [if_pos (by simpa using h),if_pos h]
theorem ref_ask (r : Int) (l : List Nat) (n t : Int) : ref05_CheckAsk r l n t = some (caErr r l n t):=by
  unfold ref05_CheckAsk caErr
  rw [ref_check]
  simp only [Option.bind_some]
  by_cases h : (crErr r l).2 = 0
  · rw [if_neg (by simp [h]),if_neg (by simp [h]),base_within]
    simp only [Option.bind_some]
    by_cases h1 : 0 ≤ n ∧ n ≤ 32767
    · rw [if_pos (decide_eq_true h1),base_within]
      simp only [Option.bind_some]
      by_cases h2 : 0 ≤ t ∧ t ≤ 1000000000000
      · rw [if_pos (decide_eq_true h2),if_pos (by omega)]
      · rw [if_neg (by simpa using h2),if_neg (by omega)]
    · rw [if_neg (by simpa using h1),if_neg (by omega)]
  · rw [if_pos (by simpa using h),if_pos h]
theorem floor_eq (n d : Int) (hd : 0 < d) (hn : -4611686018427387904 ≤ n ∧ n ≤ 4611686018427387904) : base_Floor n d = some (n / d):=by
  unfold base_Floor
  rw [if_neg (by omega)]
  have hb : -4611686018427387904 ≤ n / d ∧ n / d ≤ 4611686018427387904:=by
    constructor
    · have h1 : n / d ≥ -4611686018427387904 / 1 ∨ True:=.inr trivial
      have:=Int.le_ediv_of_mul_le hd (a:=-4611686018427387904) (b:=n) (by
        have:=Int.mul_le_mul_of_nonneg_left (show (1 : Int) ≤ d by omega) (show (0 : Int) ≤ 4611686018427387904 by decide)
        omega)
      exact this
    · have := Int.ediv_le_of_le_mul hd (a := n) (b := 4611686018427387904) (by
        have:=Int.mul_le_mul_of_nonneg_left (show (1 : Int) ≤ d by omega) (show (0 : Int) ≤ 4611686018427387904 by decide)
        omega)
      exact this
  by_cases h0 : 0 ≤ n
  · have e1 : n.tmod d = n % d:=Int.tmod_eq_emod_of_nonneg h0
    have e2 : n.tdiv d = n / d:=Int.tdiv_eq_ediv_of_nonneg h0
    have:=Int.emod_nonneg n (show d ≠ 0 by omega)
    rw [e1,if_neg (by simpa using this),e2,w64 (by omega)]
  · have hq:=Int.mul_tdiv_add_tmod n d
    have hm : -d < n.tmod d ∧ n.tmod d ≤ 0:=by
      have h1:=Int.tmod_lt_of_pos (-n) hd
      rw [Int.neg_tmod] at h1
      have h2:=Int.tmod_nonneg (a:=-n) d (by omega)
      rw [Int.neg_tmod] at h2
      omega
    by_cases hz : n.tmod d < 0
    · rw [if_pos (decide_eq_true hz)]
      have hdiv : n / d = n.tdiv d - 1:=by
        have h3 : n = (n.tmod d + d) + d * (n.tdiv d - 1):=by rw [Int.mul_sub];omega
        rw [h3,Int.add_mul_ediv_left _ _ (by omega),Int.ediv_eq_zero_of_lt (by omega) (by omega)]
        have:=Int.mul_tdiv_add_tmod n d
        rw [← h3]
        omega
      rw [hdiv] at hb ⊢
      rw [w64 (x:=n.tdiv d) (by omega),w64 (by omega)]
    · rw [if_neg (by simpa using hz)]
      have hz0 : n.tmod d = 0:=by omega
      have hdiv : n / d = n.tdiv d:=by
        have h3 : n = d * n.tdiv d:=by omega
        rw [h3,Int.mul_ediv_cancel_left _ (by omega)]
        rw [← h3]
      rw [hdiv] at hb ⊢
      rw [w64 (by omega)]
theorem sampleAt_eq (r t : Int) (hr : 8000 ≤ r ∧ r ≤ 192000) (ht : 0 ≤ t ∧ t ≤ 1000000) : figure_sampleAt r t = some ((t * r + 999999) / 1000000) ∧ base_Ceil (IntKind.i64.wrap (t * r)) 1000000 = some ((t * r + 999999) / 1000000):=by
  have hb : 0 ≤ t * r ∧ t * r ≤ 192000000000:=by
    constructor
    · exact Int.mul_nonneg ht.1 (by omega)
    · have:=Int.mul_le_mul ht.2 hr.2 (by omega) (by decide)
      omega
  constructor
  · unfold figure_sampleAt figure_up
    rw [if_neg (by decide)]
    simp only [Option.bind_some]
    rw [w64 (x:=t * r) (by omega),w64 (x:=t * r + 1000000) (by omega),w64 (x:=t * r + 1000000 - 1) (by omega),Int.tdiv_eq_ediv_of_nonneg (by omega),w64 (by omega)]
    congr 2
    omega
  · unfold base_Ceil
    rw [w64 (x:=t * r) (by omega),w64 (x:=0 - t * r) (by omega),floor_eq _ _ (by decide) (by omega)]
    simp only [Option.bind_some]
    rw [w64 (by omega)]
    congr 1
    omega
theorem few_len {r : Int} {l : List Nat} (h : law05_Few r l = some true) : l.length ≤ 1026:=by
  unfold law05_Few at h
  split at h
  · rename_i q
    have:=of_decide_eq_true q
    omega
  · split at h
    · have:=of_decide_eq_true (Option.some.inj h)
      omega
    · cases h
theorem few_some (r : Int) (l : List Nat) : ∃ b,law05_Few r l = some b:=by
  unfold law05_Few
  split
  · exact ⟨_,rfl⟩
  · split<;>exact ⟨_,rfl⟩
theorem copy_eq (r : Int) (l : List Nat) (h : l.length ≤ 1026) : base_CopyResponse r l = some (r,l):=by
  unfold base_CopyResponse appI
  rw [if_pos (by simp;omega)]
  rfl
theorem copyA_eq (r : Int) (l : List Nat) (n t : Int) (h : l.length ≤ 1026) : ref05_Copy r l n t = some (r,l,n,t):=by
  unfold ref05_Copy
  rw [copy_eq r l h]
  rfl
end Go.Rex

namespace Go.Rex
open Go Go.Rex
set_option maxRecDepth 100000
/-! ## energies of samples -/
theorem sq_eq (r : Int) (l : List Nat) (n t k : Int) : figure_heard_square r l n t k = ref05_square r l n t k:=by
  unfold figure_heard_square ref05_square base_Size figure_between
  cases getI l k with
  | none=>rfl
  | some b =>
    simp only [Option.bind_some]
    cases f2i .f32 b .i64 with
    | none=>rfl
    | some x =>
      simp only [Option.bind_some]
      have key : ∀ y : Int,(if (0 : Int) > y then 0 else y) = (if y > 0 then y else 0):=by
        intro y
        split<;>split<;>omega
      rw [key]
noncomputable def val (l : List Nat) (k : Nat) : Int:=(f2i .f32 (l.getD k 0) .i64).getD 0
def loS (n x : Int) : Int:=(max (x.natAbs - n) 0) * (max (x.natAbs - n) 0)
def hiS (n x : Int) : Int:=(x.natAbs + n) * (x.natAbs + n)
theorem val_at {r : Int} {l : List Nat} (h : Right r l) {k : Nat} (hk : k < l.length) : (∃ b,l[k]? = some b ∧ f2i .f32 b .i64 = some (val l k)) ∧ (val l k).natAbs ≤ 32767:=by
  have hb : l[k]? = some l[k]:=List.getElem?_eq_getElem hk
  obtain ⟨x,h1,h2,h3⟩:=h.smp l[k] (List.getElem_mem hk)
  have hv:=h1.val ⟨h2,h3⟩
  have e : val l k = x:=by
    unfold val
    rw [List.getD_eq_getElem?_getD,hb,Option.getD_some,hv]
    rfl
  rw [e]
  exact ⟨⟨_,hb,hv⟩,by omega⟩
theorem sizes {n x : Int} (hn : 0 ≤ n ∧ n ≤ 32767) (hx : x.natAbs ≤ 32767) : 0 ≤ loS n x ∧ loS n x ≤ 4294836225 ∧ 0 ≤ hiS n x ∧ hiS n x ≤ 4294836225:=by
  unfold loS hiS
  have a1 : 0 ≤ max ((x.natAbs : Int) - n) 0 ∧ max ((x.natAbs : Int) - n) 0 ≤ 65535:=by omega
  have a2 : 0 ≤ (x.natAbs : Int) + n ∧ (x.natAbs : Int) + n ≤ 65535:=by omega
  refine ⟨Int.mul_nonneg a1.1 a1.1,?_,Int.mul_nonneg a2.1 a2.1,?_⟩
  · have:=Int.mul_le_mul a1.2 a1.2 a1.1 (by decide)
    omega
  · have:=Int.mul_le_mul a2.2 a2.2 a2.1 (by decide)
    omega
theorem square_at {r : Int} {l : List Nat} {n t : Int} (h : Right r l) (hn : 0 ≤ n ∧ n ≤ 32767) {k : Nat} (hk : k < l.length) : ref05_square r l n t (k : Int) = some (loS n (val l k),hiS n (val l k)):=by
  obtain ⟨⟨b,h1,h2⟩,h3⟩:=val_at h hk
  obtain ⟨s1,s2,s3,s4⟩:=sizes hn h3
  unfold ref05_square base_Size
  rw [getI_nat,h1]
  simp only [Option.bind_some]
  rw [h2]
  simp only [Option.bind_some]
  generalize val l k = x at h3 s1 s2 s3 s4 ⊢
  have e1 : (if IntKind.i64.wrap (0 - x) > x then IntKind.i64.wrap (0 - x) else x) = (x.natAbs : Int):=by
    rw [w64 (x:=0 - x) (by omega)]
    split<;>omega
  rw [e1,w64 (x:=(x.natAbs : Int) - n) (by omega),w64 (x:=(x.natAbs : Int) + n) (by omega)]
  have e2 : (if (x.natAbs : Int) - n > 0 then (x.natAbs : Int) - n else 0) = max ((x.natAbs : Int) - n) 0:=by
    split<;>omega
  rw [e2]
  unfold loS hiS at *
  rw [w64 (by omega),w64 (by omega)]
/-- the sum of the first ones -/
def sumTo (f : Nat → Int) : Nat → Int
  | 0=>0
  | k + 1=>sumTo f k + f k
theorem sumTo_le {f g : Nat → Int} : ∀ {n : Nat},(∀ k,k < n → f k ≤ g k) → sumTo f n ≤ sumTo g n
  | 0,_=>Int.le_refl _
  | n + 1,h=>by
    have:=sumTo_le (n:=n) fun k hk=>h k (by omega)
    have:=h n (by omega)
    unfold sumTo
    omega
theorem sumTo_bd {f : Nat → Int} {B : Int} : ∀ {n : Nat},(∀ k,k < n → 0 ≤ f k ∧ f k ≤ B) → 0 ≤ sumTo f n ∧ sumTo f n ≤ n * B
  | 0,_=>by simp [sumTo]
  | n + 1,h=>by
    have h1:=sumTo_bd (n:=n) fun k hk=>h k (by omega)
    have h2:=h n (by omega)
    unfold sumTo
    rw [Int.natCast_add,Int.add_mul]
    omega
def loW (l : Nat → Int) (n : Int) (a k : Nat) : Int:=sumTo (fun j=>loS n (l (a + j))) k
def hiW (l : Nat → Int) (n : Int) (a k : Nat) : Int:=sumTo (fun j=>hiS n (l (a + j))) k
theorem wins {r : Int} {l : List Nat} {n : Int} (h : Right r l) (hn : 0 ≤ n ∧ n ≤ 32767) {a c : Nat} (hc : a + c ≤ l.length) : (0 ≤ loW (val l) n a c ∧ loW (val l) n a c ≤ c * 4294836225) ∧ (0 ≤ hiW (val l) n a c ∧ hiW (val l) n a c ≤ c * 4294836225):=by
  have hs : ∀ k,k < c → _:=fun k hk=>sizes hn (val_at h (show a + k < l.length by omega)).2
  exact ⟨sumTo_bd fun k hk=>⟨(hs k hk).1,(hs k hk).2.1⟩,sumTo_bd fun k hk=>⟨(hs k hk).2.2.1,(hs k hk).2.2.2⟩⟩
theorem energy_run {r : Int} {l : List Nat} {n t : Int} (h : Right r l) (hn : 0 ≤ n ∧ n ≤ 32767) {a c : Nat} (hc : a + c ≤ l.length) :
    run (ref05_EnergyWithin_l1 r l n t ((a + c : Nat) : Int)) (0,0,(a : Int)) = some (loW (val l) n a c,hiW (val l) n a c):=by
  have hlen:=h.len.2
  have key:=run_iter (step:=ref05_EnergyWithin_l1 r l n t ((a + c : Nat) : Int)) (st:=fun k (b : Int × Int)=>(b.1,b.2,((a + k : Nat) : Int))) (g:=fun k b=>(b.1 + loS n (val l (a + k)),b.2 + hiS n (val l (a + k)))) (fin:=fun b=>b) c
    (fun k b=>b = (loW (val l) n a k,hiW (val l) n a k)) (b0:=(0,0)) rfl (fun k b hk hb=>by
      subst hb
      obtain ⟨w1,w2⟩:=wins h hn (a:=a) (c:=k) (by omega)
      have hs:=sizes hn (val_at h (show a + k < l.length by omega)).2
      have hk' : (k : Int) * 4294836225 ≤ 1024 * 4294836225:=Int.mul_le_mul_of_nonneg_right (by omega) (by decide)
      refine ⟨?_,rfl⟩
      unfold ref05_EnergyWithin_l1
      simp only
      rw [if_pos (by simp;omega),square_at h hn (by omega)]
      simp only [Option.bind_some]
      rw [w64 (by omega),w64 (by omega),w64 (by omega)]
      rfl) (fun b hb=>by
      unfold ref05_EnergyWithin_l1
      simp only
      rw [if_neg (by simp)])
  have h1:=key.1
  have h2:=key.2 c (Nat.le_refl _)
  rw [h2] at h1
  exact h1
theorem energy_l1_eq (r : Int) (l : List Nat) (n t b : Int) : figure_heard_energy_l1 r l n t b = ref05_EnergyWithin_l1 r l n t b:=by
  funext ⟨x,y,k⟩
  unfold figure_heard_energy_l1 ref05_EnergyWithin_l1
  simp only [sq_eq]
  rfl
theorem prog_energy {r : Int} {l : List Nat} {n t : Int} (h : Right r l) (hn : 0 ≤ n ∧ n ≤ 32767) {a c : Nat} (hc : a + c ≤ l.length) :
    figure_heard_energy r l n t (a : Int) ((a + c : Nat) : Int) = some (loW (val l) n a c,hiW (val l) n a c):=by
  unfold figure_heard_energy
  rw [energy_l1_eq,energy_run h hn hc]
  rfl
/-- the energy of a window -/
noncomputable def enW (l : List Nat) (n t : Int) (a c : Nat) : Int × Int:=(loW (val l) n a c,hiW (val l) n a c + if a + c = l.length then t else 0)
theorem ref_energy {r : Int} {l : List Nat} {n t : Int} (h : Right r l) (hn : 0 ≤ n ∧ n ≤ 32767) (ht : 0 ≤ t ∧ t ≤ 1000000000000) {a c : Nat} (hc : a + c ≤ l.length) :
    ref05_EnergyWithin r l n t (a : Int) ((a + c : Nat) : Int) = some (enW l n t a c):=by
  have hlen:=h.len.2
  obtain ⟨w1,w2⟩:=wins h hn hc
  have hk' : (c : Int) * 4294836225 ≤ 1024 * 4294836225:=Int.mul_le_mul_of_nonneg_right (by omega) (by decide)
  unfold ref05_EnergyWithin enW
  rw [energy_run h hn hc]
  simp only [Option.bind_some]
  by_cases he : a + c = l.length
  · rw [if_pos (by rw [decide_eq_true_eq];omega),if_pos he,w64 (by omega)]
  · rw [if_neg (by rw [decide_eq_true_eq];omega),if_neg he,Int.add_zero]
theorem prog_hear (r : Int) (l : List Nat) (n t : Int) : figure_hear r l n t = some (r,l,n,t,(caErr r l n t).2):=by
  unfold figure_hear
  rw [prog_ask]
  rfl
theorem ask_parts {r : Int} {l : List Nat} {n t : Int} (h : (caErr r l n t).2 = 0) : (crErr r l).2 = 0 ∧ (0 ≤ n ∧ n ≤ 32767) ∧ (0 ≤ t ∧ t ≤ 1000000000000):=by
  unfold caErr at h
  by_cases hc : (crErr r l).2 = 0
  · rw [if_neg (by simp [hc])] at h
    refine ⟨hc,?_⟩
    simp only at h
    split at h
    · rename_i q;omega
    · exact absurd h (by decide)
  · rw [if_pos hc] at h
    exact absurd h hc
theorem ask_plain (r : Int) (l : List Nat) : (caErr r l 0 0).2 = (crErr r l).2:=by
  unfold caErr
  by_cases hc : (crErr r l).2 = 0
  · rw [if_neg (by simp [hc]),hc]
    rfl
  · rw [if_pos hc]
theorem fe2 (a b : Int) : fe [a,b] = if a ≠ 0 then a else b:=by
  unfold fe fe
  by_cases h : a = 0
  · subst h
    by_cases hb : b = 0
    · subst hb;rfl
    · simp [hb]
  · simp [h]
end Go.Rex

namespace Go.Rex
open Go Go.Rex
set_option maxRecDepth 100000
/-! ## FigureEnergies -/
theorem loS_anti {n x : Int} (hn : 0 ≤ n ∧ n ≤ 32767) : loS n x ≤ loS 0 x ∧ loS 0 x ≤ hiS n x:=by
  unfold loS hiS
  have a1 : 0 ≤ max ((x.natAbs : Int) - n) 0:=by omega
  have a2 : max ((x.natAbs : Int) - n) 0 ≤ max ((x.natAbs : Int) - 0) 0:=by omega
  have a3 : max ((x.natAbs : Int) - 0) 0 ≤ (x.natAbs : Int) + n:=by omega
  exact ⟨Int.mul_le_mul a2 a2 a1 (by omega),Int.mul_le_mul a3 a3 (by omega) (by omega)⟩
theorem loW_anti {n : Int} (hn : 0 ≤ n ∧ n ≤ 32767) (v : Nat → Int) (a c : Nat) : loW v n a c ≤ loW v 0 a c ∧ loW v 0 a c ≤ hiW v n a c :=
  ⟨sumTo_le fun k _=>(loS_anti hn).1,sumTo_le fun k _=>(loS_anti hn).2⟩
end Go.Rex

namespace Go.Rex
open Go Go.Rex
set_option maxRecDepth 100000
/-! ## shares and FigureLateral -/
theorem gcd_prog : ∀ a b : Nat,run figure_commonDivisor_l1 ((a : Int),(b : Int)) = some ((Nat.gcd a b : Nat) : Int):=by
  intro a
  induction a using Nat.strongRecOn with
  | ind a ih =>
    intro b
    by_cases h : a = 0
    · subst h
      refine (run_stop (e:=((b : Nat) : Int)) ?_).trans (by rw [Nat.gcd_zero_left])
      unfold figure_commonDivisor_l1
      rfl
    · have hs : figure_commonDivisor_l1 ((a : Int), (b : Int)) = some (.inl (((b % a : Nat) : Int), (a : Int))) := by
        unfold figure_commonDivisor_l1
        simp only
        rw [if_pos (by rw [decide_eq_true_eq];omega),if_neg (by omega)]
        rw [Int.tmod_eq_emod_of_nonneg (by omega)]
        rfl
      rw [run_next hs,ih (b % a) (Nat.mod_lt _ (by omega)) a,Nat.gcd_rec a b]
theorem gcd_ref : ∀ b a : Nat,run base_Gcd_l1 ((a : Int),(b : Int)) = some ((Nat.gcd a b : Nat) : Int):=by
  intro b
  induction b using Nat.strongRecOn with
  | ind b ih =>
    intro a
    by_cases h : b = 0
    · subst h
      refine (run_stop (e:=((a : Nat) : Int)) ?_).trans (by rw [Nat.gcd_zero_right])
      unfold base_Gcd_l1
      rfl
    · have hs : base_Gcd_l1 ((a : Int), (b : Int)) = some (.inl ((b : Int), ((a % b : Nat) : Int))) := by
        unfold base_Gcd_l1
        simp only
        rw [if_pos (by rw [decide_eq_true_eq];omega),if_neg (by omega)]
        rw [Int.tmod_eq_emod_of_nonneg (by omega)]
        rfl
      rw [run_next hs,ih (a % b) (Nat.mod_lt _ (by omega)) b,Nat.gcd_comm b (a % b),Nat.gcd_comm a b,Nat.gcd_rec b a]
theorem size_eq {n : Int} (h : -4611686018427387904 ≤ n ∧ n ≤ 4611686018427387904) : base_Size n = some (n.natAbs : Int):=by
  unfold base_Size
  rw [w64 (x:=0 - n) (by omega)]
  congr 1
  split<;>omega
theorem share_eq {a b : Int} (ha : 0 ≤ a ∧ a ≤ 4611686018427387904) (hb : 0 ≤ b ∧ b ≤ 4611686018427387904) : figure_share a b = ref05_share a b:=by
  unfold figure_share ref05_share
  by_cases h : b = 0
  · rw [if_pos (decide_eq_true h),if_pos (decide_eq_true h)]
  · rw [if_neg (by simpa using h),if_neg (by simpa using h)]
    obtain ⟨a,rfl⟩:=Int.eq_ofNat_of_zero_le ha.1
    obtain ⟨b,rfl⟩:=Int.eq_ofNat_of_zero_le hb.1
    have hg : 0 < Nat.gcd a b:=Nat.gcd_pos_of_pos_right _ (by omega)
    have hgb : Nat.gcd a b ≤ b:=Nat.gcd_le_right _ (by omega)
    have h1 : figure_commonDivisor (a : Int) (b : Int) = some ((Nat.gcd a b : Nat) : Int):=by
      unfold figure_commonDivisor
      rw [gcd_prog]
      rfl
    have h2 : base_Lowest (a : Int) (b : Int) = some (IntKind.i64.wrap ((a : Int).tdiv ((Nat.gcd a b : Nat) : Int)),IntKind.i64.wrap ((b : Int).tdiv ((Nat.gcd a b : Nat) : Int))):=by
      unfold base_Lowest base_Gcd
      rw [gcd_ref]
      simp only [Option.bind_some]
      rw [size_eq (by omega)]
      simp only [Option.bind_some]
      rw [if_neg (by rw [decide_eq_true_eq];omega),if_neg (by omega)]
      rfl
    rw [h2]
    unfold figure_fraction
    rw [h1]
    simp only [Option.bind_some]
    rw [if_neg (by omega)]
    split
    · rfl
    · split<;>rfl
theorem split_eq {r : Int} {l : List Nat} (h : Right r l) (n t u : Int) (hu : 0 ≤ u ∧ u ≤ 1000000) : figure_heard_split r l n t u = some (if (l.length : Int) < (u * r + 999999) / 1000000 then (l.length : Int) else (u * r + 999999) / 1000000):=by
  unfold figure_heard_split figure_heard_count
  rw [(sampleAt_eq r u h.rate hu).1]
  rfl
theorem sampleAt_ref {r : Int} {l : List Nat} (h : Right r l) (u : Int) (hu : 0 ≤ u ∧ u ≤ 1000000) : ref05_SampleAt r u = some ((u * r + 999999) / 1000000,0):=by
  unfold ref05_SampleAt ref05_isRate ref05_TimeErr
  rw [base_within,base_within]
  simp only [Option.bind_some]
  rw [if_pos (decide_eq_true h.rate),if_pos (decide_eq_true hu)]
  simp only [Option.bind_some]
  rw [(sampleAt_eq r u h.rate hu).2]
  rfl
end Go.Rex

namespace Go.Rex
open Go Go.Rex
set_option maxRecDepth 100000
/-! ## sums to the end,and FigureSums -/
theorem sumTo_head (f : Nat → Int) : ∀ c : Nat,sumTo f (c + 1) = f 0 + sumTo (fun j=>f (j + 1)) c
  | 0=>by simp [sumTo]
  | c + 1=>by
    have h:=sumTo_head f c
    have e : sumTo f (c + 1 + 1) = sumTo f (c + 1) + f (c + 1):=rfl
    rw [e,h]
    have e2 : sumTo (fun j=>f (j + 1)) (c + 1) = sumTo (fun j=>f (j + 1)) c + f (c + 1):=rfl
    rw [e2]
    omega
/-- the energy from `k` to the end -/
noncomputable def sfx (l : List Nat) (n t : Int) (k : Nat) : Int × Int:=(loW (val l) n k (l.length - k),hiW (val l) n k (l.length - k) + t)
theorem loW_head (v : Nat → Int) (n : Int) (k c : Nat) : loW v n k (c + 1) = loS n (v k) + loW v n (k + 1) c:=by
  unfold loW
  rw [sumTo_head]
  congr 1
  congr 1
  funext j
  congr 2
  omega
theorem hiW_head (v : Nat → Int) (n : Int) (k c : Nat) : hiW v n k (c + 1) = hiS n (v k) + hiW v n (k + 1) c:=by
  unfold hiW
  rw [sumTo_head]
  congr 1
  congr 1
  funext j
  congr 2
  omega
theorem sfx_step (l : List Nat) (n t : Int) {k : Nat} (hk : k < l.length) : sfx l n t k = (loS n (val l k) + (sfx l n t (k + 1)).1,hiS n (val l k) + (sfx l n t (k + 1)).2):=by
  unfold sfx
  obtain ⟨c,hc⟩ : ∃ c,l.length - k = c + 1:=⟨l.length - k - 1,by omega⟩
  rw [hc,loW_head,hiW_head,show l.length - (k + 1) = c by omega]
  simp only [Prod.mk.injEq,true_and]
  omega
theorem sfx_bd {r : Int} {l : List Nat} {n t : Int} (h : Right r l) (hn : 0 ≤ n ∧ n ≤ 32767) (ht : 0 ≤ t ∧ t ≤ 1000000000000) {k : Nat} (hk : k ≤ l.length) : 0 ≤ (sfx l n t k).1 ∧ (sfx l n t k).1 ≤ 4397912294400 ∧ 0 ≤ (sfx l n t k).2 ∧ (sfx l n t k).2 ≤ 5397912294400:=by
  have hle:=h.len.2
  obtain ⟨w1,w2⟩:=wins h hn (a:=k) (c:=l.length - k) (by omega)
  have hk' : ((l.length - k : Nat) : Int) * 4294836225 ≤ 1024 * 4294836225:=Int.mul_le_mul_of_nonneg_right (by omega) (by decide)
  unfold sfx
  simp only
  omega
/-- the program's list of sums -/
noncomputable def sums (l : List Nat) (n t : Int) : List (Int × Int):=(List.range (l.length + 1)).map (sfx l n t)
theorem heard_sums {r : Int} {l : List Nat} {n t : Int} (h : Right r l) (hn : 0 ≤ n ∧ n ≤ 32767) (ht : 0 ≤ t ∧ t ≤ 1000000000000) : figure_heard_sums r l n t = some (sums l n t):=by
  have hle:=h.len
  have hmk : mkI 16 ((l.length + 1 : Nat) : Int) ((0,0) : Int × Int) = some (List.replicate (l.length + 1) (0,0)):=by
    unfold mkI
    rw [if_pos (by omega)]
    rfl
  have key:=run_iter (step:=figure_heard_sums_l1 r l n t) (st:=fun k (b : List (Int × Int))=>(b,(l.length : Int) - 1 - (k : Int))) (g:=fun k b=>b.set (l.length - 1 - k) (sfx l n t (l.length - 1 - k))) (fin:=fun b=>b) l.length
    (fun k b=>b.length = l.length + 1 ∧ ∀ i,l.length - k ≤ i → i ≤ l.length → b[i]? = some (sfx l n t i)) (b0:=(List.replicate (l.length + 1) ((0,0) : Int × Int)).set l.length (0,t)) (by
      refine ⟨by simp,fun i h1 h2=>?_⟩
      have : i = l.length:=by omega
      subst this
      rw [List.getElem?_set_self (by simp)]
      unfold sfx loW hiW
      rw [Nat.sub_self]
      simp [sumTo]) (fun k b hk hb=>by
      obtain ⟨hb1,hb2⟩:=hb
      have hi:=hb2 (l.length - 1 - k + 1) (by omega) (by omega)
      have hkl : l.length - 1 - k < l.length:=by omega
      have hs:=sizes hn (val_at h hkl).2
      have hbd:=sfx_bd h hn ht (k:=l.length - 1 - k + 1) (by omega)
      refine ⟨?_,by simp [hb1],fun i h1 h2=>?_⟩
      · unfold figure_heard_sums_l1
        simp only
        rw [if_pos (by rw [decide_eq_true_eq];omega)]
        rw [show (l.length : Int) - 1 - (k : Int) = ((l.length - 1 - k : Nat) : Int) by omega,wsucc (n:=1024) (by omega) (by decide),getI_nat,hi]
        simp only [Option.bind_some]
        rw [sq_eq,square_at h hn hkl]
        simp only [Option.bind_some,figure_ends_plus,figure_between]
        rw [getI_lt' (by omega)]
        simp only [Option.bind_some]
        rw [w64 (by omega),w64 (by omega),w64 (by omega),sfx_step l n t hkl,Int.toNat_natCast,Int.add_comm (loS n _),Int.add_comm (hiS n _)]
        rw [show ((l.length - 1 - k : Nat) : Int) - 1 = (l.length : Int) - 1 - ((k + 1 : Nat) : Int) by omega]
      · by_cases hi' : i = l.length - 1 - k
        · rw [hi',List.getElem?_set_self (by omega)]
        · rw [List.getElem?_set_ne (by omega)]
          exact hb2 i (by omega) h2) (fun b hb=>by
      unfold figure_heard_sums_l1
      simp only
      rw [if_neg (by rw [decide_eq_true_eq];omega)])
  have hI:=key.2 l.length (Nat.le_refl _)
  have hr:=key.1
  generalize iter _ _ _ = L at hI hr
  have hL : L = sums l n t:=by
    refine List.ext_getElem? fun i=>?_
    unfold sums
    by_cases hi : i ≤ l.length
    · rw [hI.2 i (by omega) hi,List.getElem?_map,List.getElem?_range (by omega)]
      rfl
    · rw [List.getElem?_eq_none (by omega),List.getElem?_eq_none (by simp;omega)]
  unfold figure_heard_sums figure_heard_count figure_heard_behind figure_between
  simp only [Option.bind_some]
  rw [wsucc (n:=1024) (by omega) (by decide),hmk]
  simp only [Option.bind_some]
  rw [getI_lt' (by simp)]
  simp only [Option.bind_some]
  rw [w64 (by omega),Int.toNat_natCast]
  simp only [Int.ofNat_zero,Int.sub_zero,Int.natCast_zero] at hr
  rw [hr,hL]
  rfl
theorem ref_sum {r : Int} {l : List Nat} {n t : Int} (h : Right r l) (hn : 0 ≤ n ∧ n ≤ 32767) (ht : 0 ≤ t ∧ t ≤ 1000000000000) {k : Nat} (hk : k ≤ l.length) : ref05_sum r l n t (k : Int) = some (sfx l n t k):=by
  unfold ref05_sum
  have:=ref_energy h hn ht (a:=k) (c:=l.length - k) (by omega)
  rw [show k + (l.length - k) = l.length by omega] at this
  rw [this]
  unfold enW sfx
  rw [if_pos (by omega)]
  rfl
end Go.Rex

namespace Go.Rex
open Go Go.Rex
set_option maxRecDepth 100000
def sgn (z : Int) : Int:=if z < 0 then -1 else if z > 0 then 1 else 0
/-- comparing by whole parts -/
theorem bcmp_run : ∀ (s : Nat) (n d m k : Int),0 ≤ n ∧ n ≤ 4611686018427387904 → 0 < d ∧ d ≤ 4611686018427387904 → 0 ≤ m ∧ m ≤ 4611686018427387904 → 0 < k ∧ k ≤ 4611686018427387904 → d + k = s → run base_Compare_l1 (n,d,m,k) = some (sgn (n * k - m * d)):=by
  intro s
  induction s using Nat.strongRecOn with
  | _ s ih =>
    intro n d m k hn hd hm hk hs
    have e1:=Int.emod_add_mul_ediv n d
    have e2:=Int.emod_add_mul_ediv m k
    have r1:=Int.emod_nonneg n (show d ≠ 0 by omega)
    have r2:=Int.emod_lt_of_pos n hd.1
    have r3:=Int.emod_nonneg m (show k ≠ 0 by omega)
    have r4:=Int.emod_lt_of_pos m hk.1
    have p0 : 0 ≤ n / d:=Int.ediv_nonneg hn.1 (by omega)
    have q0 : 0 ≤ m / k:=Int.ediv_nonneg hm.1 (by omega)
    have d1 : d * (n / d) = n - n % d:=by omega
    have d2 : k * (m / k) = m - m % k:=by omega
    have step : base_Compare_l1 (n,d,m,k) = if decide (n / d < m / k) = true then some (.inr (-1)) else if decide (n / d > m / k) = true then some (.inr 1) else if decide (n % d = 0) = true then (if decide (m % k = 0) = true then some (.inr 0) else some (.inr (-1))) else if decide (m % k = 0) = true then some (.inr 1) else some (.inl (k,m % k,d,n % d)):=by
      dsimp only [base_Compare_l1]
      rw [floor_eq _ _ hd.1 (by omega),floor_eq _ _ hk.1 (by omega),Option.bind_some,Option.bind_some,Int.mul_comm (n / d) d,Int.mul_comm (m / k) k,d1,d2,w64 (x:=n - n % d) (by omega),w64 (x:=m - m % k) (by omega),w64 (x:=n - (n - n % d)) (by omega),w64 (x:=m - (m - m % k)) (by omega),show n - (n - n % d) = n % d by omega,show m - (m - m % k) = m % k by omega]
    have hz : n * k - m * d = d * k * (n / d - m / k) + (n % d * k - m % k * d):=by
      have h1 : n * k = d * k * (n / d) + n % d * k:=by
        conv=>lhs;rw [← e1]
        rw [Int.add_mul,Int.mul_right_comm,Int.add_comm]
      have h2 : m * d = d * k * (m / k) + m % k * d:=by
        conv=>lhs;rw [← e2]
        rw [Int.add_mul,Int.mul_right_comm,Int.add_comm,Int.mul_comm k d]
      rw [h1,h2,Int.mul_sub]
      omega
    have t1 : 0 ≤ n % d * k:=Int.mul_nonneg r1 (by omega)
    have t2 : 0 ≤ m % k * d:=Int.mul_nonneg r3 (by omega)
    have t3 : n % d * k < d * k:=Int.mul_lt_mul_of_pos_right r2 hk.1
    have t4 : m % k * d < d * k:=by rw [Int.mul_comm d k];exact Int.mul_lt_mul_of_pos_right r4 hd.1
    have t5 : 0 < d * k:=Int.mul_pos hd.1 hk.1
    by_cases c1 : n / d < m / k
    · rw [if_pos (by simpa using c1)] at step
      rw [run_stop step]
      have h : d * k * (n / d - m / k) ≤ d * k * (-1):=Int.mul_le_mul_of_nonneg_left (by omega) (by omega)
      unfold sgn
      rw [if_pos (by omega)]
    · rw [if_neg (by simpa using c1)] at step
      by_cases c2 : n / d > m / k
      · rw [if_pos (by simpa using c2)] at step
        rw [run_stop step]
        have h : d * k * 1 ≤ d * k * (n / d - m / k):=Int.mul_le_mul_of_nonneg_left (by omega) (by omega)
        unfold sgn
        rw [if_neg (by omega),if_pos (by omega)]
      · rw [if_neg (by simpa using c2)] at step
        have hz2 : n * k - m * d = n % d * k - m % k * d:=by
          rw [hz,show n / d - m / k = 0 by omega,Int.mul_zero,Int.zero_add]
        rw [hz2]
        by_cases c3 : n % d = 0
        · rw [if_pos (by simpa using c3)] at step
          by_cases c4 : m % k = 0
          · rw [if_pos (by simpa using c4)] at step
            rw [run_stop step,c3,c4]
            simp [sgn]
          · rw [if_neg (by simpa using c4)] at step
            have:=Int.mul_pos (show 0 < m % k by omega) hd.1
            rw [run_stop step,c3,Int.zero_mul]
            unfold sgn
            rw [if_pos (by omega)]
        · rw [if_neg (by simpa using c3)] at step
          have h5:=Int.mul_pos (show 0 < n % d by omega) hk.1
          by_cases c4 : m % k = 0
          · rw [if_pos (by simpa using c4)] at step
            rw [run_stop step,c4,Int.zero_mul]
            unfold sgn
            rw [if_neg (by omega),if_pos (by omega)]
          · rw [if_neg (by simpa using c4)] at step
            rw [run_next step,ih (m % k + n % d).toNat (by omega) k (m % k) d (n % d) (by omega) (by omega) (by omega) (by omega) (by omega),Int.mul_comm k,Int.mul_comm d]

theorem bcmp_eq {n d m k : Int} (hn : 0 ≤ n ∧ n ≤ 4611686018427387904) (hd : 0 < d ∧ d ≤ 4611686018427387904) (hm : 0 ≤ m ∧ m ≤ 4611686018427387904) (hk : 0 < k ∧ k ≤ 4611686018427387904) : base_Compare n d m k = some (sgn (n * k - m * d)):=by
  unfold base_Compare
  rw [bcmp_run (d + k).toNat n d m k hn hd hm hk (by omega)]
  rfl
/-! ## FigureDefinitions -/
theorem sumTo_add (f : Nat → Int) (a : Nat) : ∀ c : Nat,sumTo f (a + c) = sumTo f a + sumTo (fun j=>f (a + j)) c
  | 0=>by simp [sumTo]
  | c + 1=>by
    have h:=sumTo_add f a c
    have e : sumTo f (a + (c + 1)) = sumTo f (a + c) + f (a + c):=rfl
    have e2 : sumTo (fun j=>f (a + j)) (c + 1) = sumTo (fun j=>f (a + j)) c + f (a + c):=rfl
    rw [e,h,e2]
    omega
theorem loW_split (v : Nat → Int) (n : Int) (a c : Nat) : loW v n 0 (a + c) = loW v n 0 a + loW v n a c:=by
  unfold loW
  rw [sumTo_add]
  congr 1
  congr 1
  funext j
  congr 2
  omega
theorem up_eq {a b : Int} (ha : 0 ≤ a ∧ a ≤ 1000000000000000000) (hb : 0 < b ∧ b ≤ 1000000000000000000) : figure_up a b = some ((a + b - 1) / b) ∧ base_Ceil a b = some ((a + b - 1) / b):=by
  have hq0 : 0 ≤ (a + b - 1) / b:=Int.ediv_nonneg (by omega) (by omega)
  have hq1 : (a + b - 1) / b ≤ 2000000000000000000:=Int.ediv_le_of_le_mul hb.1 (by
    have:=Int.mul_le_mul_of_nonneg_left (show (1 : Int) ≤ b by omega) (show (0 : Int) ≤ 2000000000000000000 by decide)
    omega)
  constructor
  · unfold figure_up
    rw [if_neg (by omega),w64 (x:=a + b) (by omega),w64 (x:=a + b - 1) (by omega),Int.tdiv_eq_ediv_of_nonneg (by omega),w64 (by omega)]
  · unfold base_Ceil
    rw [w64 (x:=0 - a) (by omega),floor_eq _ _ hb.1 (by omega)]
    have hd : (0 - a) / b = -((a + b - 1) / b):=by
      have h1:=Int.emod_add_mul_ediv (a + b - 1) b
      have h2:=Int.emod_nonneg (a + b - 1) (show b ≠ 0 by omega)
      have h3:=Int.emod_lt_of_pos (a + b - 1) hb.1
      have h4 : 0 - a = (b - 1 - (a + b - 1) % b) + b * (-((a + b - 1) / b)):=by
        rw [Int.mul_neg]
        omega
      rw [h4,Int.add_mul_ediv_left _ _ (by omega),Int.ediv_eq_zero_of_lt (by omega) (by omega)]
      omega
    rw [hd]
    simp only [Option.bind_some]
    rw [w64 (by omega)]
    congr 1
    omega
theorem down_eq {a b : Int} (ha : 0 ≤ a ∧ a ≤ 1000000000000000000) (hb : 0 < b ∧ b ≤ 1000000000000000000) : figure_down a b = some (a / b) ∧ base_Floor a b = some (a / b):=by
  have hq0 : 0 ≤ a / b:=Int.ediv_nonneg (by omega) (by omega)
  have hq1 : a / b ≤ 1000000000000000000:=Int.ediv_le_of_le_mul hb.1 (by
    have:=Int.mul_le_mul_of_nonneg_left (show (1 : Int) ≤ b by omega) (show (0 : Int) ≤ 1000000000000000000 by decide)
    omega)
  refine ⟨?_,floor_eq _ _ hb.1 (by omega)⟩
  unfold figure_down
  rw [if_neg (by omega),Int.tdiv_eq_ediv_of_nonneg (by omega),w64 (by omega)]
/-- where a time falls -/
noncomputable def spl (r : Int) (l : List Nat) (u : Int) : Nat:=min l.length ((u * r + 999999) / 1000000).toNat
theorem spl_eq {r : Int} {l : List Nat} (h : Right r l) {u : Int} (hu : 0 ≤ u ∧ u ≤ 1000000) : (if (l.length : Int) < (u * r + 999999) / 1000000 then (l.length : Int) else (u * r + 999999) / 1000000) = ((spl r l u : Nat) : Int):=by
  have hr:=h.rate
  have : 0 ≤ u * r:=Int.mul_nonneg hu.1 (by omega)
  unfold spl
  split<;>omega
theorem spl_le (r : Int) (l : List Nat) (u : Int) : spl r l u ≤ l.length:=Nat.min_le_left _ _
/-- the bounds of a definition -/
def defB (eL eH lL lH : Int) : Int × Int × Int:=if eL + lL = 0 then (0,0,11) else (1000 * eL / (eL + lH),(1000 * eH + (eH + lL) - 1) / (eH + lL),0)
noncomputable def defW (r : Int) (l : List Nat) (n t u : Int) : Int × Int × Int:=defB (loW (val l) n 0 (spl r l u)) (hiW (val l) n 0 (spl r l u)) (sfx l n t (spl r l u)).1 (sfx l n t (spl r l u)).2
theorem prog_early {r : Int} {l : List Nat} {n : Int} (t : Int) (h : Right r l) (hn : 0 ≤ n ∧ n ≤ 32767) {u : Int} (hu : 0 ≤ u ∧ u ≤ 1000000) : figure_heard_early r l n t u = some (loW (val l) n 0 (spl r l u),hiW (val l) n 0 (spl r l u)):=by
  unfold figure_heard_early
  rw [split_eq h n t u hu,spl_eq h hu]
  simp only [Option.bind_some]
  have:=prog_energy (t:=t) h hn (a:=0) (c:=spl r l u) (by have:=spl_le r l u;omega)
  rw [Nat.zero_add] at this
  simp only [Int.natCast_zero] at this
  rw [this]
  rfl
theorem sums_get (l : List Nat) (n t : Int) {k : Nat} (hk : k ≤ l.length) : getI (sums l n t) (k : Int) = some (sfx l n t k):=by
  unfold sums
  rw [getI_nat,List.getElem?_map,List.getElem?_range (by omega)]
  rfl
theorem defs_bd {r : Int} {l : List Nat} {n t : Int} (h : Right r l) (hn : 0 ≤ n ∧ n ≤ 32767) (ht : 0 ≤ t ∧ t ≤ 1000000000000) {k : Nat} (hk : k ≤ l.length) :
    (0 ≤ loW (val l) n 0 k ∧ loW (val l) n 0 k ≤ hiW (val l) n 0 k ∧ hiW (val l) n 0 k ≤ 4397912294400) ∧ (0 ≤ (sfx l n t k).1 ∧ (sfx l n t k).1 ≤ (sfx l n t k).2 ∧ (sfx l n t k).2 ≤ 5397912294400):=by
  have hle:=h.len.2
  obtain ⟨w1,w2⟩:=wins h hn (a:=0) (c:=k) (by omega)
  have hk' : (k : Int) * 4294836225 ≤ 1024 * 4294836225:=Int.mul_le_mul_of_nonneg_right (by omega) (by decide)
  have h1:=loW_anti hn (val l) 0 k
  have h2:=sfx_bd h hn ht hk
  have h3:=loW_anti hn (val l) k (l.length - k)
  refine ⟨by omega,h2.1,?_,h2.2.2.2⟩
  unfold sfx
  simp only
  omega
theorem prog_def {r : Int} {l : List Nat} {n t : Int} (h : Right r l) (hn : 0 ≤ n ∧ n ≤ 32767) (ht : 0 ≤ t ∧ t ≤ 1000000000000) {u : Int} (hu : 0 ≤ u ∧ u ≤ 1000000) : figure_heard_definition r l n t u = some (defW r l n t u):=by
  unfold figure_heard_definition figure_heard_late
  rw [prog_early t h hn hu,heard_sums h hn ht,split_eq h n t u hu,spl_eq h hu]
  simp only [Option.bind_some]
  rw [sums_get l n t (spl_le r l u)]
  simp only [Option.bind_some]
  unfold defW defB
  obtain ⟨⟨b1,b2,b3⟩,b4,b5,b6⟩:=defs_bd h hn ht (spl_le r l u)
  generalize loW (val l) n 0 (spl r l u) = eL at b1 b2 ⊢
  generalize hiW (val l) n 0 (spl r l u) = eH at b2 b3 ⊢
  generalize (sfx l n t (spl r l u)).1 = lL at b4 b5 ⊢
  generalize (sfx l n t (spl r l u)).2 = lH at b5 b6 ⊢
  have main : eL + lL ≠ 0 → ((figure_ends_times eL eH 1000).bind fun (v13, v14) =>
      (figure_down v13 (IntKind.i64.wrap (eL + lH))).bind fun v15 =>
      (figure_up v14 (IntKind.i64.wrap (eH + lL))).bind fun v16 =>
      (figure_between v15 v16).bind fun (v17,v18) =>
      some (v17,v18,(0 : Int))) = some (1000 * eL / (eL + lH),(1000 * eH + (eH + lL) - 1) / (eH + lL),0):=by
    intro hne
    unfold figure_ends_times figure_between
    simp only [Option.bind_some]
    rw [w64 (x:=eL * 1000) (by omega),w64 (x:=eH * 1000) (by omega),w64 (x:=eL + lH) (by omega),w64 (x:=eH + lL) (by omega),Int.mul_comm eL,Int.mul_comm eH,(down_eq (by omega) (by omega)).1,(up_eq (by omega) (by omega)).1]
    rfl
  by_cases h1 : eL = 0
  · rw [if_pos (by simpa using h1)]
    by_cases h2 : lL = 0
    · rw [if_pos (by simpa using h2),if_pos (by omega)]
    · rw [if_neg (by simpa using h2),if_neg (by omega)]
      exact main (by omega)
  · rw [if_neg (by simpa using h1),if_neg (by omega)]
    exact main (by omega)
theorem ref_parts {r : Int} {l : List Nat} {n t : Int} (h : Right r l) (hn : 0 ≤ n ∧ n ≤ 32767) (ht : 0 ≤ t ∧ t ≤ 1000000000000) {u : Int} (hu : 0 ≤ u ∧ u ≤ 1000000) : ref05_parts r l n t u = some (loW (val l) n 0 (spl r l u),hiW (val l) n 0 (spl r l u),(sfx l n t (spl r l u)).1,(sfx l n t (spl r l u)).2):=by
  have hs:=spl_le r l u
  have hle:=h.len.2
  unfold ref05_parts
  rw [sampleAt_ref h u hu]
  simp only [Option.bind_some]
  rw [spl_eq h hu]
  have e1:=ref_energy h hn ht (a:=0) (c:=spl r l u) (by omega)
  have e2:=ref_energy h hn ht (a:=spl r l u) (c:=l.length - spl r l u) (by omega)
  rw [Nat.zero_add] at e1
  rw [show spl r l u + (l.length - spl r l u) = l.length by omega] at e2
  simp only [Int.natCast_zero] at e1
  rw [e1,e2]
  simp only [Option.bind_some]
  obtain ⟨⟨b1,b2,b3⟩,b4,b5,b6⟩:=defs_bd h hn ht hs
  have e3 : enW l n t (spl r l u) (l.length - spl r l u) = sfx l n t (spl r l u):=by
    unfold enW sfx
    rw [if_pos (by omega)]
  rw [e3]
  unfold enW
  simp only
  by_cases he : spl r l u = l.length
  · rw [if_pos (by rw [decide_eq_true_eq];omega),if_pos (by omega),w64 (by omega),Int.add_sub_cancel]
  · rw [if_neg (by rw [decide_eq_true_eq];omega),if_neg (by omega),Int.add_zero]
theorem ref_def {r : Int} {l : List Nat} {n t : Int} (h : Right r l) (hn : 0 ≤ n ∧ n ≤ 32767) (ht : 0 ≤ t ∧ t ≤ 1000000000000) {u : Int} (hu : 0 ≤ u ∧ u ≤ 1000000) : ref05_DefinitionWithin r l n t u = some (defW r l n t u):=by
  unfold ref05_DefinitionWithin
  rw [ref_parts h hn ht hu]
  simp only [Option.bind_some]
  unfold defW defB
  obtain ⟨⟨b1,b2,b3⟩,b4,b5,b6⟩:=defs_bd h hn ht (spl_le r l u)
  generalize loW (val l) n 0 (spl r l u) = eL at b1 b2 ⊢
  generalize hiW (val l) n 0 (spl r l u) = eH at b2 b3 ⊢
  generalize (sfx l n t (spl r l u)).1 = lL at b4 b5 ⊢
  generalize (sfx l n t (spl r l u)).2 = lH at b5 b6 ⊢
  rw [w64 (x:=eL + lL) (by omega)]
  by_cases h0 : eL + lL = 0
  · rw [if_pos (decide_eq_true h0),if_pos h0]
  · rw [if_neg (by simpa using h0),if_neg h0,w64 (x:=1000 * eL) (by omega),w64 (x:=1000 * eH) (by omega),w64 (x:=eL + lH) (by omega),w64 (x:=eH + lL) (by omega),(down_eq (by omega) (by omega)).2,(up_eq (by omega) (by omega)).2]
    rfl

end Go.Rex

namespace Go.Rex
open Go Go.Rex
set_option maxRecDepth 100000
theorem timeErr_eq (u : Int) : figure_timeError u = some (if 0 ≤ u ∧ u ≤ 1000000 then 0 else 2):=by
  unfold figure_timeError
  rw [within_eq]
  rfl
theorem timeErr_ref (u : Int) : ref05_TimeErr u = some (if 0 ≤ u ∧ u ≤ 1000000 then 0 else 2):=by
  unfold ref05_TimeErr
  rw [base_within]
  simp only [Option.bind_some]
  by_cases h : 0 ≤ u ∧ u ≤ 1000000
  · rw [if_pos (decide_eq_true h),if_pos h]
  · rw [if_neg (by simpa using h),if_neg h]
/-- the exact share -/
noncomputable def defS (r : Int) (l : List Nat) (u : Int) : Option (Int × Int × Int):=ref05_share (loW (val l) 0 0 (spl r l u)) (loW (val l) 0 0 l.length)
theorem prog_definition (r : Int) (l : List Nat) (u : Int) {w : Int} (hw : (if 0 ≤ u ∧ u ≤ 1000000 then 0 else 2) = w) : ((crErr r l).2 ≠ 0 ∨ w ≠ 0 → figure_Definition r l u = some (0, 0, fe [(crErr r l).2, w])) ∧
    ((crErr r l).2 = 0 → w = 0 → figure_Definition r l u = defS r l u):=by
  unfold figure_Definition figure_plain
  simp only [Option.bind_some]
  rw [prog_hear,timeErr_eq,hw]
  simp only [Option.bind_some]
  rw [firstError_eq (by simp),ask_plain]
  simp only [Option.bind_some]
  constructor
  · intro h
    rw [if_pos]
    rw [decide_eq_true_eq,fe2]
    split
    · assumption
    · rename_i q
      rcases h with h|h
      · exact absurd h q
      · exact h
  · intro h1 h2
    have hu : 0 ≤ u ∧ u ≤ 1000000:=by
      rw [h2] at hw
      split at hw
      · assumption
      · exact absurd hw (by decide)
    have R:=(right_of h1).1
    have hle:=R.len
    rw [h1,h2,show fe [0,0] = 0 from rfl,if_neg (by decide),prog_early 0 R (by omega) hu]
    simp only [Option.bind_some]
    unfold figure_heard_all
    rw [heard_sums R (by omega) (by omega)]
    simp only [Option.bind_some]
    have:=sums_get l 0 0 (k:=0) (by omega)
    simp only [Int.natCast_zero] at this
    rw [this]
    simp only [Option.bind_some]
    have b1:=(defs_bd R (n:=0) (t:=0) (by omega) (by omega) (spl_le r l u)).1
    have b2:=(defs_bd R (n:=0) (t:=0) (by omega) (by omega) (Nat.le_refl l.length)).1
    have e : (sfx l 0 0 0).1 = loW (val l) 0 0 l.length:=by
      unfold sfx
      rw [Nat.sub_zero]
    rw [e,share_eq (by omega) (by omega)]
    unfold defS
    cases ref05_share (loW (val l) 0 0 (spl r l u)) (loW (val l) 0 0 l.length)<;>rfl
theorem ref_definition {r : Int} {l : List Nat} {u : Int} (R : Right r l) (hu : 0 ≤ u ∧ u ≤ 1000000) : ref05_Definition r l u = defS r l u:=by
  have hle:=R.len
  unfold ref05_Definition ref05_Plain
  simp only [Option.bind_some]
  rw [ref_parts R (by omega) (by omega) hu]
  simp only [Option.bind_some]
  have:=ref_sum R (n:=0) (t:=0) (by omega) (by omega) (k:=0) (by omega)
  simp only [Int.natCast_zero] at this
  rw [this]
  simp only [Option.bind_some]
  have e : (sfx l 0 0 0).1 = loW (val l) 0 0 l.length:=by
    unfold sfx
    rw [Nat.sub_zero]
  rw [e]
  unfold defS
  cases ref05_share (loW (val l) 0 0 (spl r l u)) (loW (val l) 0 0 l.length)<;>rfl
theorem prog_defWithin (r : Int) (l : List Nat) (n t u : Int) {w : Int} (hw : (if 0 ≤ u ∧ u ≤ 1000000 then 0 else 2) = w) : ((caErr r l n t).2 ≠ 0 ∨ w ≠ 0 → figure_DefinitionWithin r l n t u = some (0, 0, fe [(caErr r l n t).2, w])) ∧
    ((caErr r l n t).2 = 0 → w = 0 → figure_DefinitionWithin r l n t u = some (defW r l n t u)):=by
  unfold figure_DefinitionWithin
  rw [prog_hear,timeErr_eq,hw]
  simp only [Option.bind_some]
  rw [firstError_eq (by simp)]
  simp only [Option.bind_some]
  constructor
  · intro h
    rw [if_pos]
    rw [decide_eq_true_eq,fe2]
    split
    · assumption
    · rename_i q
      rcases h with h|h
      · exact absurd h q
      · exact h
  · intro h1 h2
    have hu : 0 ≤ u ∧ u ≤ 1000000:=by
      rw [h2] at hw
      split at hw
      · assumption
      · exact absurd hw (by decide)
    obtain ⟨k1,k2,k3⟩:=ask_parts h1
    have R:=(right_of k1).1
    rw [h1,h2,show fe [0,0] = 0 from rfl,if_neg (by decide),prog_def R k2 k3 hu]
    rfl
/-- a share in lowest terms -/
theorem share_low {a b : Int} (ha : 0 ≤ a ∧ a ≤ 4611686018427387904) (hb : 0 ≤ b ∧ b ≤ 4611686018427387904) : ∃ x y z,ref05_share a b = some (x,y,z) ∧ (z = 0 → ∃ g : Int,0 < g ∧ a = x * g ∧ b = y * g ∧ 0 < b ∧ 0 ≤ x ∧ x ≤ 1000000000 ∧ 0 < y ∧ y ≤ 1000000000):=by
  unfold ref05_share
  by_cases h : b = 0
  · rw [if_pos (decide_eq_true h)]
    exact ⟨_,_,_,rfl,fun h=>absurd h (by decide)⟩
  · rw [if_neg (by simpa using h)]
    obtain ⟨a,rfl⟩:=Int.eq_ofNat_of_zero_le ha.1
    obtain ⟨b,rfl⟩:=Int.eq_ofNat_of_zero_le hb.1
    have hg : 0 < Nat.gcd a b:=Nat.gcd_pos_of_pos_right _ (by omega)
    have hgb : Nat.gcd a b ≤ b:=Nat.gcd_le_right _ (by omega)
    unfold base_Lowest base_Gcd
    rw [gcd_ref]
    simp only [Option.bind_some]
    rw [size_eq (by omega)]
    simp only [Option.bind_some]
    rw [if_neg (by rw [decide_eq_true_eq];omega),if_neg (by omega)]
    simp only [Option.bind_some]
    obtain ⟨x,hx⟩:=Nat.gcd_dvd_left a b
    obtain ⟨y,hy⟩:=Nat.gcd_dvd_right a b
    generalize hG : Nat.gcd a b = G at hg hgb hx hy ⊢
    have hxa : x ≤ a:=by rw [hx];exact Nat.le_mul_of_pos_left _ hg
    have hyb : y ≤ b:=by rw [hy];exact Nat.le_mul_of_pos_left _ hg
    have ea : (a : Int) = (x : Int) * (G : Int):=by rw [hx,Int.natCast_mul,Int.mul_comm]
    have eb : (b : Int) = (y : Int) * (G : Int):=by rw [hy,Int.natCast_mul,Int.mul_comm]
    have ta : (a : Int).tdiv ((G : Int).natAbs : Int) = x:=by rw [Int.natAbs_natCast,ea,Int.mul_tdiv_cancel _ (by omega)]
    have tb : (b : Int).tdiv ((G : Int).natAbs : Int) = y:=by rw [Int.natAbs_natCast,eb,Int.mul_tdiv_cancel _ (by omega)]
    rw [ta,tb,w64 (x:=(x : Int)) (by omega),w64 (x:=(y : Int)) (by omega)]
    have hy0 : 0 < y:=by
      rcases Nat.eq_zero_or_pos y with q|q
      · rw [q,Nat.mul_zero] at hy;omega
      · exact q
    split
    · exact ⟨_,_,_,rfl,fun h=>absurd h (by decide)⟩
    · rename_i q1
      split
      · exact ⟨_,_,_,rfl,fun h=>absurd h (by decide)⟩
      · rename_i q2
        simp only [decide_eq_true_eq] at q1 q2
        exact ⟨_,_,_,rfl,fun _=>⟨(G : Int),by omega,ea,eb,by omega,by omega,by omega,by omega,by omega⟩⟩
theorem below_def {eL lH E L : Int} (h1 : 0 ≤ eL) (h2 : eL ≤ E) (h3 : 0 ≤ L) (h4 : L ≤ lH) (h5 : 0 < eL + lH) : 0 ≤ 1000 * eL / (eL + lH) ∧ 1000 * eL / (eL + lH) ≤ 1000 ∧ 1000 * eL / (eL + lH) * (E + L) ≤ 1000 * E:=by
  have a1 : 0 ≤ 1000 * eL / (eL + lH):=Int.ediv_nonneg (by omega) (by omega)
  have a2 : 1000 * eL / (eL + lH) ≤ 1000:=Int.ediv_le_of_le_mul h5 (by omega)
  have a3 : 1000 * eL / (eL + lH) * (eL + lH) ≤ 1000 * eL:=Int.ediv_mul_le _ (by omega)
  generalize 1000 * eL / (eL + lH) = q at a1 a2 a3 ⊢
  refine ⟨a1,a2,?_⟩
  have b1 : q * L ≤ q * lH:=Int.mul_le_mul_of_nonneg_left h4 a1
  have b2 : (1000 - q) * eL ≤ (1000 - q) * E:=Int.mul_le_mul_of_nonneg_left h2 (by omega)
  rw [Int.sub_mul,Int.sub_mul] at b2
  rw [Int.mul_add] at a3 ⊢
  omega
theorem above_def {eH lL E L : Int} (h1 : 0 ≤ E) (h2 : E ≤ eH) (h3 : 0 ≤ lL) (h4 : lL ≤ L) (h5 : 0 < eH + lL) : 0 ≤ (1000 * eH + (eH + lL) - 1) / (eH + lL) ∧ (1000 * eH + (eH + lL) - 1) / (eH + lL) ≤ 1000 ∧ 1000 * E ≤ (1000 * eH + (eH + lL) - 1) / (eH + lL) * (E + L):=by
  have a1 : 0 ≤ (1000 * eH + (eH + lL) - 1) / (eH + lL):=Int.ediv_nonneg (by omega) (by omega)
  have a2 : (1000 * eH + (eH + lL) - 1) / (eH + lL) ≤ 1000:=Int.le_of_lt_add_one (Int.ediv_lt_of_lt_mul h5 (by omega))
  have a3 : 1000 * eH ≤ (1000 * eH + (eH + lL) - 1) / (eH + lL) * (eH + lL):=by
    have h6:=Int.emod_add_mul_ediv (1000 * eH + (eH + lL) - 1) (eH + lL)
    have h7:=Int.emod_lt_of_pos (1000 * eH + (eH + lL) - 1) h5
    rw [Int.mul_comm (_ / _)]
    omega
  generalize (1000 * eH + (eH + lL) - 1) / (eH + lL) = q at a1 a2 a3 ⊢
  refine ⟨a1,a2,?_⟩
  have b1 : q * lL ≤ q * L:=Int.mul_le_mul_of_nonneg_left h4 a1
  have b2 : (1000 - q) * E ≤ (1000 - q) * eH:=Int.mul_le_mul_of_nonneg_left h2 (by omega)
  rw [Int.sub_mul,Int.sub_mul] at b2
  rw [Int.mul_add] at a3 ⊢
  omega
theorem sgn_le {z : Int} (h : z ≤ 0) : sgn z ≤ 0:=by
  unfold sgn
  split
  · decide
  · rw [if_neg (by omega)]
    decide
/-- the exact share lies within the bounds, when nothing is beyond -/
theorem def_within {r : Int} {l : List Nat} {n u x y p q : Int} (R : Right r l) (hn : 0 ≤ n ∧ n ≤ 32767) (h1 : defS r l u = some (x, y, 0)) (h2 : defW r l n 0 u = (p, q, 0)) :
    (∃ z,base_Compare p 1000 x y = some z ∧ z ≤ 0) ∧ ∃ z,base_Compare x y q 1000 = some z ∧ z ≤ 0:=by
  have hs:=spl_le r l u
  have hle:=R.len
  have hsp:=loW_split (val l) 0 (spl r l u) (l.length - spl r l u)
  rw [show spl r l u + (l.length - spl r l u) = l.length by omega] at hsp
  obtain ⟨⟨b1,b2,b3⟩,b4,b5,b6⟩:=defs_bd R hn (t:=0) (by omega) hs
  obtain ⟨⟨c1,c2,c3⟩,c4,c5,c6⟩:=defs_bd R (n:=0) (t:=0) (by omega) (by omega) hs
  obtain ⟨⟨d1,d2,d3⟩,_⟩:=defs_bd R (n:=0) (t:=0) (by omega) (by omega) (Nat.le_refl l.length)
  have m1:=loW_anti hn (val l) 0 (spl r l u)
  have m2:=loW_anti hn (val l) (spl r l u) (l.length - spl r l u)
  have e1 : (sfx l n 0 (spl r l u)).1 = loW (val l) n (spl r l u) (l.length - spl r l u):=rfl
  have e2 : (sfx l n 0 (spl r l u)).2 = hiW (val l) n (spl r l u) (l.length - spl r l u):=by
    unfold sfx
    simp only
    omega
  have e3 : (sfx l 0 0 (spl r l u)).1 = loW (val l) 0 (spl r l u) (l.length - spl r l u):=rfl
  unfold defS at h1
  unfold defW at h2
  rw [e1,e2] at h2
  rw [e1] at b4 b5
  rw [e2] at b5 b6
  rw [e3] at c4 c5
  obtain ⟨x',y',z',hsh,hz⟩:=share_low (a:=loW (val l) 0 0 (spl r l u)) (b:=loW (val l) 0 0 l.length) (by omega) (by omega)
  rw [hsh] at h1
  simp only [Option.some.injEq,Prod.mk.injEq] at h1
  obtain ⟨rfl,rfl,rfl⟩:=h1
  obtain ⟨g,hg,ga,gb,gp,x1,x2,y1,y2⟩:=hz rfl
  unfold defB at h2
  generalize loW (val l) 0 0 l.length = A at *
  generalize loW (val l) 0 0 (spl r l u) = E at *
  generalize loW (val l) n 0 (spl r l u) = eL at *
  generalize hiW (val l) n 0 (spl r l u) = eH at *
  generalize loW (val l) 0 (spl r l u) (l.length - spl r l u) = L at *
  generalize loW (val l) n (spl r l u) (l.length - spl r l u) = lL at *
  generalize hiW (val l) n (spl r l u) (l.length - spl r l u) = lH at *
  by_cases h0 : eL + lL = 0
  · rw [if_pos h0] at h2
    exact absurd h2 (by simp)
  · rw [if_neg h0] at h2
    simp only [Prod.mk.injEq,and_true] at h2
    obtain ⟨rfl,rfl⟩:=h2
    obtain ⟨k1,k2,k3⟩:=below_def (eL:=eL) (lH:=lH) (E:=E) (L:=L) b1 m1.1 c4 (by omega) (by omega)
    obtain ⟨k4,k5,k6⟩:=above_def (eH:=eH) (lL:=lL) (E:=E) (L:=L) (by omega) m1.2 b4 m2.1 (by omega)
    rw [← hsp] at k3 k6
    generalize 1000 * eL / (eL + lH) = p at k1 k2 k3 ⊢
    generalize (1000 * eH + (eH + lL) - 1) / (eH + lL) = q at k4 k5 k6 ⊢
    have f1 : p * y' ≤ x' * 1000:=by
      refine Int.le_of_mul_le_mul_right (?_ : p * y' * g ≤ x' * 1000 * g) hg
      rw [Int.mul_assoc,← gb,Int.mul_right_comm,← ga]
      omega
    have f2 : x' * 1000 ≤ q * y':=by
      refine Int.le_of_mul_le_mul_right (?_ : x' * 1000 * g ≤ q * y' * g) hg
      rw [Int.mul_assoc q,← gb,Int.mul_right_comm,← ga]
      omega
    refine ⟨⟨_,bcmp_eq (by omega) (by omega) (by omega) (by omega),sgn_le (by omega)⟩,⟨_,bcmp_eq (by omega) (by omega) (by omega) (by omega),sgn_le (by omega)⟩⟩
theorem defS_some {r : Int} {l : List Nat} (R : Right r l) (u : Int) : ∃ x y z,defS r l u = some (x,y,z):=by
  have hs:=spl_le r l u
  obtain ⟨⟨c1,c2,c3⟩,_⟩:=defs_bd R (n:=0) (t:=0) (by omega) (by omega) hs
  obtain ⟨⟨d1,d2,d3⟩,_⟩:=defs_bd R (n:=0) (t:=0) (by omega) (by omega) (Nat.le_refl l.length)
  obtain ⟨x,y,z,h,_⟩:=share_low (a:=loW (val l) 0 0 (spl r l u)) (b:=loW (val l) 0 0 l.length) (by omega) (by omega)
  exact ⟨x,y,z,h⟩
theorem definitions_true (r : Int) (l : List Nat) (n t u : Int) : law05_FigureDefinitions r l n t u = some true:=by
  unfold law05_FigureDefinitions
  obtain ⟨b,hb⟩:=few_some r l
  rw [hb]
  simp only [Option.bind_some]
  cases b with
  | false=>rw [if_neg (by decide)]
  | true =>
    have hl:=few_len hb
    rw [if_pos rfl,copy_eq r l hl,copyA_eq r l n t hl]
    unfold ref05_ResponseErr ref05_AskErr
    rw [ref_check,ref_ask,timeErr_ref]
    simp only [Option.bind_some]
    obtain ⟨w,hw⟩ : ∃ w : Int,(if 0 ≤ u ∧ u ≤ 1000000 then 0 else 2) = w:=⟨_,rfl⟩
    have P:=prog_definition r l u hw
    have W:=prog_defWithin r l n t u hw
    rw [hw]
    by_cases hp : (crErr r l).2 = 0
    · have R:=(right_of hp).1
      by_cases hwz : w = 0
      · have hu : 0 ≤ u ∧ u ≤ 1000000 := by
          rw [hwz] at hw
          split at hw
          · assumption
          · exact absurd hw (by decide)
        obtain ⟨x,y,z,hS⟩:=defS_some R u
        rw [P.2 hp hwz,ref_definition R hu,hS]
        by_cases hq : (caErr r l n t).2 = 0
        · obtain ⟨k1,k2,k3⟩:=ask_parts hq
          rw [W.2 hq hwz,ref_def R k2 k3 hu]
          simp only [Option.bind_some,hp,hwz,hq]
          by_cases hz : z = 0
          · by_cases hd : (defW r l n t u).2.2 = 0
            · by_cases ht : t = 0
              · subst ht hz
                obtain ⟨⟨z1,i1,i2⟩,z2,i3,i4⟩:=def_within (p:=(defW r l n 0 u).1) (q:=(defW r l n 0 u).2.1) R k2 hS (Prod.ext rfl (Prod.ext rfl hd))
                simp [hd,i1,i2,i3,i4]
              · simp [ht]
            · simp [hd]
          · simp [hz]
        · rw [W.1 (.inl hq)]
          simp only [Option.bind_some,hp,hwz]
          have e : fe [(caErr r l n t).2,0] = (caErr r l n t).2:=by rw [fe2,if_pos hq]
          simp [e,hq]
      · rw [P.1 (.inr hwz)]
        have e1 : fe [(crErr r l).2,w] = w:=by rw [fe2,if_neg (by simp [hp])]
        rw [W.1 (.inr hwz),e1]
        by_cases hq : (caErr r l n t).2 = 0
        · have e2 : fe [(caErr r l n t).2,w] = w:=by rw [fe2,if_neg (by simp [hq])]
          have e3 : fe [0,w] = w:=by rw [fe2,if_neg (by simp)]
          simp [e2,e3,hp,hq,hwz]
        · have e2 : fe [(caErr r l n t).2,w] = (caErr r l n t).2:=by rw [fe2,if_pos hq]
          simp [e2,hp,hq,hwz]
    · have hc : (caErr r l n t).2 = (crErr r l).2 := by
        unfold caErr
        rw [if_pos hp]
      have e1 : fe [(crErr r l).2,w] = (crErr r l).2:=by rw [fe2,if_pos hp]
      rw [P.1 (.inl hp),W.1 (.inl (by rw [hc];exact hp)),hc,e1]
      by_cases hwz : w = 0
      · simp [hp,hwz]
      · simp [hp,hwz]

end Go.Rex

namespace Go.Rex
open Go Go.ChangeShapes Go.WideShapes Go.ChangeAt Go.RowKit Go.Joins Go.Proofs
/-! ### arguments: what they are as trees,and the names of their blocks -/
structure Arg (W : World) (v' : Value) (p : TV) (bs : List Blk) (is : List Info) (av : Nat → Value) : Prop where
  vr : ∀ (D : Nat → Prop) (m : NMap) n,(∀ j,j < bs.length → D (n + j)) → (∀ (j : Nat) i,is[j]? = some i → m (n + j) = i) → VR D m (av n) v'
  vl : ∀ (Fz : Nat → Prop) (h : List Blk) n,(∀ j,j < bs.length → Fz (n + j)) → (∀ (j : Nat) b,bs[j]? = some b → h[n + j]? = some b) → VL Fz h noL p (av n)
  ok : ∀ (D : Nat → Prop) (m : NMap) n,(∀ j,j < bs.length → D (n + j)) → (∀ (j : Nat) i,is[j]? = some i → m (n + j) = i) → ∀ (j : Nat) b,bs[j]? = some b → BlkOk D m W (n + j) b
  lt : ∀ (j : Nat) b i,bs[j]? = some b → is[j]? = some i → b ≠ .dead → i.block < W.heap.size
  len : is.length = bs.length
structure Args (W : World) (vs' : List Value) (ps : List TV) (bs : List Blk) (is : List Info) (av : Nat → List Value) : Prop where
  vr : ∀ (D : Nat → Prop) (m : NMap) n,(∀ j,j < bs.length → D (n + j)) → (∀ (j : Nat) i,is[j]? = some i → m (n + j) = i) → VRs D m (av n) vs'
  vl : ∀ (Fz : Nat → Prop) (h : List Blk) n,(∀ j,j < bs.length → Fz (n + j)) → (∀ (j : Nat) b,bs[j]? = some b → h[n + j]? = some b) → VLs Fz h noL ps (av n)
  ok : ∀ (D : Nat → Prop) (m : NMap) n,(∀ j,j < bs.length → D (n + j)) → (∀ (j : Nat) i,is[j]? = some i → m (n + j) = i) → ∀ (j : Nat) b,bs[j]? = some b → BlkOk D m W (n + j) b
  lt : ∀ (j : Nat) b i,bs[j]? = some b → is[j]? = some i → b ≠ .dead → i.block < W.heap.size
  len : is.length = bs.length
/-- the names of the arguments -/
def nm (is : List Info) : NMap:=fun n=>is.getD n ⟨0,0,0,0⟩
section
variable {W : World} {vs' : List Value} {ps : List TV} {bs : List Blk} {is : List Info} {av : Nat → List Value}
end
theorem len4 {α : Type} {l : List α} (h : l.length = 4) : ∃ x0 x1 x2 x3,l = [x0,x1,x2,x3]:=by
  match l,h with
  | [x0,x1,x2,x3],_=>exact ⟨_,_,_,_,rfl⟩
/-! ### arguments without names -/
def AtomV (c : Value) : Prop:=isAtom c = true ∧ ∀ D m,VR D m c c
theorem atomV_int (k : IntKind) (n : Int) : AtomV (.int k n):=⟨rfl,fun _ _=>.int _ _⟩
theorem Arg.atom {W : World} {v : Value} (h : AtomV v) : Arg W v (.v v) [] [] (fun _=>v) :=
  ⟨fun _ _ _ _ _=>h.2 _ _,fun _ _ _ _ _=>.v _ _ h.1,fun _ _ _ _ _ j b h=>by simp at h,fun j b i h=>by simp at h,rfl⟩
/-! ### a slice of rows -/
theorem flatMap_at {α β : Type} {g : α → List β} {es : Nat} (hg : ∀ x,(g x).length = es) (he : 0 < es) : ∀ (xs : List α) i,(xs.flatMap g)[i]? = (xs[i / es]?).bind fun x=>(g x)[i % es]?
  | [],i=>by simp
  | x :: t,i=>by
    rw [List.flatMap_cons]
    rcases Nat.lt_or_ge i es with h|h
    · rw [List.getElem?_append_left (by rw [hg];exact h),Nat.div_eq_of_lt h,Nat.mod_eq_of_lt h]
      rfl
    · rw [List.getElem?_append_right (by rw [hg];exact h),hg,flatMap_at hg he t (i - es)]
      have e1 : i / es = (i - es) / es + 1:=by rw [Nat.div_eq_sub_div he h]
      have e2 : i % es = (i - es) % es:=Nat.mod_eq_sub_mod h
      rw [e1,e2]
      rfl
theorem flatMap_len {α β : Type} {g : α → List β} {es : Nat} (hg : ∀ x,(g x).length = es) : ∀ (xs : List α),(xs.flatMap g).length = xs.length * es
  | []=>by simp
  | x :: t=>by rw [List.flatMap_cons,List.length_append,hg,flatMap_len hg t,List.length_cons,Nat.add_mul];omega
theorem flatMap_map {α : Type} {f : α → List TV} {g : α → List Value} (hf : ∀ x,f x = (g x).map .v) : ∀ (xs : List α),(xs.map f).flatten = (xs.flatMap g).map .v
  | []=>rfl
  | x :: t=>by rw [List.map_cons,List.flatten_cons,flatMap_map hf t,List.flatMap_cons,List.map_append,hf]
theorem choose_list {α : Type} {Q : Nat → α → Prop} : ∀ n,(∀ i,i < n → ∃ x,Q i x) → ∃ xs : List α,xs.length = n ∧ ∀ (i : Nat) x,xs[i]? = some x → Q i x
  | 0,_=>⟨[],rfl,fun i x h=>by simp at h⟩
  | n + 1,h=>by
    obtain ⟨xs,hl,hq⟩:=choose_list n (fun i hi=>h i (by omega))
    obtain ⟨x,hx⟩:=h n (by omega)
    refine ⟨xs ++ [x],by simp [hl],fun i y hy=>?_⟩
    rcases Nat.lt_or_ge i n with hi|hi
    · rw [List.getElem?_append_left (by omega)] at hy
      exact hq i y hy
    · rw [List.getElem?_append_right (by omega),hl] at hy
      have : i = n:=by
        rcases Nat.lt_or_ge 0 (i - n) with g|g
        · rw [List.getElem?_eq_none (by simp;omega)] at hy;cases hy
        · omega
      subst this
      simp at hy
      subst hy
      exact hx
section
variable {H : Type} {enc : TypeId × Value → H} {W : World} {base : Nat} {spare : Nat → Bool} {held : Bool}
theorem open_rowsC {α : Type} {f : α → List TV} {g : α → List Value} {es : Nat} (he : 0 < es) (hf : ∀ x, f x = (g x).map .v) (hg : ∀ x, (g x).length = es) (hat : ∀ x, ∀ c ∈ g x, AtomV c)
    {P : Program} {t te : TypeId} (ht : P.underlying t = some (.slice te)) (hC : P.cellsOf te = es) {r : Reach} {b0 : Nat} {v' : Value} (hval : Cell.okWide P W r b0 t v')
    (elem : ∀ n cs y,DataW.trod enc P W base spare held n te cs = some y → cs.length = es → ∃ x : α,cs = g x)
    {fuel : Nat} {x : DataW H × List MemPlace} (h : DataW.trod enc P W base spare held fuel t [v'] = some x) : ∃ (xs : List α) (bs : List Blk) (is : List Info) (av : Nat → Value),Arg W v' (.list es (xs.map f)) bs is av:=by
  rcases DataW.trod_slice ht h with ⟨hv,_⟩|⟨a,len,cap,elems,rest,n,_,hv,_,hb,hlc,hcm,hel,hel2,_,_⟩
  · obtain rfl : v' = .slice none 0 0:=by simpa using hv
    exact ⟨[],[],[],fun _=>.slice none 0 0,fun _ _ _ _ _=>.nilSlice 0 0,fun _ _ _ _ _=>.nillist _ _,fun _ _ _ _ _ j b h=>by simp at h,fun j b i h=>by simp at h,rfl⟩
  · obtain rfl : v' = .slice (some a) len cap:=by simpa using hv
    have hok : len ≤ cap ∧ (cap : Int) ≤ IntKind.i64.max ∧ W.has P r b0 a te cap:=by
      unfold Cell.okWide at hval
      simp only [ht] at hval
      unfold Cell.ok at hval
      simpa only [ht] using hval
    obtain ⟨gb,o,s⟩:=a
    obtain ⟨_,_,_,hs,row,cells,hsh,_⟩:=hok
    simp only at hs hsh
    subst hs
    have hgb : gb < W.heap.size:=by
      unfold World.shape? at hsh
      rcases Nat.lt_or_ge gb W.heap.size with hg|hg
      · exact hg
      · rw [Array.getElem?_eq_none hg] at hsh
        simp at hsh
    have key : ∀ i,i < len → ∃ x : α,∀ j,j < es → W.cell? ⟨gb,o + i * es + j,none⟩ = (g x)[j]?:=fun i hi=>by
      have h1:=hel2 i hi
      rw [List.getElem?_eq_getElem (by omega),Option.bind_eq_some_iff] at h1
      obtain ⟨cs,hcs,htr⟩:=h1
      rw [hC] at hcs
      unfold World.cells? at hcs
      split at hcs
      · have hlen:=mapM_some_length hcs
        simp at hlen
        obtain ⟨x,rfl⟩:=elem n cs _ htr hlen
        refine ⟨x,fun j hj=>?_⟩
        have:=mapM_some_get hcs j j (by simp [hj])
        have e : ((⟨gb,o,none⟩ : Addr).add (i * es)).add j = ⟨gb,o + i * es + j,none⟩:=by
          unfold Addr.add
          split<;>split<;>simp_all
        rw [← e]
        exact this
      · cases hcs
    obtain ⟨xs,hl,hq⟩:=choose_list len key
    subst hl
    have hlen:=flatMap_len hg xs
    have hfl:=flatMap_map hf xs
    refine ⟨xs,[.cells es (xs.flatMap g)],[⟨gb,o,cap * es,es⟩],fun n=>.slice (some ⟨n,0,none⟩) xs.length xs.length,fun D m n hD hm=>?_,fun Fz h n hF hh=>?_,fun D m n hD hm j b hb=>?_,fun j b i hb hi hd=>?_,rfl⟩
    · have e:=hm 0 _ rfl
      rw [Nat.add_zero] at e
      have:=VR.slice (D:=D) (m:=m) n 0 xs.length xs.length cap (hD 0 (by simp)) (Nat.le_refl _) hlc (.inr (by rw [e];simp))
      rw [e] at this
      exact this
    · have hw : ∀ r ∈ xs.map f,r.length = es:=fun r hr=>by obtain ⟨x,_,rfl⟩:=List.mem_map.1 hr;rw [hf,List.length_map,hg]
      have:=VL.list (Fz:=Fz) (h:=h) noL es (xs.map f) n 0 xs.length (xs.flatMap g) es (hF 0 (by simp)) (hh 0 _ rfl) (.inl rfl) hw (by simp) (by rw [List.length_map,hlen];omega) (fun j p x hp hx=>by
        rw [hfl,List.getElem?_map,Option.map_eq_some_iff] at hp
        rw [Nat.zero_add] at hx
        obtain ⟨y,h1,rfl⟩:=hp
        obtain rfl : y = x:=Option.some.inj (h1.symm.trans hx)
        obtain ⟨z,_,hz⟩:=List.mem_flatMap.1 (List.mem_of_getElem? hx)
        exact .v _ _ (hat z y hz).1)
      rw [List.length_map] at this
      exact this
    · match j,hb with
      | 0,hb =>
        obtain rfl:=Option.some.inj hb
        have e:=hm 0 _ rfl
        rw [Nat.add_zero] at e ⊢
        refine ⟨by rw [e],fun i v hv=>⟨v,?_,?_⟩⟩
        · rw [flatMap_at hg he,Option.bind_eq_some_iff] at hv
          obtain ⟨x,hx,hv⟩:=hv
          rw [e]
          have:=hq _ x hx (i % es) (Nat.mod_lt _ he)
          rw [Nat.add_assoc,Nat.mul_comm,Nat.div_add_mod] at this
          rw [this]
          exact hv
        · obtain ⟨z,_,hz⟩:=List.mem_flatMap.1 (List.mem_of_getElem? hv)
          exact (hat z v hz).2 _ _
      | j + 1,hb=>simp at hb
    · match j,hb,hi with
      | 0, hb, hi => obtain rfl := Option.some.inj hi
                     exact hgb
      | j + 1,hb,hi=>simp at hb
/-! ### aggregates of ints -/
variable {P : Program}
theorem okW_int {t : TypeId} (ht : P.underlying t = some (.int .i64)) {r : Reach} {b : Nat} {v : Value} (w : Cell.okWide P W r b t v) : ∃ n : Int,v = .int .i64 n:=by
  unfold Cell.okWide at w
  simp only [ht] at w
  unfold Cell.ok at w
  simp only [ht] at w
  cases v<;>first|exact ⟨_,by rw [w.1]⟩|exact absurd w (by simp)
theorem open_int {t : TypeId} (ht : P.underlying t = some (.int .i64)) {r : Reach} {b : Nat} {v : Value} (w : Value.okWide P W r b t v) : ∃ n : Int,v = .int .i64 n:=by
  unfold Value.okWide at w
  simp only [ht] at w
  exact okW_int ht w
theorem open_cells {t : TypeId} {fs : Array Field} {ts : List TypeId} (ht : P.underlying t = some (.struct fs)) (hct : P.cellTypes P.depth t = some ts) (hn : P.cellsOf t = ts.length) {r : Reach} {b : Nat} {v : Value} (w : Value.okWide P W r b t v) :
    ∃ cs : List Value,v = .agg ⟨cs⟩ ∧ cs.length = ts.length ∧ ∀ (j : Nat) c u,cs[j]? = some c → ts[j]? = some u → Cell.okWide P W r b u c:=by
  unfold Value.okWide at w
  simp only [ht] at w
  obtain ⟨cs,rfl,hs,ts',hts,_,hc⟩:=w
  rw [hct] at hts
  obtain rfl:=Option.some.inj hts
  obtain ⟨l⟩:=cs
  have hl : l.length = ts.length:=by simpa [hn] using hs
  refine ⟨l,rfl,hl,fun j c u hj hu=>?_⟩
  obtain ⟨u',hu',hok⟩:=hc j c (by simpa using hj)
  rw [Nat.mod_eq_of_lt (by have:=(List.getElem?_eq_some_iff.1 hj).1;omega)] at hu'
  obtain rfl:=Option.some.inj (hu.symm.trans hu')
  exact hok
theorem st_field {t : TypeId} {fs : Array Field} {i : Nat} {f : Field} (ht : P.underlying t = some (.struct fs)) (hf : fs[i]? = some f) {fuel : Nat} {cs : List Value} {x : DataW H × List MemPlace} (h : DataW.trod enc P W base spare held fuel t cs = some x) :
    ∃ n y,DataW.trod enc P W base spare held n f.type ((cs.drop f.offset).take (P.cellsOf f.type)) = some y:=by
  obtain ⟨xs,n,_,_,hl,hx,hi⟩:=DataW.trod_struct ht h
  have:=hi i f hf
  have hil : i < fs.size:=(Array.getElem?_eq_some_iff.1 hf).1
  rw [List.getElem?_eq_getElem (by omega)] at this
  exact ⟨n,_,this⟩
end
end Go.Rex

namespace Go.Rex
open Go Go.ChangeShapes Go.WideShapes Go.ChangeAt Go.RowKit Go.Joins Go.Proofs
/-! ### arguments whose blocks name one another: lists of lists -/
structure NArg (W : World) (v' : Value) (p : TV) (bs : Nat → List Blk) (is : List Info) (av : Nat → Value) : Prop where
  vr : ∀ (D : Nat → Prop) (m : NMap) n,(∀ j,j < is.length → D (n + j)) → (∀ (j : Nat) i,is[j]? = some i → m (n + j) = i) → VR D m (av n) v'
  vl : ∀ (Fz : Nat → Prop) (h : List Blk) n,(∀ j,j < is.length → Fz (n + j)) → (∀ (j : Nat) b,(bs n)[j]? = some b → h[n + j]? = some b) → VL Fz h noL p (av n)
  ok : ∀ (D : Nat → Prop) (m : NMap) n,(∀ j,j < is.length → D (n + j)) → (∀ (j : Nat) i,is[j]? = some i → m (n + j) = i) → ∀ (j : Nat) b,(bs n)[j]? = some b → BlkOk D m W (n + j) b
  lt : ∀ n (j : Nat) b i,(bs n)[j]? = some b → is[j]? = some i → b ≠ .dead → i.block < W.heap.size
  len : ∀ n,(bs n).length = is.length
structure NArgs (W : World) (vs' : List Value) (ps : List TV) (bs : Nat → List Blk) (is : List Info) (av : Nat → List Value) : Prop where
  vr : ∀ (D : Nat → Prop) (m : NMap) n,(∀ j,j < is.length → D (n + j)) → (∀ (j : Nat) i,is[j]? = some i → m (n + j) = i) → VRs D m (av n) vs'
  vl : ∀ (Fz : Nat → Prop) (h : List Blk) n,(∀ j,j < is.length → Fz (n + j)) → (∀ (j : Nat) b,(bs n)[j]? = some b → h[n + j]? = some b) → VLs Fz h noL ps (av n)
  ok : ∀ (D : Nat → Prop) (m : NMap) n,(∀ j,j < is.length → D (n + j)) → (∀ (j : Nat) i,is[j]? = some i → m (n + j) = i) → ∀ (j : Nat) b,(bs n)[j]? = some b → BlkOk D m W (n + j) b
  lt : ∀ n (j : Nat) b i,(bs n)[j]? = some b → is[j]? = some i → b ≠ .dead → i.block < W.heap.size
  len : ∀ n,(bs n).length = is.length
theorem Arg.n {W : World} {v' : Value} {p : TV} {bs : List Blk} {is : List Info} {av : Nat → Value} (a : Arg W v' p bs is av) : NArg W v' p (fun _=>bs) is av :=
  ⟨fun D m n hD hm=>a.vr D m n (by rw [← a.len];exact hD) hm,fun Fz h n hF hh=>a.vl Fz h n (by rw [← a.len];exact hF) hh,fun D m n hD hm=>a.ok D m n (by rw [← a.len];exact hD) hm,fun _=>a.lt,fun _=>a.len.symm⟩
theorem NArgs.nil (W : World) : NArgs W [] [] (fun _=>[]) [] (fun _=>[]) :=
  ⟨fun _ _ _ _ _=>⟨rfl,fun i a a' h=>by simp at h⟩,fun _ _ _ _ _=>.nil,fun _ _ _ _ _ j b h=>by simp at h,fun _ j b i h=>by simp at h,fun _=>rfl⟩
theorem NArgs.cons {W : World} {v' : Value} {p : TV} {bs bs2 : Nat → List Blk} {is is2 : List Info} {av : Nat → Value} {vs' : List Value} {ps : List TV} {avs : Nat → List Value}
    (a : NArg W v' p bs is av) (az : NArgs W vs' ps bs2 is2 avs) : NArgs W (v' :: vs') (p :: ps) (fun n=>bs n ++ bs2 (n + is.length)) (is ++ is2) (fun n=>av n :: avs (n + is.length)):=by
  have cD : ∀ (D : Nat → Prop) n,(∀ j,j < (is ++ is2).length → D (n + j)) → (∀ j,j < is.length → D (n + j)) ∧ (∀ j,j < is2.length → D (n + is.length + j)):=by
    intro D n h
    refine ⟨fun j hj=>h j (by simp;omega),fun j hj=>?_⟩
    have:=h (is.length + j) (by simp;omega)
    rwa [← Nat.add_assoc] at this
  have cI : ∀ (m : NMap) n,(∀ (j : Nat) i,(is ++ is2)[j]? = some i → m (n + j) = i) → (∀ (j : Nat) i,is[j]? = some i → m (n + j) = i) ∧ (∀ (j : Nat) i,is2[j]? = some i → m (n + is.length + j) = i):=by
    intro m n h
    refine ⟨fun j i hj=>h j i (by rw [List.getElem?_append_left (List.getElem?_eq_some_iff.1 hj).1];exact hj),fun j i hj=>?_⟩
    have:=h (is.length + j) i (by rw [List.getElem?_append_right (by omega),Nat.add_sub_cancel_left];exact hj)
    rwa [← Nat.add_assoc] at this
  refine ⟨fun D m n hD hm=>?_,fun Fz h n hF hh=>?_,fun D m n hD hm j b hb=>?_,fun n j b i hb hi hd=>?_,fun n=>by simp [a.len,az.len]⟩
  · have h1:=a.vr D m n (cD D n hD).1 (cI m n hm).1
    have h2:=az.vr D m (n + is.length) (cD D n hD).2 (cI m n hm).2
    refine ⟨by simp [h2.len],fun i x x' hx hx'=>?_⟩
    cases i with
    | zero=>simp at hx hx';subst hx hx';exact h1
    | succ i=>simp at hx hx';exact h2.at' i x x' hx hx'
  · refine .cons (a.vl Fz h n (cD Fz n hF).1 fun j b hb=>hh j b (by rw [List.getElem?_append_left (List.getElem?_eq_some_iff.1 hb).1];exact hb)) (az.vl Fz h (n + is.length) (cD Fz n hF).2 fun j b hb=>?_)
    have:=hh (is.length + j) b (by rw [List.getElem?_append_right (by rw [a.len];omega),a.len,Nat.add_sub_cancel_left];exact hb)
    rwa [← Nat.add_assoc] at this
  · rcases Nat.lt_or_ge j is.length with hj|hj
    · rw [List.getElem?_append_left (by rw [a.len];exact hj)] at hb
      exact a.ok D m n (cD D n hD).1 (cI m n hm).1 j b hb
    · rw [List.getElem?_append_right (by rw [a.len];exact hj),a.len] at hb
      have:=az.ok D m (n + is.length) (cD D n hD).2 (cI m n hm).2 _ b hb
      rwa [show n + is.length + (j - is.length) = n + j by omega] at this
  · rcases Nat.lt_or_ge j is.length with hj|hj
    · rw [List.getElem?_append_left (by rw [a.len];exact hj)] at hb
      rw [List.getElem?_append_left hj] at hi
      exact a.lt n j b i hb hi hd
    · rw [List.getElem?_append_right (by rw [a.len];exact hj),a.len] at hb
      rw [List.getElem?_append_right hj] at hi
      exact az.lt _ _ b i hb hi hd
section
variable {W : World} {vs' : List Value} {ps : List TV} {bs : Nat → List Blk} {is : List Info} {av : Nat → List Value}
/-- the names of the variables of packages come first -/
def gnm (is : List Info) : NMap:=fun k=>if k < NG then gm k else is.getD (k - NG) ⟨0,0,0,0⟩
theorem gnm_at {is : List Info} {j : Nat} {i : Info} (h : is[j]? = some i) : gnm is (NG + j) = i:=by
  unfold gnm
  rw [if_neg (by omega),Nat.add_sub_cancel_left,List.getD_eq_getElem?_getD,h]
  rfl
theorem gh_len : GH.length = NG:=rfl
theorem NArgs.rel (a : NArgs W vs' ps bs is av) (hw : GW W) (hs : NG ≤ W.heap.size) : Rel W.heap.size (GH ++ bs NG).length (fun k=>k < (GH ++ bs NG).length) (gnm is) (GH ++ bs NG) W:=by
  have hl:=a.len NG
  have hn : (GH ++ bs NG).length = NG + is.length:=by rw [List.length_append,gh_len,hl]
  have old : ∀ k,k < NG → gnm is k = gm k:=fun k hk=>if_pos hk
  have parts : ∀ n b,n < (GH ++ bs NG).length → (GH ++ bs NG)[n]? = some b → (n < NG ∧ GH[n]? = some b) ∨ ∃ j,n = NG + j ∧ (bs NG)[j]? = some b:=by
    intro n b hn' hb
    rcases Nat.lt_or_ge n NG with h|h
    · rw [List.getElem?_append_left h] at hb;exact .inl ⟨h,hb⟩
    · rw [List.getElem?_append_right h,gh_len] at hb;exact .inr ⟨n - NG,by omega,hb⟩
  have st:=Rel.start W hw hs
  have lt : ∀ n b,n < (GH ++ bs NG).length → (GH ++ bs NG)[n]? = some b → b ≠ .dead → (gnm is n).block < W.heap.size:=by
    intro n b hn' hb hd
    rcases parts n b hn' hb with ⟨h1,h2⟩|⟨j,rfl,h2⟩
    · rw [old n h1];exact st.lt n b h1 h2 hd
    · have hj : j < is.length:=by omega
      rw [gnm_at (List.getElem?_eq_getElem hj)]
      exact a.lt NG j b _ h2 (List.getElem?_eq_getElem hj) hd
  refine ⟨Nat.le_refl _,fun _ h=>h,fun n b hn' hb=>?_,lt,fun n b hD hl=>absurd hD (by omega),fun n b hn' _ hb hd=>lt n b hn' hb hd,fun n b hD hl=>absurd hD (by omega),fun n n' b b' hD _ hl=>absurd hD (by omega),⟨fun g hg=>⟨?_,?_⟩,hs,hw⟩⟩
  · rcases parts n b hn' hb with ⟨h1,h2⟩|⟨j,rfl,h2⟩
    · exact (st.ok n b h1 h2).mono (fun k hk=>by have hk' : k < NG:=hk;show k < (GH ++ bs NG).length;omega) (fun k hk=>old k hk) (old n h1)
    · exact a.ok (fun k=>k < (GH ++ bs NG).length) (gnm is) NG (fun j hj=>by omega) (fun j i hi=>gnm_at hi) j b h2
  · show g < (GH ++ bs NG).length;omega
  · rw [old g hg];exact gm_at g
theorem NArgs.vls (a : NArgs W vs' ps bs is av) : VLs (fun k=>k < (GH ++ bs NG).length) (GH ++ bs NG) noL ps (av NG):=by
  have hn : (GH ++ bs NG).length = NG + is.length:=by rw [List.length_append,gh_len,a.len NG]
  exact a.vl _ _ NG (fun j hj=>by omega) (fun j b hb=>by rw [List.getElem?_append_right (by rw [gh_len];omega),gh_len,Nat.add_sub_cancel_left];exact hb)
theorem NArgs.fz (_a : NArgs W vs' ps bs is av) : FZ (fun k=>k < (GH ++ bs NG).length) (GH ++ bs NG) :=
  ⟨fun _ h=>h,fun g hg=>by
    have h1 : g < GH.length:=hg
    exact ⟨by rw [List.length_append];omega,List.getElem?_append_left h1⟩⟩
theorem NArgs.vrs (a : NArgs W vs' ps bs is av) : VRs (fun k=>k < (GH ++ bs NG).length) (gnm is) (av NG) vs':=by
  have hn : (GH ++ bs NG).length = NG + is.length:=by rw [List.length_append,gh_len,a.len NG]
  exact a.vr _ _ NG (fun j hj=>by omega) (fun j i hi=>gnm_at hi)
theorem NArg.ofArgs (a : NArgs W vs' ps bs is av) : NArg W (.agg ⟨vs'⟩) (.agg ps) bs is (fun n=>.agg ⟨av n⟩) :=
  ⟨fun D m n hD hm=>.agg' (a.vr D m n hD hm),fun Fz h n hF hh=>.agg' (a.vl Fz h n hF hh),a.ok,a.lt,a.len⟩
end
section
variable {H : Type} {enc : TypeId × Value → H} {W : World} {base : Nat} {spare : Nat → Bool} {held : Bool}
end

section
variable {H : Type} {enc : TypeId × Value → H} {W : World} {base : Nat} {spare : Nat → Bool} {held : Bool}
end
theorem atomV_float (k : FloatKind) (b : Nat) : AtomV (.float k b):=⟨rfl,fun _ _=>.float _ _ _ .refl⟩
theorem trod_float {H : Type} {enc : TypeId × Value → H} {P : Program} {w : World} {base : Nat} {spare : Nat → Bool} {held : Bool} {fuel : Nat} {t : TypeId} {cs : List Value} {x : DataW H × List MemPlace} {k : FloatKind} (ht : P.underlying t = some (.float k)) (h : DataW.trod enc P w base spare held fuel t cs = some x) : ∃ b,cs = [.float k b]:=by
  cases fuel with
  | zero=>simp [DataW.trod] at h
  | succ n =>
    unfold DataW.trod at h
    rw [ht] at h
    split at h<;>simp_all
end Go.Rex

open Go Go.Rex Go.Proofs
namespace Go.Rex
/-! ### what a row's listed variables hold,cell by cell -/
section
variable {P : Program} {w : World}
theorem listed_at : ∀ {l : List (String × DataW Unit)} {ps : List MemPlace}, DataW.LaidVars P w l ps → ∀ {n : String} {d : DataW Unit}, (n, d) ∈ l →
    ∃ g t cs fuel p,P.globalNamed n = some g ∧ (P.globals[g]?).map (·.type) = some t ∧ w.var? P n = some cs ∧ DataW.trod (fun _=>()) P w 0 (fun _=>true) false fuel t cs.toList = some (d,p)
  | [],_,_,_,_,hm=>by cases hm
  | (a,b) :: r,_,h,n,d,hm=>by
    obtain ⟨g,t,cs,fuel,p,q,h1,h2,h3,h4,h5,_⟩:=h
    rcases List.mem_cons.1 hm with e|e
    · cases e;exact ⟨g,t,cs,fuel,p,h1,h2,h3,h4⟩
    · exact listed_at h5 e
/-- the cells of data that hold no names, part after part -/
def catC (P : Program) (f : TypeId → DataW Unit → Option (List Value)) : List (TypeId × DataW Unit) → Option (List Value)
  | []=>some []
  | (t,d) :: r=>match f t d,catC P f r with
    | some a,some b=>some (a ++ b)
    | _,_=>none
def offsC (P : Program) : Nat → List Field → Option Nat
  | o,[]=>some o
  | o,f :: r=>if f.offset = o then offsC P (o + P.cellsOf f.type) r else none
def flatC (P : Program) : Nat → TypeId → DataW Unit → Option (List Value)
  | 0,_,_=>none
  | n + 1,t,d=>match P.underlying t,d with
    | some (.int k),.lit (.int _ z)=>some [.int k z]
    | some .string,.lit (.string l)=>some [.string ⟨l.toArray⟩]
    | some .bool,.lit (.bool b)=>some [.bool b]
    | some (.array m e),.agg ds=>if ds.length = m ∧ P.cellsOf t = m * P.cellsOf e then catC P (flatC P n) (ds.map fun d=>(e,d)) else none
    | some (.struct fs),.agg ds=>if ds.length = fs.size ∧ offsC P 0 fs.toList = some (P.cellsOf t) then catC P (flatC P n) ((fs.toList.map (·.type)).zip ds) else none
    | _,_=>none
abbrev RdC (P : Program) (w : World) (t : TypeId) (d : DataW Unit) (r : List Value) : Prop:=∃ fuel p,DataW.trod (fun _=>()) P w 0 (fun _=>true) false fuel t r = some (d,p)
theorem cat_eq {f : TypeId → DataW Unit → Option (List Value)} (hf : ∀ t d cs, f t d = some cs → ∀ r, RdC P w t d r → r = cs) : ∀ (l : List (TypeId × DataW Unit)) (cs r : List Value) (pos : Nat → Nat), catC P f l = some cs →
    (∀ i t d,l[i]? = some (t,d) → RdC P w t d ((r.drop (pos i)).take (P.cellsOf t)) ∧ pos (i + 1) = pos i + P.cellsOf t) → r.length = pos l.length → r.drop (pos 0) = cs
  | [],cs,r,pos,h,_,hl=>by
    cases h
    exact List.drop_eq_nil_of_le (by rw [hl];exact Nat.le_refl _)
  | (t,d) :: l,cs,r,pos,h,ha,hl=>by
    unfold catC at h
    split at h
    · rename_i a b e1 e2
      cases h
      obtain ⟨h1,h2⟩:=ha 0 t d rfl
      have k1:=hf t d a e1 _ h1
      have k2:=cat_eq hf l b r (fun i=>pos (i + 1)) e2 (fun i t d hi=>ha (i + 1) t d (by simpa using hi)) (by simpa using hl)
      rw [h2,← List.drop_drop] at k2
      rw [← List.take_append_drop (P.cellsOf t) (r.drop (pos 0)),k1,k2]
    · cases h
theorem offs_pos : ∀ (fs : List Field) (o e : Nat),offsC P o fs = some e → ∃ pos : Nat → Nat,pos 0 = o ∧ pos fs.length = e ∧ ∀ i f,fs[i]? = some f → f.offset = pos i ∧ pos (i + 1) = pos i + P.cellsOf f.type
  | [],o,e,h=>by cases h;exact ⟨fun _=>o,rfl,rfl,fun i f hf=>by simp at hf⟩
  | f :: r,o,e,h=>by
    unfold offsC at h
    split at h
    · rename_i ho
      obtain ⟨pos,h1,h2,h3⟩:=offs_pos r _ _ h
      refine ⟨fun|0=>o|i + 1=>pos i,rfl,h2,fun i g hg=>?_⟩
      cases i with
      | zero=>cases hg;exact ⟨ho,h1⟩
      | succ i=>exact h3 i g (by simpa using hg)
    · cases h
theorem flat_eq : ∀ (n : Nat) (t : TypeId) (d : DataW Unit) (cs : List Value),flatC P n t d = some cs → ∀ r,RdC P w t d r → r = cs:=by
  intro n
  induction n with
  | zero=>intro t d cs h;cases h
  | succ n ih =>
    intro t d cs h r ⟨fuel,p,hr⟩
    unfold flatC at h
    split at h
    · rename_i k k' z hu
      cases h
      obtain ⟨z',e1,e2,_⟩:=DataW.trod_int hu hr
      simp only [Prod.mk.injEq,DataW.lit.injEq,Lit.int.injEq] at e2
      rw [e1,e2.1.2]
    · rename_i l hu
      cases h
      obtain ⟨b,e1,e2,_⟩:=DataW.trod_string hu hr
      simp only [Prod.mk.injEq,DataW.lit.injEq,Lit.string.injEq] at e2
      rw [e1,e2.1]
    · rename_i b hu
      cases h
      obtain ⟨b',e1,e2⟩:=DataW.trod_bool hu hr
      simp only [Prod.mk.injEq,DataW.lit.injEq,Lit.bool.injEq] at e2
      rw [e1,e2.1]
    · rename_i m e ds hu
      split at h
      · rename_i hc
        obtain ⟨xs,m',_,e2,e3,e4,e5⟩:=DataW.trod_array hu hr
        simp only [Prod.mk.injEq,DataW.agg.injEq] at e2
        have:=cat_eq (w:=w) ih (ds.map fun d=>(e,d)) cs r (fun i=>i * P.cellsOf e) h (fun i t' d' hi=>by
          rw [List.getElem?_map,Option.map_eq_some_iff] at hi
          obtain ⟨x,hx,hh⟩:=hi
          simp only [Prod.mk.injEq] at hh
          obtain ⟨rfl,rfl⟩:=hh
          have hlt:=(List.getElem?_eq_some_iff.1 hx).1
          have hi5:=e5 i (by omega)
          rw [e2.1,List.getElem?_map,Option.map_eq_some_iff] at hx
          obtain ⟨y,hy,rfl⟩:=hx
          rw [hy] at hi5
          exact ⟨⟨_,_,hi5⟩,by rw [Nat.add_mul,Nat.one_mul]⟩) (by rw [List.length_map,hc.1,← hc.2];exact e3)
        simpa using this
      · cases h
    · rename_i fs ds hu
      split at h
      · rename_i hc
        obtain ⟨xs,m',_,e2,e3,e4,e5⟩:=DataW.trod_struct hu hr
        simp only [Prod.mk.injEq,DataW.agg.injEq] at e2
        obtain ⟨pos,p0,p1,p2⟩:=offs_pos _ _ _ hc.2
        have:=cat_eq (w:=w) ih ((fs.toList.map (·.type)).zip ds) cs r pos h (fun i t' d' hi=>by
          rw [List.getElem?_zip_eq_some,List.getElem?_map,Option.map_eq_some_iff] at hi
          obtain ⟨⟨f,hf,rfl⟩,hx⟩:=hi
          have hfs : fs[i]? = some f:=by simpa using hf
          have hi5:=e5 i f hfs
          obtain ⟨q1,q2⟩:=p2 i f hf
          rw [e2.1,List.getElem?_map,Option.map_eq_some_iff] at hx
          obtain ⟨y,hy,rfl⟩:=hx
          rw [hy,q1] at hi5
          exact ⟨⟨_,_,hi5⟩,q2⟩) (by
          have : ((fs.toList.map (·.type)).zip ds).length = fs.toList.length:=by simp [hc.1]
          rw [this,p1];exact e3)
        rw [p0] at this
        simpa using this
      · cases h
    · cases h
theorem listed_cells {l : List (String × DataW Unit)} (h : laidMet P l w) {n : String} {d : DataW Unit} (hm : (n, d) ∈ l) {g : Nat} {t : TypeId} {cs : List Value} (hg : P.globalNamed n = some g) (hty : (P.globals[g]?).map (·.type) = some t) (hf : flatC P 10 t d = some cs) :
    ∀ (i : Nat) v,cs[i]? = some v → w.cell? ⟨g,i,none⟩ = some v:=by
  obtain ⟨ps,hv,_⟩:=h
  obtain ⟨g',t',cs',fuel,p,h1,h2,h3,h4⟩:=listed_at hv hm
  obtain rfl:=Option.some.inj (hg.symm.trans h1)
  obtain rfl:=Option.some.inj (hty.symm.trans h2)
  have e:=flat_eq (w:=w) 10 _ _ _ hf _ ⟨_,_,h4⟩
  intro i v hi
  rw [World.var?_cell h1 h3]
  rw [← e] at hi
  simpa using hi
end
/-- what is known of the variables, one after the other -/
def AllC (w : World) : Nat → List (Nat × List Value) → Prop
  | _,[]=>True
  | g,p :: r=>(∀ (i : Nat) v,p.2[i]? = some v → w.cell? ⟨g,i,none⟩ = some v) ∧ AllC w (g + 1) r
theorem allC_at {w : World} : ∀ (l : List (Nat × List Value)) (g k : Nat) (p : Nat × List Value),AllC w g l → l[k]? = some p → ∀ (i : Nat) v,p.2[i]? = some v → w.cell? ⟨g + k,i,none⟩ = some v
  | [],_,_,_,_,h=>by simp at h
  | q :: r,g,0,p,h,hk=>by cases hk;exact h.1
  | q :: r,g,k + 1,p,h,hk=>by
    have:=allC_at r (g + 1) k p h.2 (by simpa using hk)
    rw [show g + (k + 1) = g + 1 + k by omega]
    exact this
theorem noCells {w : World} {g : Nat} : ∀ (i : Nat) v,([] : List Value)[i]? = some v → w.cell? ⟨g,i,none⟩ = some v:=fun i v h=>by simp at h
theorem gh_size {w : World} {g : Nat} {v : Value} (h : w.cell? ⟨g,0,none⟩ = some v) : g < w.heap.size:=by
  unfold World.cell? at h
  rcases Nat.lt_or_ge g w.heap.size with q|q
  · exact q
  · rw [Array.getElem?_eq_none q] at h
    simp at h
theorem gw_all {w : World} (h : AllC w 0 ghCells) : GW w:=fun g es c hg i v hv=>by
  unfold GH at hg
  rw [List.getElem?_map,Option.map_eq_some_iff] at hg
  obtain ⟨p,hp,e⟩:=hg
  cases e
  have:=allC_at ghCells 0 g p h hp i v hv
  rwa [Nat.zero_add] at this
end Go.Rex
