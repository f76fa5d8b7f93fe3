/- What these functions return: facts on lists and numbers. -/
import Derived.Test.YthjoipggampleaaGreatRexG8
import Derived.Test.YthjoipggampleaaGreatS
import Derived.Test.YthjoipggampleaaGreatRexG9
import Derived.ProofKit
import Derived.OpenShut
import Derived.ShutString
import Derived.ChangeOld
import Derived.Below
import Derived.Lib.SmallJoins
import Derived.ChangeShapes
import Derived.ChangeArms
import Derived.WideShapes
set_option linter.unusedSimpArgs false
set_option linter.unusedVariables false
set_option linter.defProp false
namespace Go.Rex
/-! ### plain facts for shallow functions -/
theorem w64 {x : Int} (h : -9223372036854775808 ≤ x ∧ x ≤ 9223372036854775807) : IntKind.i64.wrap x = x := IntWalk.i64_in x (by omega)
end Go.Rex

open Go Go.Rex
namespace Go.Rex
set_option maxRecDepth 100000
theorem within_eq (a b c : Int) : base_Within a b c = some (decide (b ≤ a ∧ a ≤ c)) := by
  unfold base_Within
  by_cases h1 : b ≤ a <;> by_cases h2 : a ≤ c <;> simp [h1, h2]
theorem iRefuse (b : Bool) (e : Int) : image_refuse_c1_11f9 b e = some (if b = true then e else 0) := by
  unfold image_refuse_c1_11f9; cases b <;> rfl
theorem iWithin (n a b : Int) : image_within n a b = some (decide (n < a ∨ n > b), 2) := by
  unfold image_within image_refuse
  by_cases h : n < a
  · simp [h]
  · simp [h]
theorem gcd_run : ∀ (n : Nat) (a b : Int), b.natAbs = n → ∃ r, run base_Gcd_l1 (a, b) = some r ∧ r.natAbs = Nat.gcd a.natAbs b.natAbs := by
  intro n
  induction n using Nat.strongRecOn with
  | _ n ih =>
    intro a b hb
    by_cases h : b = 0
    · refine ⟨a, run_stop ?_, by subst h; simp⟩
      dsimp only [base_Gcd_l1]
      rw [if_neg (by simp [h])]
    · have h1 : base_Gcd_l1 (a, b) = some (.inl (b, a.tmod b)) := by
        dsimp only [base_Gcd_l1]
        rw [if_pos (by simpa using h), if_neg h]
      obtain ⟨r, hr, hg⟩ := ih (a.tmod b).natAbs (by rw [Int.natAbs_tmod, ← hb]; exact Nat.mod_lt _ (by omega)) b (a.tmod b) rfl
      refine ⟨r, by rw [run_next h1]; exact hr, ?_⟩
      rw [hg, Int.natAbs_tmod, Nat.gcd_comm, ← Nat.gcd_rec, Nat.gcd_comm]
theorem div_run (a b : Int) : image_divisor a b = (run base_Gcd_l1 (a, b)).bind fun v => some v := rfl
theorem size_eq {a : Int} (h : -9223372036854775807 ≤ a ∧ a ≤ 9223372036854775807) : base_Size a = some ((a.natAbs : Nat) : Int) := by
  unfold base_Size
  rw [w64 (by omega)]
  congr 1
  split <;> omega
/-- the error of a turn -/
def tErr (r a b : Int) : Int := if r ≠ 1 ∧ r ≠ -1 then 3 else if a < -100000 ∨ a > 100000 then 2 else if b < -100000 ∨ b > 100000 then 2 else 0
theorem turningP {a b r : Int} (h : run base_Gcd_l1 (a, b) = some r) : image_turning_c1_eebc a b = some (tErr r a b) := by
  unfold image_turning_c1_eebc
  rw [div_run, h, Option.bind_some, Option.bind_some]
  unfold image_firstError_262d tErr image_refuse
  simp only [iWithin, iRefuse, Option.bind_some]
  by_cases c1 : r = 1
  · subst c1
    by_cases c2 : a < -100000 ∨ a > 100000
    · simp [c2]
    · by_cases c3 : b < -100000 ∨ b > 100000 <;> simp [c2, c3]
  · by_cases c4 : r = -1
    · subst c4
      by_cases c2 : a < -100000 ∨ a > 100000
      · simp [c2]
      · by_cases c3 : b < -100000 ∨ b > 100000 <;> simp [c2, c3]
    · simp [c1, c4]
theorem sizeOne (r : Int) (hr : -9223372036854775808 ≤ r ∧ r ≤ 9223372036854775807) : ∃ s, base_Size r = some s ∧ (s = 1 ↔ (r = 1 ∨ r = -1)) := by
  by_cases h : r = -9223372036854775808
  · subst h
    exact ⟨_, rfl, by decide⟩
  · exact ⟨_, size_eq (by omega), by omega⟩
theorem turningR {a b r : Int} (h : run base_Gcd_l1 (a, b) = some r) (hr : -9223372036854775808 ≤ r ∧ r ≤ 9223372036854775807) : ref02_TurnErr a b = some (tErr r a b) := by
  unfold ref02_TurnErr base_Gcd
  obtain ⟨s, hs, h1⟩ := sizeOne r hr
  rw [h, Option.bind_some, hs, Option.bind_some, Option.bind_some]
  unfold tErr
  by_cases c : r = 1 ∨ r = -1
  · have hs1 := h1.2 c
    rw [if_neg (by simpa using hs1), if_neg (by omega), within_eq, Option.bind_some]
    by_cases c2 : a < -100000 ∨ a > 100000
    · rw [if_neg (by simp only [decide_eq_true_eq]; omega), if_pos c2]
    · rw [if_pos (by simp only [decide_eq_true_eq]; omega), if_neg c2, within_eq, Option.bind_some]
      by_cases c3 : b < -100000 ∨ b > 100000
      · rw [if_neg (by simp only [decide_eq_true_eq]; omega), if_pos c3]
      · rw [if_pos (by simp only [decide_eq_true_eq]; omega), if_neg c3]
  · have hs1 : s ≠ 1 := fun e => c (h1.1 e)
    rw [if_pos (by simpa using hs1), if_pos (by omega)]
theorem between_eq (a b c d e f : Int) : ref02_Between a b c d e f = image_isBetween a b c d e f := rfl
/-- the error of two places -/
def cErr (a b : Int) : Int := if (a < -45000 ∨ a > 45000) ∨ (b < -45000 ∨ b > 45000) then 2 else 0
theorem sizedP (a b : Int) : image_sized_c1_9cbd a b 45000 = some (cErr a b) := by
  unfold image_sized_c1_9cbd image_firstError_ee0b cErr
  rw [show IntKind.i64.wrap (0 - 45000) = -45000 from by decide]
  simp only [iWithin, iRefuse, Option.bind_some]
  by_cases c2 : a < -45000 ∨ a > 45000
  · simp [c2]
  · by_cases c3 : b < -45000 ∨ b > 45000 <;> simp [c2, c3]
theorem cornerR (a b : Int) : ref02_CornerErr a b = some (cErr a b) := by
  unfold ref02_CornerErr cErr
  rw [within_eq, Option.bind_some]
  by_cases c2 : a < -45000 ∨ a > 45000
  · rw [if_neg (by simp only [decide_eq_true_eq]; omega), if_pos (.inl c2)]
  · rw [if_pos (by simp only [decide_eq_true_eq]; omega), within_eq, Option.bind_some]
    by_cases c3 : b < -45000 ∨ b > 45000
    · rw [if_neg (by simp only [decide_eq_true_eq]; omega), if_pos (.inr c3)]
    · rw [if_pos (by simp only [decide_eq_true_eq]; omega), if_neg (by omega)]
/-- a turn to another place -/
theorem turn_same (a b c d : Int) : ∃ u v e, image_TurnTo a b c d = some (u, v, e) ∧ ref02_TurnTo a b c d = some (u, v, e) := by
  unfold image_TurnTo image_firstError_4341 ref02_TurnTo image_sized image_refuse
  simp only [Option.bind_some, sizedP, cornerR, iRefuse]
  by_cases h1 : cErr a b = 0
  · by_cases h2 : cErr c d = 0
    · by_cases h3 : ([a == c, b == d].all id) = true
      · exact ⟨0, 0, 11, by simp [h1, h2, h3], by simp [h1, h2, h3]⟩
      · have hne : ¬ (a = c ∧ b = d) := fun ⟨x, y⟩ => h3 (by subst x; subst y; simp)
        have b1 : (-45000 ≤ a ∧ a ≤ 45000) ∧ -45000 ≤ b ∧ b ≤ 45000 := by
          unfold cErr at h1
          by_cases x : (a < -45000 ∨ a > 45000) ∨ (b < -45000 ∨ b > 45000)
          · rw [if_pos x] at h1; cases h1
          · omega
        have b2 : (-45000 ≤ c ∧ c ≤ 45000) ∧ -45000 ≤ d ∧ d ≤ 45000 := by
          unfold cErr at h2
          by_cases x : (c < -45000 ∨ c > 45000) ∨ (d < -45000 ∨ d > 45000)
          · rw [if_pos x] at h2; cases h2
          · omega
        obtain ⟨r, hr, hg⟩ := gcd_run _ (c - a) (d - b) rfl
        have hr0 : r.natAbs ≠ 0 := by
          rw [hg]
          intro e
          have := Nat.eq_zero_of_gcd_eq_zero_left e
          have := Nat.eq_zero_of_gcd_eq_zero_right e
          omega
        have hle : r.natAbs ≤ 90000 := by
          rw [hg]
          by_cases z : d - b = 0
          · rw [z, Int.natAbs_zero, Nat.gcd_zero_right]; omega
          · have := Nat.gcd_le_right (c - a).natAbs (n := (d - b).natAbs) (by omega)
            omega
        have e1 : (if IntKind.i64.wrap (0 - r) > r then IntKind.i64.wrap (0 - r) else r) = ((r.natAbs : Nat) : Int) := by
          rw [w64 (by omega)]
          split <;> omega
        refine ⟨IntKind.i64.wrap ((c - a).tdiv (r.natAbs : Nat)), IntKind.i64.wrap ((d - b).tdiv (r.natAbs : Nat)), 0, ?_, ?_⟩
        · have : image_turnTo a b c d = some (IntKind.i64.wrap ((c - a).tdiv (r.natAbs : Nat)), IntKind.i64.wrap ((d - b).tdiv (r.natAbs : Nat)), ((r.natAbs : Nat) : Int)) := by
            unfold image_turnTo
            rw [w64 (x := c - a) (by omega), w64 (x := d - b) (by omega), div_run, hr, Option.bind_some, Option.bind_some, e1, if_neg (by omega)]
          rw [this]
          simp [h1, h2, h3]
        · have : ref02_turn (c - a) (d - b) = some (IntKind.i64.wrap ((c - a).tdiv (r.natAbs : Nat)), IntKind.i64.wrap ((d - b).tdiv (r.natAbs : Nat))) := by
            unfold ref02_turn base_Gcd
            rw [hr, Option.bind_some, size_eq (by omega), Option.bind_some, Option.bind_some, if_neg (by omega)]
          rw [w64 (x := c - a) (by omega), w64 (x := d - b) (by omega), this]
          simp [h1, h2, h3]
    · have h2' : cErr c d = 2 := by unfold cErr at h2 ⊢; split at h2 <;> simp_all
      exact ⟨0, 0, 2, by simp [h1, h2'], by simp [h1, h2']⟩
  · have h1' : cErr a b = 2 := by unfold cErr at h1 ⊢; split at h1 <;> simp_all
    exact ⟨0, 0, 2, by simp [h1'], by simp [h1']⟩
end Go.Rex

open Go Go.Rex
namespace Go.Rex
set_option maxRecDepth 100000
theorem has64 {x : Int} (h : IntKind.i64.has x) : -9223372036854775808 ≤ x ∧ x ≤ 9223372036854775807 := h
/-- all values of the loop are between the two that came in -/
theorem gcd_in : ∀ (n : Nat) (a b : Int), b.natAbs = n → (-9223372036854775808 ≤ a ∧ a ≤ 9223372036854775807) → (-9223372036854775808 ≤ b ∧ b ≤ 9223372036854775807) → ∃ r, run base_Gcd_l1 (a, b) = some r ∧ (-9223372036854775808 ≤ r ∧ r ≤ 9223372036854775807) := by
  intro n
  induction n using Nat.strongRecOn with
  | _ n ih =>
    intro a b hb ha hb2
    by_cases h : b = 0
    · refine ⟨a, run_stop ?_, ha⟩
      dsimp only [base_Gcd_l1]
      rw [if_neg (by simp [h])]
    · have h1 : base_Gcd_l1 (a, b) = some (.inl (b, a.tmod b)) := by
        dsimp only [base_Gcd_l1]
        rw [if_pos (by simpa using h), if_neg h]
      have hlt : (a.tmod b).natAbs < n := by rw [Int.natAbs_tmod, ← hb]; exact Nat.mod_lt _ (by omega)
      obtain ⟨r, hr, hg⟩ := ih (a.tmod b).natAbs hlt b (a.tmod b) rfl hb2 (by omega)
      exact ⟨r, by rw [run_next h1]; exact hr, hg⟩
theorem turns_true (a b c d e f p q r s : Int) (hR : ∀ x ∈ [a, b, c, d, e, f, p, q, r, s], IntKind.i64.has x) : law02_ImageTurns a b c d e f p q r s = some true := by
  obtain ⟨r1, g1, k1⟩ := gcd_in _ a b rfl (has64 (hR a (by simp))) (has64 (hR b (by simp)))
  obtain ⟨r2, g2, k2⟩ := gcd_in _ c d rfl (has64 (hR c (by simp))) (has64 (hR d (by simp)))
  obtain ⟨r3, g3, k3⟩ := gcd_in _ e f rfl (has64 (hR e (by simp))) (has64 (hR f (by simp)))
  obtain ⟨u, v, w, t1, t2⟩ := turn_same p q r s
  unfold law02_ImageTurns
  rw [t1, Option.bind_some]
  simp only
  rw [t2, Option.bind_some]
  simp only
  rw [if_neg (by simp), if_pos (by simp)]
  have hb : image_Between a b c d e f = some (if tErr r1 a b ≠ 0 then (false, tErr r1 a b) else if tErr r2 c d ≠ 0 then (false, tErr r2 c d) else if tErr r3 e f ≠ 0 then (false, tErr r3 e f) else ((decide (IntKind.i64.wrap (IntKind.i64.wrap (a * d) - IntKind.i64.wrap (b * c)) > 0) && (decide (IntKind.i64.wrap (IntKind.i64.wrap (a * f) - IntKind.i64.wrap (b * e)) > 0) && decide (IntKind.i64.wrap (IntKind.i64.wrap (e * d) - IntKind.i64.wrap (f * c)) > 0))), 0)) := by
    unfold image_Between image_firstError_19ee image_turning
    simp only [Option.bind_some, turningP g1, turningP g2, turningP g3]
    by_cases c1 : tErr r1 a b = 0
    · by_cases c2 : tErr r2 c d = 0
      · by_cases c3 : tErr r3 e f = 0
        · simp only [c1, c2, c3, ne_eq, not_true, decide_false, Bool.false_eq_true, if_false, Option.bind_some]
          unfold image_isBetween image_cross
          simp only [Option.bind_some]
          by_cases d1 : IntKind.i64.wrap (IntKind.i64.wrap (a * d) - IntKind.i64.wrap (b * c)) > 0
          · by_cases d2 : IntKind.i64.wrap (IntKind.i64.wrap (a * f) - IntKind.i64.wrap (b * e)) > 0
            · simp only [d1, d2, decide_true, if_true, Option.bind_some, Bool.true_and]
            · simp only [d1, d2, decide_true, decide_false, Bool.false_eq_true, if_true, if_false, Option.bind_some, Bool.true_and, Bool.false_and]
          · simp only [d1, decide_false, Bool.false_eq_true, if_false, Option.bind_some, Bool.false_and]
        · simp [c1, c2, c3]
      · simp [c1, c2]
    · simp [c1]
  rw [hb, Option.bind_some, turningR g1 k1, Option.bind_some]
  by_cases c1 : tErr r1 a b = 0
  · rw [if_pos (by simpa using c1), turningR g2 k2, Option.bind_some]
    by_cases c2 : tErr r2 c d = 0
    · rw [if_pos (by simpa using c2), turningR g3 k3, Option.bind_some]
      by_cases c3 : tErr r3 e f = 0
      · rw [if_neg (by simpa using c3), between_eq]
        simp only [c1, c2, c3, ne_eq, not_true, if_false]
        rw [if_pos (by simp)]
        unfold image_isBetween image_cross
        simp only [Option.bind_some]
        by_cases d1 : IntKind.i64.wrap (IntKind.i64.wrap (a * d) - IntKind.i64.wrap (b * c)) > 0
        · by_cases d2 : IntKind.i64.wrap (IntKind.i64.wrap (a * f) - IntKind.i64.wrap (b * e)) > 0
          · simp [d1, d2]
          · simp [d1, d2]
        · simp [d1]
      · rw [if_pos (by simpa using c3)]
        simp [c1, c2, c3]
    · rw [if_neg (by simpa using c2), if_pos (by simpa using c2)]
      simp [c1, c2]
  · rw [if_neg (by simpa using c1), if_pos (by simpa using c1)]
    simp [c1]
end Go.Rex

namespace Go.Rex
open Go Go.ChangeShapes Go.WideShapes Go.ChangeAt Go.RowKit Go.Joins Go.Proofs
/-! ### arguments: what they are as trees, and the names of their blocks -/
structure Arg (W : World) (v' : Value) (p : TV) (bs : List Blk) (is : List Info) (av : Nat → Value) : Prop where
  vr : ∀ (D : Nat → Prop) (m : NMap) n, (∀ j, j < bs.length → D (n + j)) → (∀ (j : Nat) i, is[j]? = some i → m (n + j) = i) → VR D m (av n) v'
  vl : ∀ (Fz : Nat → Prop) (h : List Blk) n, (∀ j, j < bs.length → Fz (n + j)) → (∀ (j : Nat) b, bs[j]? = some b → h[n + j]? = some b) → VL Fz h noL p (av n)
  ok : ∀ (D : Nat → Prop) (m : NMap) n, (∀ j, j < bs.length → D (n + j)) → (∀ (j : Nat) i, is[j]? = some i → m (n + j) = i) → ∀ (j : Nat) b, bs[j]? = some b → BlkOk D m W (n + j) b
  lt : ∀ (j : Nat) b i, bs[j]? = some b → is[j]? = some i → b ≠ .dead → i.block < W.heap.size
  len : is.length = bs.length
structure Args (W : World) (vs' : List Value) (ps : List TV) (bs : List Blk) (is : List Info) (av : Nat → List Value) : Prop where
  vr : ∀ (D : Nat → Prop) (m : NMap) n, (∀ j, j < bs.length → D (n + j)) → (∀ (j : Nat) i, is[j]? = some i → m (n + j) = i) → VRs D m (av n) vs'
  vl : ∀ (Fz : Nat → Prop) (h : List Blk) n, (∀ j, j < bs.length → Fz (n + j)) → (∀ (j : Nat) b, bs[j]? = some b → h[n + j]? = some b) → VLs Fz h noL ps (av n)
  ok : ∀ (D : Nat → Prop) (m : NMap) n, (∀ j, j < bs.length → D (n + j)) → (∀ (j : Nat) i, is[j]? = some i → m (n + j) = i) → ∀ (j : Nat) b, bs[j]? = some b → BlkOk D m W (n + j) b
  lt : ∀ (j : Nat) b i, bs[j]? = some b → is[j]? = some i → b ≠ .dead → i.block < W.heap.size
  len : is.length = bs.length
theorem Args.nil (W : World) : Args W [] [] [] [] (fun _ => []) :=
  ⟨fun _ _ _ _ _ => ⟨rfl, fun i a a' h => by simp at h⟩, fun _ _ _ _ _ => .nil, fun _ _ _ _ _ j b h => by simp at h, fun j b i h => by simp at h, rfl⟩
theorem Args.cons {W : World} {v' : Value} {p : TV} {bs bs2 : List Blk} {is is2 : List Info} {av : Nat → Value} {vs' : List Value} {ps : List TV} {avs : Nat → List Value}
    (a : Arg W v' p bs is av) (az : Args W vs' ps bs2 is2 avs) : Args W (v' :: vs') (p :: ps) (bs ++ bs2) (is ++ is2) (fun n => av n :: avs (n + bs.length)) := by
  have cD : ∀ (D : Nat → Prop) n, (∀ j, j < (bs ++ bs2).length → D (n + j)) → (∀ j, j < bs.length → D (n + j)) ∧ (∀ j, j < bs2.length → D (n + bs.length + j)) := by
    intro D n h
    refine ⟨fun j hj => h j (by simp; omega), fun j hj => ?_⟩
    have := h (bs.length + j) (by simp; omega)
    rwa [← Nat.add_assoc] at this
  have cI : ∀ (m : NMap) n, (∀ (j : Nat) i, (is ++ is2)[j]? = some i → m (n + j) = i) → (∀ (j : Nat) i, is[j]? = some i → m (n + j) = i) ∧ (∀ (j : Nat) i, is2[j]? = some i → m (n + bs.length + j) = i) := by
    intro m n h
    refine ⟨fun j i hj => h j i (by rw [List.getElem?_append_left (List.getElem?_eq_some_iff.1 hj).1]; exact hj), fun j i hj => ?_⟩
    have := h (bs.length + j) i (by rw [List.getElem?_append_right (by rw [a.len]; omega), a.len, Nat.add_sub_cancel_left]; exact hj)
    rwa [← Nat.add_assoc] at this
  refine ⟨fun D m n hD hm => ?_, fun Fz h n hF hh => ?_, fun D m n hD hm j b hb => ?_, fun j b i hb hi hd => ?_, by simp [a.len, az.len]⟩
  · have h1 := a.vr D m n (cD D n hD).1 (cI m n hm).1
    have h2 := az.vr D m (n + bs.length) (cD D n hD).2 (cI m n hm).2
    refine ⟨by simp [h2.len], fun i x x' hx hx' => ?_⟩
    cases i with
    | zero => simp at hx hx'; subst hx hx'; exact h1
    | succ i => simp at hx hx'; exact h2.at' i x x' hx hx'
  · refine .cons (a.vl Fz h n (cD Fz n hF).1 fun j b hb => hh j b (by rw [List.getElem?_append_left (List.getElem?_eq_some_iff.1 hb).1]; exact hb)) (az.vl Fz h (n + bs.length) (cD Fz n hF).2 fun j b hb => ?_)
    have := hh (bs.length + j) b (by rw [List.getElem?_append_right (by omega), Nat.add_sub_cancel_left]; exact hb)
    rwa [← Nat.add_assoc] at this
  · rcases Nat.lt_or_ge j bs.length with hj | hj
    · rw [List.getElem?_append_left hj] at hb
      exact a.ok D m n (cD D n hD).1 (cI m n hm).1 j b hb
    · rw [List.getElem?_append_right hj] at hb
      have := az.ok D m (n + bs.length) (cD D n hD).2 (cI m n hm).2 _ b hb
      rwa [show n + bs.length + (j - bs.length) = n + j by omega] at this
  · rcases Nat.lt_or_ge j bs.length with hj | hj
    · rw [List.getElem?_append_left hj] at hb
      rw [List.getElem?_append_left (by rw [a.len]; exact hj)] at hi
      exact a.lt j b i hb hi hd
    · rw [List.getElem?_append_right hj] at hb
      rw [List.getElem?_append_right (by rw [a.len]; exact hj), a.len] at hi
      exact az.lt _ b i hb hi hd
/-- the names of the arguments -/
def nm (is : List Info) : NMap := fun n => is.getD n ⟨0, 0, 0, 0⟩
theorem nm_at {is : List Info} {j : Nat} {i : Info} (h : is[j]? = some i) : nm is (0 + j) = i := by
  unfold nm
  rw [Nat.zero_add, List.getD_eq_getElem?_getD, h]
  rfl
section
variable {W : World} {vs' : List Value} {ps : List TV} {bs : List Blk} {is : List Info} {av : Nat → List Value}
theorem Args.vls (a : Args W vs' ps bs is av) : VLs (fun k => k < bs.length) bs noL ps (av 0) := a.vl _ _ 0 (fun j hj => by omega) (fun j b hb => by rw [Nat.zero_add]; exact hb)
theorem Args.vrs (a : Args W vs' ps bs is av) : VRs (fun k => k < bs.length) (nm is) (av 0) vs' := a.vr _ _ 0 (fun j hj => by omega) (fun j i hi => nm_at hi)
end
theorem len2 {α : Type} {l : List α} (h : l.length = 2) : ∃ x0 x1, l = [x0, x1] := by
  match l, h with
  | [x0, x1], _ => exact ⟨_, _, rfl⟩
theorem len10 {α : Type} {l : List α} (h : l.length = 10) : ∃ x0 x1 x2 x3 x4 x5 x6 x7 x8 x9, l = [x0, x1, x2, x3, x4, x5, x6, x7, x8, x9] := by
  match l, h with
  | [x0, x1, x2, x3, x4, x5, x6, x7, x8, x9], _ => exact ⟨_, _, _, _, _, _, _, _, _, _, rfl⟩
/-! ### arguments without names -/
def AtomV (c : Value) : Prop := isAtom c = true ∧ ∀ D m, VR D m c c
theorem atomV_int (k : IntKind) (n : Int) : AtomV (.int k n) := ⟨rfl, fun _ _ => .int _ _⟩
theorem Arg.agg {W : World} {l : List Value} (h : ∀ c ∈ l, AtomV c) : Arg W (.agg ⟨l⟩) (.agg (l.map .v)) [] [] (fun _ => .agg ⟨l⟩) := by
  refine ⟨fun _ _ _ _ _ => .agg _ _ rfl fun i v v' hv hv' => ?_, fun _ _ _ _ _ => .agg _ _ _ (by simp) fun i p x hp hx => ?_, fun _ _ _ _ _ j b h => by simp at h, fun j b i h => by simp at h, rfl⟩
  · obtain rfl : v = v' := Option.some.inj (hv.symm.trans hv')
    exact (h v (List.mem_of_getElem? hv)).2 _ _
  · rw [List.getElem?_map, hx] at hp
    obtain rfl := Option.some.inj hp
    exact .v _ _ (h x (List.mem_of_getElem? hx)).1
/-! ### a slice of rows -/
section
variable {H : Type} {enc : TypeId × Value → H} {W : World} {base : Nat} {spare : Nat → Bool} {held : Bool}
/-! ### aggregates of ints -/
def AI (cs : List Value) : Prop := ∀ c ∈ cs, ∃ n : Int, c = .int .i64 n
theorem AI.list {cs : List Value} (h : AI cs) : ∃ l : List Int, cs = l.map (.int .i64) := by
  induction cs with
  | nil => exact ⟨[], rfl⟩
  | cons c t ih =>
    obtain ⟨n, rfl⟩ := h c (by simp)
    obtain ⟨l, rfl⟩ := ih fun c hc => h c (by simp [hc])
    exact ⟨n :: l, rfl⟩
variable {P : Program}
theorem okW_int {t : TypeId} (ht : P.underlying t = some (.int .i64)) {r : Reach} {b : Nat} {v : Value} (w : Cell.okWide P W r b t v) : ∃ n : Int, v = .int .i64 n := by
  unfold Cell.okWide at w
  simp only [ht] at w
  unfold Cell.ok at w
  simp only [ht] at w
  cases v <;> first | exact ⟨_, by rw [w.1]⟩ | exact absurd w (by simp)
theorem open_sti {t ti : TypeId} {fs : Array Field} {n : Nat} (ht : P.underlying t = some (.struct fs)) (hti : P.underlying ti = some (.int .i64)) (hct : P.cellTypes P.depth t = some (List.replicate n ti)) (hn : P.cellsOf t = n)
    {r : Reach} {b : Nat} {v : Value} (w : Value.okWide P W r b t v) : ∃ l : List Int, l.length = n ∧ v = .agg ⟨l.map (.int .i64)⟩ := by
  unfold Value.okWide at w
  simp only [ht] at w
  obtain ⟨cs, rfl, hs, ts, hts, _, hc⟩ := w
  rw [hct] at hts
  obtain rfl := Option.some.inj hts
  obtain ⟨l⟩ := cs
  have : AI l := by
    intro c hcm
    obtain ⟨j, hj, rfl⟩ := List.mem_iff_getElem.1 hcm
    obtain ⟨u, hu, hok⟩ := hc j l[j] (by simp)
    have := List.eq_of_mem_replicate (List.mem_of_getElem? hu)
    subst this
    exact okW_int hti hok
  obtain ⟨l', rfl⟩ := this.list
  refine ⟨l', ?_, rfl⟩
  simpa [hn] using hs
theorem open_stiR {t ti : TypeId} {fs : Array Field} {n : Nat} (ht : P.underlying t = some (.struct fs)) (hti : P.underlying ti = some (.int .i64)) (hct : P.cellTypes P.depth t = some (List.replicate n ti)) (hn : P.cellsOf t = n)
    {r : Reach} {b : Nat} {v : Value} (w : Value.okWide P W r b t v) : ∃ l : List Int, l.length = n ∧ (∀ x ∈ l, IntKind.i64.has x) ∧ v = .agg ⟨l.map (.int .i64)⟩ := by
  obtain ⟨l, hl, rfl⟩ := open_sti ht hti hct hn w
  refine ⟨l, hl, fun x hx => ?_, rfl⟩
  unfold Value.okWide at w
  simp only [ht] at w
  obtain ⟨cs, hcs, hs, ts, hts, _, hc⟩ := w
  rw [hct] at hts
  obtain rfl := Option.some.inj hts
  obtain rfl : (⟨l.map (.int .i64)⟩ : Array Value) = cs := by injection hcs
  obtain ⟨j, hj, rfl⟩ := List.mem_iff_getElem.1 hx
  obtain ⟨u, hu, hok⟩ := hc j (.int .i64 l[j]) (by simp [hj])
  have := List.eq_of_mem_replicate (List.mem_of_getElem? hu)
  subst this
  unfold Cell.okWide at hok
  simp only [hti] at hok
  unfold Cell.ok at hok
  simp only [hti] at hok
  exact hok.2
theorem arg_ints (l : List Int) : Arg W (.agg ⟨l.map (.int .i64)⟩) (.agg (l.map fun x => .v (.int .i64 x))) [] [] (fun _ => .agg ⟨l.map (.int .i64)⟩) := by
  have := Arg.agg (W := W) (l := l.map (.int .i64)) fun c hc => by obtain ⟨x, _, rfl⟩ := List.mem_map.1 hc; exact atomV_int _ _
  rwa [List.map_map] at this
theorem Arg.ofArgs {cs : List Value} {ps : List TV} {bs : List Blk} {is : List Info} {av : Nat → List Value} (a : Args W cs ps bs is av) : Arg W (.agg ⟨cs⟩) (.agg ps) bs is (fun n => .agg ⟨av n⟩) :=
  ⟨fun D m n hD hm => .agg' (a.vr D m n hD hm), fun Fz h n hF hh => .agg' (a.vl Fz h n hF hh), a.ok, a.lt, a.len⟩
end
end Go.Rex

namespace Go.Rex
open Go Go.ChangeShapes Go.WideShapes Go.ChangeAt Go.RowKit Go.Joins Go.Proofs
/-! ### arguments whose blocks name one another: lists of lists -/
structure NArg (W : World) (v' : Value) (p : TV) (bs : Nat → List Blk) (is : List Info) (av : Nat → Value) : Prop where
  vr : ∀ (D : Nat → Prop) (m : NMap) n, (∀ j, j < is.length → D (n + j)) → (∀ (j : Nat) i, is[j]? = some i → m (n + j) = i) → VR D m (av n) v'
  vl : ∀ (Fz : Nat → Prop) (h : List Blk) n, (∀ j, j < is.length → Fz (n + j)) → (∀ (j : Nat) b, (bs n)[j]? = some b → h[n + j]? = some b) → VL Fz h noL p (av n)
  ok : ∀ (D : Nat → Prop) (m : NMap) n, (∀ j, j < is.length → D (n + j)) → (∀ (j : Nat) i, is[j]? = some i → m (n + j) = i) → ∀ (j : Nat) b, (bs n)[j]? = some b → BlkOk D m W (n + j) b
  lt : ∀ n (j : Nat) b i, (bs n)[j]? = some b → is[j]? = some i → b ≠ .dead → i.block < W.heap.size
  len : ∀ n, (bs n).length = is.length
structure NArgs (W : World) (vs' : List Value) (ps : List TV) (bs : Nat → List Blk) (is : List Info) (av : Nat → List Value) : Prop where
  vr : ∀ (D : Nat → Prop) (m : NMap) n, (∀ j, j < is.length → D (n + j)) → (∀ (j : Nat) i, is[j]? = some i → m (n + j) = i) → VRs D m (av n) vs'
  vl : ∀ (Fz : Nat → Prop) (h : List Blk) n, (∀ j, j < is.length → Fz (n + j)) → (∀ (j : Nat) b, (bs n)[j]? = some b → h[n + j]? = some b) → VLs Fz h noL ps (av n)
  ok : ∀ (D : Nat → Prop) (m : NMap) n, (∀ j, j < is.length → D (n + j)) → (∀ (j : Nat) i, is[j]? = some i → m (n + j) = i) → ∀ (j : Nat) b, (bs n)[j]? = some b → BlkOk D m W (n + j) b
  lt : ∀ n (j : Nat) b i, (bs n)[j]? = some b → is[j]? = some i → b ≠ .dead → i.block < W.heap.size
  len : ∀ n, (bs n).length = is.length
theorem Arg.n {W : World} {v' : Value} {p : TV} {bs : List Blk} {is : List Info} {av : Nat → Value} (a : Arg W v' p bs is av) : NArg W v' p (fun _ => bs) is av :=
  ⟨fun D m n hD hm => a.vr D m n (by rw [← a.len]; exact hD) hm, fun Fz h n hF hh => a.vl Fz h n (by rw [← a.len]; exact hF) hh, fun D m n hD hm => a.ok D m n (by rw [← a.len]; exact hD) hm, fun _ => a.lt, fun _ => a.len.symm⟩
theorem NArgs.nil (W : World) : NArgs W [] [] (fun _ => []) [] (fun _ => []) :=
  ⟨fun _ _ _ _ _ => ⟨rfl, fun i a a' h => by simp at h⟩, fun _ _ _ _ _ => .nil, fun _ _ _ _ _ j b h => by simp at h, fun _ j b i h => by simp at h, fun _ => rfl⟩
theorem NArgs.cons {W : World} {v' : Value} {p : TV} {bs bs2 : Nat → List Blk} {is is2 : List Info} {av : Nat → Value} {vs' : List Value} {ps : List TV} {avs : Nat → List Value}
    (a : NArg W v' p bs is av) (az : NArgs W vs' ps bs2 is2 avs) : NArgs W (v' :: vs') (p :: ps) (fun n => bs n ++ bs2 (n + is.length)) (is ++ is2) (fun n => av n :: avs (n + is.length)) := by
  have cD : ∀ (D : Nat → Prop) n, (∀ j, j < (is ++ is2).length → D (n + j)) → (∀ j, j < is.length → D (n + j)) ∧ (∀ j, j < is2.length → D (n + is.length + j)) := by
    intro D n h
    refine ⟨fun j hj => h j (by simp; omega), fun j hj => ?_⟩
    have := h (is.length + j) (by simp; omega)
    rwa [← Nat.add_assoc] at this
  have cI : ∀ (m : NMap) n, (∀ (j : Nat) i, (is ++ is2)[j]? = some i → m (n + j) = i) → (∀ (j : Nat) i, is[j]? = some i → m (n + j) = i) ∧ (∀ (j : Nat) i, is2[j]? = some i → m (n + is.length + j) = i) := by
    intro m n h
    refine ⟨fun j i hj => h j i (by rw [List.getElem?_append_left (List.getElem?_eq_some_iff.1 hj).1]; exact hj), fun j i hj => ?_⟩
    have := h (is.length + j) i (by rw [List.getElem?_append_right (by omega), Nat.add_sub_cancel_left]; exact hj)
    rwa [← Nat.add_assoc] at this
  refine ⟨fun D m n hD hm => ?_, fun Fz h n hF hh => ?_, fun D m n hD hm j b hb => ?_, fun n j b i hb hi hd => ?_, fun n => by simp [a.len, az.len]⟩
  · have h1 := a.vr D m n (cD D n hD).1 (cI m n hm).1
    have h2 := az.vr D m (n + is.length) (cD D n hD).2 (cI m n hm).2
    refine ⟨by simp [h2.len], fun i x x' hx hx' => ?_⟩
    cases i with
    | zero => simp at hx hx'; subst hx hx'; exact h1
    | succ i => simp at hx hx'; exact h2.at' i x x' hx hx'
  · refine .cons (a.vl Fz h n (cD Fz n hF).1 fun j b hb => hh j b (by rw [List.getElem?_append_left (List.getElem?_eq_some_iff.1 hb).1]; exact hb)) (az.vl Fz h (n + is.length) (cD Fz n hF).2 fun j b hb => ?_)
    have := hh (is.length + j) b (by rw [List.getElem?_append_right (by rw [a.len]; omega), a.len, Nat.add_sub_cancel_left]; exact hb)
    rwa [← Nat.add_assoc] at this
  · rcases Nat.lt_or_ge j is.length with hj | hj
    · rw [List.getElem?_append_left (by rw [a.len]; exact hj)] at hb
      exact a.ok D m n (cD D n hD).1 (cI m n hm).1 j b hb
    · rw [List.getElem?_append_right (by rw [a.len]; exact hj), a.len] at hb
      have := az.ok D m (n + is.length) (cD D n hD).2 (cI m n hm).2 _ b hb
      rwa [show n + is.length + (j - is.length) = n + j by omega] at this
  · rcases Nat.lt_or_ge j is.length with hj | hj
    · rw [List.getElem?_append_left (by rw [a.len]; exact hj)] at hb
      rw [List.getElem?_append_left hj] at hi
      exact a.lt n j b i hb hi hd
    · rw [List.getElem?_append_right (by rw [a.len]; exact hj), a.len] at hb
      rw [List.getElem?_append_right hj] at hi
      exact az.lt _ _ b i hb hi hd
section
variable {W : World} {vs' : List Value} {ps : List TV} {bs : Nat → List Blk} {is : List Info} {av : Nat → List Value}
/-- the names of the variables of packages come first -/
def gnm (is : List Info) : NMap := fun k => if k < NG then gm k else is.getD (k - NG) ⟨0, 0, 0, 0⟩
theorem gnm_at {is : List Info} {j : Nat} {i : Info} (h : is[j]? = some i) : gnm is (NG + j) = i := by
  unfold gnm
  rw [if_neg (by omega), Nat.add_sub_cancel_left, List.getD_eq_getElem?_getD, h]
  rfl
theorem gh_len : GH.length = NG := rfl
theorem NArgs.rel (a : NArgs W vs' ps bs is av) (hw : GW W) (hs : NG ≤ W.heap.size) : Rel W.heap.size (GH ++ bs NG).length (fun k => k < (GH ++ bs NG).length) (gnm is) (GH ++ bs NG) W := by
  have hl := a.len NG
  have hn : (GH ++ bs NG).length = NG + is.length := by rw [List.length_append, gh_len, hl]
  have old : ∀ k, k < NG → gnm is k = gm k := fun k hk => if_pos hk
  have parts : ∀ n b, n < (GH ++ bs NG).length → (GH ++ bs NG)[n]? = some b → (n < NG ∧ GH[n]? = some b) ∨ ∃ j, n = NG + j ∧ (bs NG)[j]? = some b := by
    intro n b hn' hb
    rcases Nat.lt_or_ge n NG with h | h
    · rw [List.getElem?_append_left h] at hb; exact .inl ⟨h, hb⟩
    · rw [List.getElem?_append_right h, gh_len] at hb; exact .inr ⟨n - NG, by omega, hb⟩
  have st := Rel.start W hw hs
  have lt : ∀ n b, n < (GH ++ bs NG).length → (GH ++ bs NG)[n]? = some b → b ≠ .dead → (gnm is n).block < W.heap.size := by
    intro n b hn' hb hd
    rcases parts n b hn' hb with ⟨h1, h2⟩ | ⟨j, rfl, h2⟩
    · rw [old n h1]; exact st.lt n b h1 h2 hd
    · have hj : j < is.length := by omega
      rw [gnm_at (List.getElem?_eq_getElem hj)]
      exact a.lt NG j b _ h2 (List.getElem?_eq_getElem hj) hd
  refine ⟨Nat.le_refl _, fun _ h => h, fun n b hn' hb => ?_, lt, fun n b hD hl => absurd hD (by omega), fun n b hn' _ hb hd => lt n b hn' hb hd, fun n b hD hl => absurd hD (by omega), fun n n' b b' hD _ hl => absurd hD (by omega), ⟨fun g hg => ⟨?_, ?_⟩, hs, hw⟩⟩
  · rcases parts n b hn' hb with ⟨h1, h2⟩ | ⟨j, rfl, h2⟩
    · exact (st.ok n b h1 h2).mono (fun k hk => by have hk' : k < NG := hk; show k < (GH ++ bs NG).length; omega) (fun k hk => old k hk) (old n h1)
    · exact a.ok (fun k => k < (GH ++ bs NG).length) (gnm is) NG (fun j hj => by omega) (fun j i hi => gnm_at hi) j b h2
  · show g < (GH ++ bs NG).length; omega
  · rw [old g hg]; exact gm_at g
theorem NArgs.vls (a : NArgs W vs' ps bs is av) : VLs (fun k => k < (GH ++ bs NG).length) (GH ++ bs NG) noL ps (av NG) := by
  have hn : (GH ++ bs NG).length = NG + is.length := by rw [List.length_append, gh_len, a.len NG]
  exact a.vl _ _ NG (fun j hj => by omega) (fun j b hb => by rw [List.getElem?_append_right (by rw [gh_len]; omega), gh_len, Nat.add_sub_cancel_left]; exact hb)
theorem NArgs.vrs (a : NArgs W vs' ps bs is av) : VRs (fun k => k < (GH ++ bs NG).length) (gnm is) (av NG) vs' := by
  have hn : (GH ++ bs NG).length = NG + is.length := by rw [List.length_append, gh_len, a.len NG]
  exact a.vr _ _ NG (fun j hj => by omega) (fun j i hi => gnm_at hi)
theorem NArg.ofArgs (a : NArgs W vs' ps bs is av) : NArg W (.agg ⟨vs'⟩) (.agg ps) bs is (fun n => .agg ⟨av n⟩) :=
  ⟨fun D m n hD hm => .agg' (a.vr D m n hD hm), fun Fz h n hF hh => .agg' (a.vl Fz h n hF hh), a.ok, a.lt, a.len⟩
end
section
variable {H : Type} {enc : TypeId × Value → H} {W : World} {base : Nat} {spare : Nat → Bool} {held : Bool}
end

theorem NArgs.append {W : World} {vs1 : List Value} {ps1 : List TV} {bs bs2 : Nat → List Blk} {is is2 : List Info} {av avs : Nat → List Value} {vs' : List Value} {ps : List TV}
    (a : NArgs W vs1 ps1 bs is av) (az : NArgs W vs' ps bs2 is2 avs) : NArgs W (vs1 ++ vs') (ps1 ++ ps) (fun n => bs n ++ bs2 (n + is.length)) (is ++ is2) (fun n => av n ++ avs (n + is.length)) := by
  have cD : ∀ (D : Nat → Prop) n, (∀ j, j < (is ++ is2).length → D (n + j)) → (∀ j, j < is.length → D (n + j)) ∧ (∀ j, j < is2.length → D (n + is.length + j)) := by
    intro D n h
    refine ⟨fun j hj => h j (by simp; omega), fun j hj => ?_⟩
    have := h (is.length + j) (by simp; omega)
    rwa [← Nat.add_assoc] at this
  have cI : ∀ (m : NMap) n, (∀ (j : Nat) i, (is ++ is2)[j]? = some i → m (n + j) = i) → (∀ (j : Nat) i, is[j]? = some i → m (n + j) = i) ∧ (∀ (j : Nat) i, is2[j]? = some i → m (n + is.length + j) = i) := by
    intro m n h
    refine ⟨fun j i hj => h j i (by rw [List.getElem?_append_left (List.getElem?_eq_some_iff.1 hj).1]; exact hj), fun j i hj => ?_⟩
    have := h (is.length + j) i (by rw [List.getElem?_append_right (by omega), Nat.add_sub_cancel_left]; exact hj)
    rwa [← Nat.add_assoc] at this
  refine ⟨fun D m n hD hm => ?_, fun Fz h n hF hh => ?_, fun D m n hD hm j b hb => ?_, fun n j b i hb hi hd => ?_, fun n => by simp [a.len, az.len]⟩
  · exact (a.vr D m n (cD D n hD).1 (cI m n hm).1).append (az.vr D m (n + is.length) (cD D n hD).2 (cI m n hm).2)
  · refine (a.vl Fz h n (cD Fz n hF).1 fun j b hb => hh j b (by rw [List.getElem?_append_left (List.getElem?_eq_some_iff.1 hb).1]; exact hb)).append (az.vl Fz h (n + is.length) (cD Fz n hF).2 fun j b hb => ?_)
    have := hh (is.length + j) b (by rw [List.getElem?_append_right (by rw [a.len]; omega), a.len, Nat.add_sub_cancel_left]; exact hb)
    rwa [← Nat.add_assoc] at this
  · rcases Nat.lt_or_ge j is.length with hj | hj
    · rw [List.getElem?_append_left (by rw [a.len]; exact hj)] at hb
      exact a.ok D m n (cD D n hD).1 (cI m n hm).1 j b hb
    · rw [List.getElem?_append_right (by rw [a.len]; exact hj), a.len] at hb
      have := az.ok D m (n + is.length) (cD D n hD).2 (cI m n hm).2 _ b hb
      rwa [show n + is.length + (j - is.length) = n + j by omega] at this
  · rcases Nat.lt_or_ge j is.length with hj | hj
    · rw [List.getElem?_append_left (by rw [a.len]; exact hj)] at hb
      rw [List.getElem?_append_left hj] at hi
      exact a.lt n j b i hb hi hd
    · rw [List.getElem?_append_right (by rw [a.len]; exact hj), a.len] at hb
      rw [List.getElem?_append_right hj] at hi
      exact az.lt _ _ b i hb hi hd
section
variable {H : Type} {enc : TypeId × Value → H} {W : World} {base : Nat} {spare : Nat → Bool} {held : Bool}
end
end Go.Rex
