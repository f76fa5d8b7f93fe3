/- A point inside of the plan: the reference and package hall agree. -/
import Derived.Test.YtekieoamelahkaaGreatM38
import Derived.Test.YtekieoamelahkaaGreatM15
import Derived.Test.YtekieoamelahkaaGreatM35
import Derived.Test.YtekieoamelahkaaGreatM22
set_option linter.unusedVariables false
set_option linter.unusedSimpArgs false
namespace Go.Proofs.YtekieoamelahkaaGreat
open Go.RowKit Go.Shelf

theorem sgn_pos {n : Int} (h : 0 < n) : signI n = 1 := by unfold signI; rw [if_neg (by omega), if_pos h]
theorem sgn_neg {n : Int} (h : n < 0) : signI n = -1 := by unfold signI; rw [if_pos h]
theorem sgn_zero : signI 0 = 0 := rfl
theorem dirs {dx dy : Int} (h : LineOk dx dy) : (dx = 0 ∧ 0 < dy) ∨ (dx = 0 ∧ dy < 0) ∨ (0 < dx ∧ dy = 0) ∨ (dx < 0 ∧ dy = 0) ∨ (0 < dx ∧ dy = dx) ∨ (dx < 0 ∧ dy = dx) ∨ (0 < dx ∧ dy = -dx) ∨ (dx < 0 ∧ dy = -dx) := by
 obtain ⟨_, _, h1, h2⟩ := h
 omega
theorem flip_cross {x1 y1 dx dy px py d : Int} (h : LineOk dx dy) (hd : 0 ≤ d) :
 ((decide (y1 * d ≤ py) && !decide ((y1 + dy) * d ≤ py) && decide (0 < besI x1 y1 (signI dx) (signI dy) px py d)) || (!decide (y1 * d ≤ py) && decide ((y1 + dy) * d ≤ py) && decide (besI x1 y1 (signI dx) (signI dy) px py d < 0)))
  = (stradB y1 (y1 + dy) py d && leftB x1 y1 (x1 + dx) (y1 + dy) px py d) := by
 have hT : (y1 + dy) * d = y1 * d + dy * d := Int.add_mul _ _ _
 unfold besI leftB stradB
 rw [hT]
 rcases dirs h with ⟨rfl, h1⟩ | ⟨rfl, h1⟩ | ⟨h1, rfl⟩ | ⟨h1, rfl⟩ | ⟨h1, rfl⟩ | ⟨h1, rfl⟩ | ⟨h1, rfl⟩ | ⟨h1, rfl⟩
 · have hp : 0 ≤ dy * d := Int.mul_nonneg (by omega) hd
   rw [sgn_zero, sgn_pos h1, show plK x1 y1 (x1 + 0) (y1 + dy) = 0 by unfold plK; rw [if_pos (by omega)], show plA x1 y1 (x1 + 0) (y1 + dy) = x1 by unfold plA; rw [if_pos (by omega)]]
   simp only [offP, if_true]
   rw [Bool.eq_iff_iff]; simp; omega
 · have hp : 0 ≤ (-dy) * d := Int.mul_nonneg (by omega) hd
   rw [Int.neg_mul] at hp
   rw [sgn_zero, sgn_neg h1, show plK x1 y1 (x1 + 0) (y1 + dy) = 0 by unfold plK; rw [if_pos (by omega)], show plA x1 y1 (x1 + 0) (y1 + dy) = x1 by unfold plA; rw [if_pos (by omega)]]
   simp only [offP, if_true]
   rw [Bool.eq_iff_iff]; simp; omega
 · rw [Int.zero_mul, Int.add_zero]
   cases decide (y1 * d ≤ py) <;> simp
 · rw [Int.zero_mul, Int.add_zero]
   cases decide (y1 * d ≤ py) <;> simp
 · have hp : 0 ≤ dy * d := Int.mul_nonneg (by omega) hd
   rw [sgn_pos h1, show plK x1 y1 (x1 + dy) (y1 + dy) = 4 by unfold plK; rw [if_neg (by omega), if_neg (by omega), if_pos (by omega)], show plA x1 y1 (x1 + dy) (y1 + dy) = x1 - y1 by unfold plA; rw [if_neg (by omega), if_neg (by omega), if_pos (by omega)]]
   simp [offP, Int.sub_mul]
   rw [Bool.eq_iff_iff]; simp; omega
 · have hp : 0 ≤ (-dy) * d := Int.mul_nonneg (by omega) hd
   rw [Int.neg_mul] at hp
   rw [sgn_neg h1, show plK x1 y1 (x1 + dy) (y1 + dy) = 4 by unfold plK; rw [if_neg (by omega), if_neg (by omega), if_pos (by omega)], show plA x1 y1 (x1 + dy) (y1 + dy) = x1 - y1 by unfold plA; rw [if_neg (by omega), if_neg (by omega), if_pos (by omega)]]
   simp [offP, Int.sub_mul]
   rw [Bool.eq_iff_iff]; simp; omega
 · have hp : 0 ≤ dx * d := Int.mul_nonneg (by omega) hd
   rw [sgn_pos h1, sgn_neg (show -dx < 0 by omega), show plK x1 y1 (x1 + dx) (y1 + -dx) = 3 by unfold plK; rw [if_neg (by omega), if_neg (by omega), if_neg (by omega)], show plA x1 y1 (x1 + dx) (y1 + -dx) = x1 + y1 by unfold plA; rw [if_neg (by omega), if_neg (by omega), if_neg (by omega)]]
   simp [offP, Int.add_mul, Int.neg_mul]
   rw [Bool.eq_iff_iff]; simp; omega
 · have hp : 0 ≤ (-dx) * d := Int.mul_nonneg (by omega) hd
   rw [Int.neg_mul] at hp
   rw [sgn_neg h1, sgn_pos (show 0 < -dx by omega), show plK x1 y1 (x1 + dx) (y1 + -dx) = 3 by unfold plK; rw [if_neg (by omega), if_neg (by omega), if_neg (by omega)], show plA x1 y1 (x1 + dx) (y1 + -dx) = x1 + y1 by unfold plA; rw [if_neg (by omega), if_neg (by omega), if_neg (by omega)]]
   simp [offP, Int.add_mul, Int.neg_mul]
   rw [Bool.eq_iff_iff]; simp; omega

theorem has_holds {x1 y1 dx dy px py d : Int} (h : LineOk dx dy) (hd : 0 ≤ d) : hasP x1 y1 dx dy px py d = holdsB x1 y1 (x1 + dx) (y1 + dy) px py d := by
 have hT : (y1 + dy) * d = y1 * d + dy * d := Int.add_mul _ _ _
 have hS : (x1 + dx) * d = x1 * d + dx * d := Int.add_mul _ _ _
 unfold hasP holdsB spansB besI aloI fulI
 rcases dirs h with ⟨rfl, h1⟩ | ⟨rfl, h1⟩ | ⟨h1, rfl⟩ | ⟨h1, rfl⟩ | ⟨h1, rfl⟩ | ⟨h1, rfl⟩ | ⟨h1, rfl⟩ | ⟨h1, rfl⟩
 · have hp : 0 ≤ dy * d := Int.mul_nonneg (by omega) hd
   rw [show plK x1 y1 (x1 + 0) (y1 + dy) = 0 by unfold plK; rw [if_pos (by omega)], show plA x1 y1 (x1 + 0) (y1 + dy) = x1 by unfold plA; rw [if_pos (by omega)], show longI 0 dy = dy by unfold longI sizeI; (repeat' split) <;> omega, show min x1 (x1 + 0) = x1 by omega, show max x1 (x1 + 0) = x1 by omega, show min y1 (y1 + dy) = y1 by omega, show max y1 (y1 + dy) = y1 + dy by omega, sgn_zero, sgn_pos h1, hT]
   simp only [offP, if_true]
   rw [Bool.eq_iff_iff]; simp [wiB]; omega
 · have hp : 0 ≤ (-dy) * d := Int.mul_nonneg (by omega) hd
   rw [Int.neg_mul] at hp
   rw [show plK x1 y1 (x1 + 0) (y1 + dy) = 0 by unfold plK; rw [if_pos (by omega)], show plA x1 y1 (x1 + 0) (y1 + dy) = x1 by unfold plA; rw [if_pos (by omega)], show longI 0 dy = -dy by unfold longI sizeI; (repeat' split) <;> omega, show min x1 (x1 + 0) = x1 by omega, show max x1 (x1 + 0) = x1 by omega, show min y1 (y1 + dy) = y1 + dy by omega, show max y1 (y1 + dy) = y1 by omega, sgn_zero, sgn_neg h1, hT]
   simp only [offP, if_true]
   rw [Bool.eq_iff_iff]; simp [wiB, Int.neg_mul]; omega
 · have hp : 0 ≤ dx * d := Int.mul_nonneg (by omega) hd
   rw [show plK x1 y1 (x1 + dx) (y1 + 0) = 1 by unfold plK; rw [if_neg (by omega), if_pos (by omega)], show plA x1 y1 (x1 + dx) (y1 + 0) = y1 by unfold plA; rw [if_neg (by omega), if_pos (by omega)], show longI dx 0 = dx by unfold longI sizeI; (repeat' split) <;> omega, show min y1 (y1 + 0) = y1 by omega, show max y1 (y1 + 0) = y1 by omega, show min x1 (x1 + dx) = x1 by omega, show max x1 (x1 + dx) = x1 + dx by omega, sgn_zero, sgn_pos h1, hS]
   simp [offP]
   rw [Bool.eq_iff_iff]; simp [wiB]; omega
 · have hp : 0 ≤ (-dx) * d := Int.mul_nonneg (by omega) hd
   rw [Int.neg_mul] at hp
   rw [show plK x1 y1 (x1 + dx) (y1 + 0) = 1 by unfold plK; rw [if_neg (by omega), if_pos (by omega)], show plA x1 y1 (x1 + dx) (y1 + 0) = y1 by unfold plA; rw [if_neg (by omega), if_pos (by omega)], show longI dx 0 = -dx by unfold longI sizeI; (repeat' split) <;> omega, show min y1 (y1 + 0) = y1 by omega, show max y1 (y1 + 0) = y1 by omega, show min x1 (x1 + dx) = x1 + dx by omega, show max x1 (x1 + dx) = x1 by omega, sgn_zero, sgn_neg h1, hS]
   simp [offP]
   rw [Bool.eq_iff_iff]; simp [wiB, Int.neg_mul]; omega
 · have hp : 0 ≤ dy * d := Int.mul_nonneg (by omega) hd
   rw [sgn_pos h1, show plK x1 y1 (x1 + dy) (y1 + dy) = 4 by unfold plK; rw [if_neg (by omega), if_neg (by omega), if_pos (by omega)], show plA x1 y1 (x1 + dy) (y1 + dy) = x1 - y1 by unfold plA; rw [if_neg (by omega), if_neg (by omega), if_pos (by omega)], show longI dy dy = dy by unfold longI sizeI; (repeat' split) <;> omega, show min y1 (y1 + dy) = y1 by omega, show max y1 (y1 + dy) = y1 + dy by omega, show min x1 (x1 + dy) = x1 by omega, show max x1 (x1 + dy) = x1 + dy by omega, hS, hT]
   rw [show dy * (1 * 1 + 1 * 1) * d = dy * d + dy * d by rw [show (1 * 1 + 1 * 1 : Int) = 2 by decide, Int.mul_assoc, Int.mul_comm 2 d, ← Int.mul_assoc]; omega]
   simp [offP, Int.sub_mul]
   rw [Bool.eq_iff_iff]; simp [wiB]; omega
 · have hp : 0 ≤ (-dy) * d := Int.mul_nonneg (by omega) hd
   rw [Int.neg_mul] at hp
   rw [sgn_neg h1, show plK x1 y1 (x1 + dy) (y1 + dy) = 4 by unfold plK; rw [if_neg (by omega), if_neg (by omega), if_pos (by omega)], show plA x1 y1 (x1 + dy) (y1 + dy) = x1 - y1 by unfold plA; rw [if_neg (by omega), if_neg (by omega), if_pos (by omega)], show longI dy dy = -dy by unfold longI sizeI; (repeat' split) <;> omega, show min y1 (y1 + dy) = y1 + dy by omega, show max y1 (y1 + dy) = y1 by omega, show min x1 (x1 + dy) = x1 + dy by omega, show max x1 (x1 + dy) = x1 by omega, hS, hT]
   rw [show -dy * (-1 * -1 + -1 * -1) * d = -(dy * d) + -(dy * d) by rw [show (-1 * -1 + -1 * -1 : Int) = 2 by decide, Int.mul_assoc, Int.mul_comm 2 d, ← Int.mul_assoc, Int.neg_mul]; omega]
   simp [offP, Int.sub_mul]
   rw [Bool.eq_iff_iff]; simp [wiB]; omega
 · have hp : 0 ≤ dx * d := Int.mul_nonneg (by omega) hd
   have hT' : (y1 + -dx) * d = y1 * d - dx * d := by rw [Int.add_mul, Int.neg_mul]; omega
   rw [sgn_pos h1, sgn_neg (show -dx < 0 by omega), show plK x1 y1 (x1 + dx) (y1 + -dx) = 3 by unfold plK; rw [if_neg (by omega), if_neg (by omega), if_neg (by omega)], show plA x1 y1 (x1 + dx) (y1 + -dx) = x1 + y1 by unfold plA; rw [if_neg (by omega), if_neg (by omega), if_neg (by omega)], show longI dx (-dx) = dx by unfold longI sizeI; (repeat' split) <;> omega, show min y1 (y1 + -dx) = y1 + -dx by omega, show max y1 (y1 + -dx) = y1 by omega, show min x1 (x1 + dx) = x1 by omega, show max x1 (x1 + dx) = x1 + dx by omega, hS, hT']
   rw [show dx * (1 * 1 + -1 * -1) * d = dx * d + dx * d by rw [show (1 * 1 + -1 * -1 : Int) = 2 by decide, Int.mul_assoc, Int.mul_comm 2 d, ← Int.mul_assoc]; omega]
   simp [offP, Int.add_mul]
   rw [Bool.eq_iff_iff]; simp [wiB]; omega
 · have hp : 0 ≤ (-dx) * d := Int.mul_nonneg (by omega) hd
   rw [Int.neg_mul] at hp
   have hT' : (y1 + -dx) * d = y1 * d - dx * d := by rw [Int.add_mul, Int.neg_mul]; omega
   rw [sgn_neg h1, sgn_pos (show 0 < -dx by omega), show plK x1 y1 (x1 + dx) (y1 + -dx) = 3 by unfold plK; rw [if_neg (by omega), if_neg (by omega), if_neg (by omega)], show plA x1 y1 (x1 + dx) (y1 + -dx) = x1 + y1 by unfold plA; rw [if_neg (by omega), if_neg (by omega), if_neg (by omega)], show longI dx (-dx) = -dx by unfold longI sizeI; (repeat' split) <;> omega, show min y1 (y1 + -dx) = y1 by omega, show max y1 (y1 + -dx) = y1 + -dx by omega, show min x1 (x1 + dx) = x1 + dx by omega, show max x1 (x1 + dx) = x1 by omega, hS, hT']
   rw [show -dx * (-1 * -1 + 1 * 1) * d = -(dx * d) + -(dx * d) by rw [show (-1 * -1 + 1 * 1 : Int) = 2 by decide, Int.mul_assoc, Int.mul_comm 2 d, ← Int.mul_assoc, Int.neg_mul]; omega]
   simp [offP, Int.add_mul]
   rw [Bool.eq_iff_iff]; simp [wiB]; omega

theorem inPlan_covers {H : Hal} (hL : LinesOk H) {px py d : Int} (hd : 0 ≤ d) : inplB H px py d = coversB H px py d := by
 have hx : ∀ i, lnX H i + lnDX H i = (corAt H.cors (nxt H.cors.length i)).x := fun i => by unfold lnX lnDX; omega
 have hy : ∀ i, lnY H i + lnDY H i = (corAt H.cors (nxt H.cors.length i)).y := fun i => by unfold lnY lnDY; omega
 have e1 : ∀ i, i < H.cors.length → lnHas H px py d i = onWall H px py d i := fun i hi => by
  unfold lnHas onWall
  rw [has_holds (hL i hi) hd, hx, hy]
  rfl
 have e2 : ∀ i, i < H.cors.length → flipP H px py d i = crossW H px py d i := fun i hi => by
  unfold flipP crossW lowP highP lnBes
  rw [flip_cross (hL i hi) hd, hx, hy]
  rfl
 have e3 : ∀ k, k ≤ H.cors.length → inpTo H px py d k = oddTo H px py d k := by
  intro k
  induction k with
  | zero => intro _; rfl
  | succ k ih =>
   intro hk
   show (if flipP H px py d k = true then _ else _) = (if crossW H px py d k then _ else _)
   rw [e2 k hk, ih (by omega)]
 cases q : (List.range H.cors.length).all (fun k => !onWall H px py d k) with
 | true =>
  have h : ∀ j, j < H.cors.length → onWall H px py d j = false := fun j hj => by
   have := List.all_eq_true.1 q j (by simpa using hj)
   simpa using this
  rw [coversB_end h, inplB_end (fun j hj => (e1 j hj).trans (h j hj)), e3 _ (Nat.le_refl _)]
 | false =>
  obtain ⟨j, hj, h⟩ := List.all_eq_false.1 q
  have hj : j < H.cors.length := by simpa using hj
  have h : onWall H px py d j = true := by simpa using h
  rw [coversB_stop hj h, inplB_stop hj ((e1 j hj).trans h)]
end Go.Proofs.YtekieoamelahkaaGreat

/- The reference's check of a seat. -/
namespace Go.Proofs.YtekieoamelahkaaGreat
open Go.RowKit Go.Shelf
attribute [local go_sem] Oper.semAt_some

theorem toList_inj {a b : ByteArray} (h : a.toList = b.toList) : a = b := by
 rw [ByteArray.toList_eq, ByteArray.toList_eq] at h
 cases a; cases b
 simp at h
 rw [h]
theorem nm_eq (a b : ByteArray) : (a.toList == b.toList) = (b == a) := by
 have hd : (b == a) = (b.data == a.data) := rfl
 rw [hd]
 by_cases h : a = b
 · subst h; simp
 · have h1 : (a.toList == b.toList) = false := by
    rw [beq_eq_false_iff_ne]
    exact fun h' => h (toList_inj h')
   have h2 : (b.data == a.data) = false := by
    rw [beq_eq_false_iff_ne]
    intro h'
    cases a; cases b
    simp at h'
    subst h'
    exact h rfl
   rw [h1, h2]
theorem sea_stop {H : Hal} {i j : Nat} {nm : ByteArray} (hi : i < H.seas.length) (hj : j < i) (h : ((seaAt H.seas j).name.toList == nm.toList) = true) : hasName (seaNames H i) nm = true := by
 unfold hasName seaNames
 rw [List.any_eq_true]
 have hjl : j < H.seas.length := by omega
 refine ⟨(seaAt H.seas j).name, ?_, by rw [← nm_eq]; exact h⟩
 rw [List.mem_map]
 refine ⟨seaAt H.seas j, ?_, rfl⟩
 have : seaAt H.seas j = H.seas[j] := by unfold seaAt; rw [List.getElem?_eq_getElem hjl]; rfl
 rw [this, List.mem_take_iff_getElem]
 exact ⟨j, by omega, rfl⟩
theorem sea_end {H : Hal} {i : Nat} {nm : ByteArray} (hi : i < H.seas.length) (h : ∀ j, j < i → ((seaAt H.seas j).name.toList == nm.toList) = false) : hasName (seaNames H i) nm = false := by
 unfold hasName seaNames
 rw [List.any_eq_false]
 intro x hx
 rw [List.mem_map] at hx
 obtain ⟨s, hs, rfl⟩ := hx
 rw [List.mem_take_iff_getElem] at hs
 obtain ⟨j, hj, rfl⟩ := hs
 have hjl : j < H.seas.length := by omega
 have : seaAt H.seas j = H.seas[j] := by unfold seaAt; rw [List.getElem?_eq_getElem hjl]; rfl
 have := h j (by omega)
 rw [nm_eq] at this
 simp_all
theorem insideE_ref {H : Hal} (hL : LinesOk H) (x y z : Int) : insideE H x y z = if wiB x (-5000) 5000 && (wiB y (-5000) 5000 && wiB z (-5000) 5000) then (if betweenB H.height z 1 && inplB H x y 1 then 0 else 24) else 2 := by
 unfold insideE beyondB withinB
 rw [inPlan_covers hL (by decide)]
 simp only [List.any_cons, List.any_nil, Bool.or_false, out_wi]
 cases wiB x (-5000) 5000 <;> cases wiB y (-5000) 5000 <;> cases wiB z (-5000) 5000 <;> simp
end Go.Proofs.YtekieoamelahkaaGreat
