/- isName. -/
import Derived.Test.YtbonjgeglhbhnaaGreatM09
import Derived.Test.YtbonjgeglhbhnaaGreatM06
import Derived.Test.YtbonjgeglhbhnaaGreatM14
import Derived.Test.YtbonjgeglhbhnaaGreatM19
set_option linter.unusedVariables false
set_option linter.unusedSimpArgs false
namespace Go.Proofs.YtbonjgeglhbhnaaGreat
open Go.RowKit Go.Shelf
attribute [local go_sem] Oper.semAt_some

def byteAt (t : ByteArray) (k : Nat) : Int := ((t.data[k]?).getD 0).toNat
theorem index_str (t : ByteArray) (k : Nat) (h : k < t.size) (w : World) : (Instr.index 9 (.string t) (.int .i64 k)).run Tryz.prog w = .ok (.int .u8 (byteAt t k)) w := by
  have hk : t.data[k]? = some (t.data[k]'h) := Array.getElem?_eq_getElem h
  have hk' : t[k]? = some (t[k]'h) := by simp [h]
  simp [Instr.index, go_sem, byteAt, hk, hk']
  rfl
def charB (c : Int) : Bool := letterB c || digitB c || (c == 45)
def nameB (t : ByteArray) : Bool := decide (t.size ≠ 0) && decide (t.size ≤ 12) && letterB (byteAt t 0) && (List.range t.size).all (fun k => charB (byteAt t k))

theorem nameB_stop {t : ByteArray} {k : Nat} (h : k < t.size) (hc : charB (byteAt t k) = false) : nameB t = false := by
  unfold nameB
  have : (List.range t.size).all (fun k => charB (byteAt t k)) = false := by rw [List.all_eq_false]; exact ⟨k, by simpa using h, by simp [hc]⟩
  simp [this]
theorem nameB_end {t : ByteArray} (h0 : t.size ≠ 0) (h1 : t.size ≤ 12) (hl : letterB (byteAt t 0) = true) (h : ∀ k, k < t.size → charB (byteAt t k) = true) : nameB t = true := by
  unfold nameB
  have : (List.range t.size).all (fun k => charB (byteAt t k)) = true := by rw [List.all_eq_true]; intro k hk; exact h k (by simpa using hk)
  simp [this, h0, h1, hl]
theorem empty_iff (t : ByteArray) : t.toList.isEmpty = decide (t.size = 0) := by
  rw [ByteArray.toList_eq]
  obtain ⟨⟨l⟩⟩ := t
  cases l <;> simp [ByteArray.size]

theorem byteAt_eq {t : ByteArray} {k : Nat} (h : k < t.size) : byteAt t k = ((t[k]'h).toNat : Int) := by
  have hk : t.data[k]? = some (t.data[k]'h) := Array.getElem?_eq_getElem h
  unfold byteAt
  rw [hk]
  rfl

set_option maxRecDepth 100000 in set_option maxHeartbeats 1000000 in
theorem isName_any (t : ByteArray) (ht : t.size ≤ 1000000) (w : World) : Calls Tryz.prog 156 #[.string t] w (RetX w (.bool (nameB t))) := by
  have hem := empty_iff t
  refine (callsIn_wide (n := 10)).1 ?_
  refine callsIn_of_wp Tryz.func156 rfl trivial ?_ rfl
  simp only [Tryz.ntmps156, List.size_toArray, List.length_cons, List.length_nil, Nat.reduceAdd, Nat.reduceSub, Array.replicate_succ, Array.replicate_zero, List.push_toArray, List.append_toArray, List.nil_append, List.cons_append]
  cases p0 : decide (t.size = 0) with
  | true =>
    have hz : Hid (nameB t = false) := by
      unfold Hid nameB; simp at p0; simp [p0]
    rw [p0] at hem
    gi_wp2
    refine ⟨trivial, ?_⟩
    gi_wp2
    refine bodyPost_ret (v := .bool false) (by simp [results, Tryz.results156, go_sem]) rfl (retX (by rw [hz.out]) (by (repeat' (first | (with_reducible exact Below.refl _ _) | (with_reducible assumption) | (with_reducible refine Below.drew ?_) | (with_reducible refine Below.drewNStep ?_ _) | (with_reducible refine Below.alloc ?_ ?_ _) | (with_reducible refine Below.setCell ?_ ?_ _) | (with_reducible refine Below.extStep ?_ ?_ _) | (simp; done) | (simp; omega)))))
  | false => 
    have hne : t.size ≠ 0 := by simpa using p0
    rw [p0] at hem
    have hi0 := index_str t 0 (by omega)
    cases p1 : decide ((12 : Int) < (t.size : Int)) with
    | true => 
      have hz : Hid (nameB t = false) := by
        unfold Hid nameB
        have : decide (t.size ≤ 12) = false := by simp at p1 ⊢; omega
        simp [this]
      gi_wp2
      refine ⟨trivial, ?_⟩
      gi_wp2
      refine bodyPost_ret (v := .bool false) (by simp [results, Tryz.results156, go_sem]) rfl (retX (by rw [hz.out]) (by (repeat' (first | (with_reducible exact Below.refl _ _) | (with_reducible assumption) | (with_reducible refine Below.drew ?_) | (with_reducible refine Below.drewNStep ?_ _) | (with_reducible refine Below.alloc ?_ ?_ _) | (with_reducible refine Below.setCell ?_ ?_ _) | (with_reducible refine Below.extStep ?_ ?_ _) | (simp; done) | (simp; omega)))))
    | false =>
      have h12 : t.size ≤ 12 := by simp at p1; omega
      have h0 : 0 < t.size := by omega
      cases p2 : letterB ((t[0]'h0).toNat : Int) with
      | false => 
        have hz : Hid (nameB t = false) := by
          unfold Hid nameB
          rw [byteAt_eq h0, p2]
          simp
        gi_wp2
        refine ⟨trivial, ?_⟩
        ((with_reducible refine (callsIn_wide.2 (isLetter_any _ _)).mono ?_); rintro e w' ⟨rfl, x, rfl⟩)
        gi_wp2
        refine bodyPost_ret (v := .bool false) (by simp [results, Tryz.results156, go_sem]) rfl (retX (by rw [hz.out]) (by (repeat' (first | (with_reducible exact Below.refl _ _) | (with_reducible assumption) | (with_reducible refine Below.drew ?_) | (with_reducible refine Below.drewNStep ?_ _) | (with_reducible refine Below.alloc ?_ ?_ _) | (with_reducible refine Below.setCell ?_ ?_ _) | (with_reducible refine Below.extStep ?_ ?_ _) | (simp; done) | (simp; omega)))))
      | true =>
        have hl0 : Hid (letterB (byteAt t 0) = true) := by unfold Hid; rw [byteAt_eq h0, p2]
        gi_wp2
        refine ⟨trivial, ?_⟩
        ((with_reducible refine (callsIn_wide.2 (isLetter_any _ _)).mono ?_); rintro e w' ⟨rfl, x, rfl⟩)
        gi_wp2
        gi_loopw [20] (fun i wr => ∃ k : Nat, i = .int .i64 k ∧ k ≤ t.size ∧ Below w.heap.size w wr ∧ ∀ j, j < k → charB (byteAt t j) = true) (fun i _ => t.size - (intOf i).toNat)
        case atStart => exact ⟨0, rfl, Nat.zero_le _, by (repeat' (first | (with_reducible exact Below.refl _ _) | (with_reducible assumption) | (with_reducible refine Below.drew ?_) | (with_reducible refine Below.drewNStep ?_ _) | (with_reducible refine Below.alloc ?_ ?_ _) | (with_reducible refine Below.setCell ?_ ?_ _) | (with_reducible refine Below.extStep ?_ ?_ _) | (simp; done) | (simp; omega))), fun j hj => absurd hj (Nat.not_lt_zero j)⟩
        case round =>
          obtain ⟨k, rfl, hk, hB, hno⟩ := hrel
          rcases Nat.lt_or_ge k t.size with hlt | hge
          · have hst : Hid (charB (byteAt t k) = false → nameB t = false) := nameB_stop hlt
            have hC : Hid (charB (byteAt t k) = (letterB ((t[k]'hlt).toNat : Int) || digitB ((t[k]'hlt).toNat : Int) || (((t[k]'hlt).toNat : Int) == 45))) := by unfold Hid charB; rw [byteAt_eq hlt]
            have hok : Hid (charB (byteAt t k) = true → ∀ j, j < k + 1 → charB (byteAt t j) = true) := fun h j hj => by
              rcases Nat.lt_or_ge j k with h' | h'
              · exact hno j h'
              · obtain rfl : j = k := by omega
                exact h
            cases q1 : letterB ((t[k]'hlt).toNat : Int) with
            | true =>
              rw [q1] at hC
              gi_wp2
              refine ⟨trivial, ?_⟩
              ((with_reducible refine (callsIn_wide.2 (isLetter_any _ _)).mono ?_); rintro e w' ⟨rfl, x1, rfl⟩)
              gi_wp2
              refine ⟨trivial, ?_⟩
              gi_wp2
              go_roundw
              case rel => exact ⟨k + 1, by go_num, by omega, hB.trans (Below.lower (D := wr.heap.size) (by (repeat' (first | (with_reducible exact Below.refl _ _) | (with_reducible assumption) | (with_reducible refine Below.drew ?_) | (with_reducible refine Below.drewNStep ?_ _) | (with_reducible refine Below.alloc ?_ ?_ _) | (with_reducible refine Below.setCell ?_ ?_ _) | (with_reducible refine Below.extStep ?_ ?_ _) | (simp; done) | (simp; omega)))) hB.size), hok.out (by rw [hC.out]; rfl)⟩
              case measure => simp [intOf]; omega
            | false =>
              rw [q1] at hC
              cases q2 : digitB ((t[k]'hlt).toNat : Int) with
              | true =>
                rw [q2] at hC
                gi_wp2
                refine ⟨trivial, ?_⟩
                ((with_reducible refine (callsIn_wide.2 (isLetter_any _ _)).mono ?_); rintro e w' ⟨rfl, x1, rfl⟩)
                gi_wp2
                refine ⟨trivial, ?_⟩
                ((with_reducible refine (callsIn_wide.2 (isDigit_any _ _)).mono ?_); rintro e w' ⟨rfl, x2, rfl⟩)
                gi_wp2
                go_roundw
                case rel => exact ⟨k + 1, by go_num, by omega, hB.trans (Below.lower (D := wr.heap.size) (by (repeat' (first | (with_reducible exact Below.refl _ _) | (with_reducible assumption) | (with_reducible refine Below.drew ?_) | (with_reducible refine Below.drewNStep ?_ _) | (with_reducible refine Below.alloc ?_ ?_ _) | (with_reducible refine Below.setCell ?_ ?_ _) | (with_reducible refine Below.extStep ?_ ?_ _) | (simp; done) | (simp; omega)))) hB.size), hok.out (by rw [hC.out]; rfl)⟩
                case measure => simp [intOf]; omega
              | false =>
                rw [q2] at hC
                cases q3 : (((t[k]'hlt).toNat : Int) == 45) with
                | true =>
                  rw [q3] at hC
                  have q4 : (((t[k]'hlt).toNat : Int) != 45) = false := by rw [bne, q3]; rfl
                  gi_wp2
                  refine ⟨trivial, ?_⟩
                  ((with_reducible refine (callsIn_wide.2 (isLetter_any _ _)).mono ?_); rintro e w' ⟨rfl, x1, rfl⟩)
                  gi_wp2
                  refine ⟨trivial, ?_⟩
                  ((with_reducible refine (callsIn_wide.2 (isDigit_any _ _)).mono ?_); rintro e w' ⟨rfl, x2, rfl⟩)
                  gi_wp2
                  go_roundw
                  case rel => exact ⟨k + 1, by go_num, by omega, hB.trans (Below.lower (D := wr.heap.size) (by (repeat' (first | (with_reducible exact Below.refl _ _) | (with_reducible assumption) | (with_reducible refine Below.drew ?_) | (with_reducible refine Below.drewNStep ?_ _) | (with_reducible refine Below.alloc ?_ ?_ _) | (with_reducible refine Below.setCell ?_ ?_ _) | (with_reducible refine Below.extStep ?_ ?_ _) | (simp; done) | (simp; omega)))) hB.size), hok.out (by rw [hC.out]; rfl)⟩
                  case measure => simp [intOf]; omega
                | false =>
                  rw [q3] at hC
                  have q4 : (((t[k]'hlt).toNat : Int) != 45) = true := by rw [bne, q3]; rfl
                  gi_wp2
                  refine ⟨trivial, ?_⟩
                  ((with_reducible refine (callsIn_wide.2 (isLetter_any _ _)).mono ?_); rintro e w' ⟨rfl, x1, rfl⟩)
                  gi_wp2
                  refine ⟨trivial, ?_⟩
                  ((with_reducible refine (callsIn_wide.2 (isDigit_any _ _)).mono ?_); rintro e w' ⟨rfl, x2, rfl⟩)
                  gi_wp2
                  have hz := hidden (hst.out (by rw [hC.out]; rfl))
                  refine bodyPost_ret (v := .bool false) (by simp [results, Tryz.results156, go_sem]) rfl (retX (by rw [hz.out]) (hB.trans (Below.lower (D := wr.heap.size) (by (repeat' (first | (with_reducible exact Below.refl _ _) | (with_reducible assumption) | (with_reducible refine Below.drew ?_) | (with_reducible refine Below.drewNStep ?_ _) | (with_reducible refine Below.alloc ?_ ?_ _) | (with_reducible refine Below.setCell ?_ ?_ _) | (with_reducible refine Below.extStep ?_ ?_ _) | (simp; done) | (simp; omega)))) hB.size)))
          · obtain rfl : k = t.size := by omega
            have hz := hidden (nameB_end hne h12 hl0.out hno)
            gi_wp2
            refine bodyPost_ret (v := .bool true) (by simp [results, Tryz.results156, go_sem]) rfl (retX (by rw [hz.out]) hB)
end Go.Proofs.YtbonjgeglhbhnaaGreat

/- Whether a way in the plane of a sheet is blocked by it. -/
namespace Go.Proofs.YtbonjgeglhbhnaaGreat
open Go.RowKit Go.Shelf
attribute [local go_sem] Oper.semAt_some

theorem bodyPostM_cell {F : Fence} {n : Nat} {P : Program} {fn : Func} {R : Ending → World → Prop} {tmps : Array Value} {D : Nat} {W : World} {s i : Nat} {u : Value} (hD : W.heap[D]? = some (.deferred (some []))) (hs : s ≠ D) (hc : W.cell? ⟨s, i, none⟩ = some u)
    (hr : ∀ X : World, X.cell? ⟨s, i, none⟩ = some u → (results fn tmps).run P X = .ok u X) (hR : ∀ o, R (.returned u) (W.putObj D o)) : bodyPostM F n P fn R .ret { tmps := tmps, defers := [{ target := .collected D, args := #[] }] } W :=
  ⟨by simp, .inl ⟨_, _, rfl, run_takeDeferred hD, ⟨u, hr _ (cell_put hs hc), hR _⟩⟩⟩

theorem rim_in {a b c d : Int} (h1 : -5000 ≤ a ∧ a ≤ 5000) (h2 : -5000 ≤ b ∧ b ≤ 5000) (h3 : -5000 ≤ c ∧ c ≤ 5000) (h4 : -5000 ≤ d ∧ d ≤ 5000) (k : Nat) :
    (-5000 ≤ rimX1 a b c d k ∧ rimX1 a b c d k ≤ 5000) ∧ (-5000 ≤ rimY1 a b c d k ∧ rimY1 a b c d k ≤ 5000) ∧ (-5000 ≤ rimX2 a b c d k ∧ rimX2 a b c d k ≤ 5000) ∧ (-5000 ≤ rimY2 a b c d k ∧ rimY2 a b c d k ≤ 5000) := by
  unfold rimX1 rimY1 rimX2 rimY2
  refine ⟨?_, ?_, ?_, ?_⟩ <;> split <;> assumption
theorem rimsB_stop {a b c d x1 y1 d1 x2 y2 d2 : Int} {j : Nat} (hj : j < 4) (h : rimB a b c d x1 y1 d1 x2 y2 d2 j = true) : rimsB a b c d x1 y1 d1 x2 y2 d2 = true := by
  unfold rimsB; rw [List.any_eq_true]; exact ⟨j, by simpa using hj, h⟩
theorem rimsB_end {a b c d x1 y1 d1 x2 y2 d2 : Int} (h : ∀ j, j < 4 → rimB a b c d x1 y1 d1 x2 y2 d2 j = false) : rimsB a b c d x1 y1 d1 x2 y2 d2 = false := by
  unfold rimsB; rw [List.any_eq_false]; intro j hj; simp [h j (by simpa using hj)]

/-- four and eight cells -/
structure Four (a b c d : Int) (B : Nat) (W : World) : Prop where
  c0 : W.cell? ⟨B, 0, none⟩ = some (.int .i64 a)
  c1 : W.cell? ⟨B, 1, none⟩ = some (.int .i64 b)
  c2 : W.cell? ⟨B, 2, none⟩ = some (.int .i64 c)
  c3 : W.cell? ⟨B, 3, none⟩ = some (.int .i64 d)
theorem Four.sim {a b c d : Int} {B D : Nat} {W W' : World} (s : Sim D W W') (h : Four a b c d B W) : Four a b c d B W' := ⟨s.cell h.c0, s.cell h.c1, s.cell h.c2, s.cell h.c3⟩
structure Eight (a b c d e f g h : Int) (B : Nat) (W : World) : Prop where
  c0 : W.cell? ⟨B, 0, none⟩ = some (.int .i64 a)
  c1 : W.cell? ⟨B, 1, none⟩ = some (.int .i64 b)
  c2 : W.cell? ⟨B, 2, none⟩ = some (.int .i64 c)
  c3 : W.cell? ⟨B, 3, none⟩ = some (.int .i64 d)
  c4 : W.cell? ⟨B, 4, none⟩ = some (.int .i64 e)
  c5 : W.cell? ⟨B, 5, none⟩ = some (.int .i64 f)
  c6 : W.cell? ⟨B, 6, none⟩ = some (.int .i64 g)
  c7 : W.cell? ⟨B, 7, none⟩ = some (.int .i64 h)
theorem Eight.sim {a b c d e f g h : Int} {B D : Nat} {W W' : World} (s : Sim D W W') (k : Eight a b c d e f g h B W) : Eight a b c d e f g h B W' := ⟨s.cell k.c0, s.cell k.c1, s.cell k.c2, s.cell k.c3, s.cell k.c4, s.cell k.c5, s.cell k.c6, s.cell k.c7⟩
structure FlatI (a b c d x1 y1 z1 d1 x2 y2 z2 d2 : Int) (s k : Nat) (W : World) : Prop where
  res : ∃ r, W.cell? ⟨s + 1 + 1 + 1, 0, none⟩ = some (.bool r)
  fres : W.frozen? ⟨s + 1 + 1 + 1, 0, none⟩ = false
  sheet : Four a b c d s W
  way : Eight x1 y1 z1 d1 x2 y2 z2 d2 (s + 1 + 1) W
  none : ∀ j, j < k → rimB a b c d x1 y1 d1 x2 y2 d2 j = false
theorem FlatI.sim {a b c d x1 y1 z1 d1 x2 y2 z2 d2 : Int} {s k D : Nat} {W W' : World} (m : Sim D W W') (h : FlatI a b c d x1 y1 z1 d1 x2 y2 z2 d2 s k W) : FlatI a b c d x1 y1 z1 d1 x2 y2 z2 d2 s k W' :=
  ⟨let ⟨r, hr⟩ := h.res; ⟨r, m.cell hr⟩, let ⟨r, hr⟩ := h.res; m.frozen hr h.fres, h.sheet.sim m, h.way.sim m, h.none⟩
structure FlatX (a b c d x1 y1 d1 x2 y2 d2 : Int) (s : Nat) (C : Code) (W : World) : Prop where
  ret : C = .ret
  res : W.cell? ⟨s + 1 + 1 + 1, 0, none⟩ = some (.bool true)
  yes : rimsB a b c d x1 y1 d1 x2 y2 d2 = true
theorem FlatX.sim {a b c d x1 y1 d1 x2 y2 d2 : Int} {s D : Nat} {C : Code} {W W' : World} (m : Sim D W W') (h : FlatX a b c d x1 y1 d1 x2 y2 d2 s C W) : FlatX a b c d x1 y1 d1 x2 y2 d2 s C W' := ⟨h.ret, m.cell h.res, h.yes⟩
theorem Four.new (W : World) (a b c d : Int) (t : Nat) : Four a b c d W.heap.size (W.alloc (.cells #[.int .i64 a, .int .i64 b, .int .i64 c, .int .i64 d] t)) := by
  constructor <;> simp [go_sem]

/-- the frame of a round -/
def flatA (a b c d k A x1 y1 z1 d1 x2 y2 z2 d2 : Int) (s B i : Nat) : Act := { tmps := #[.agg #[.int .i64 a, .int .i64 b, .int .i64 c, .int .i64 d], .agg #[.int .i64 k, .int .i64 A], .agg #[.int .i64 x1, .int .i64 y1, .int .i64 z1, .int .i64 d1, .int .i64 x2, .int .i64 y2, .int .i64 z2, .int .i64 d2], .pointer (some ⟨s, 0, none⟩), .pointer (some ⟨s + 1, 0, none⟩), .pointer (some ⟨s + 1 + 1, 0, none⟩), .pointer (some ⟨s + 1 + 1 + 1, 0, none⟩), undef, undef, .pointer (some ⟨B, 0, none⟩), .agg #[.int .i64 k, .int .i64 A], .pointer (some ⟨s + 1 + 1, 0, none⟩), .agg #[.int .i64 x1, .int .i64 y1, .int .i64 z1, .int .i64 d1], .int .i64 0, .bool false, .bool false, .agg #[.int .i64 k, .int .i64 A], .pointer (some ⟨s + 1 + 1, 4, none⟩), .agg #[.int .i64 x2, .int .i64 y2, .int .i64 z2, .int .i64 d2], .int .i64 0, .bool false, .bool false, undef, undef, undef, undef, undef, undef, undef, undef, undef, undef, undef, undef, .agg #[.int .i64 a, .int .i64 b, .int .i64 c, .int .i64 d], .func (.func 155) #[.agg #[.int .i64 a, .int .i64 b, .int .i64 c, .int .i64 d]] #[], rimV a b c d i, undef, undef, undef, undef, undef, undef, undef], defers := [] }

set_option maxRecDepth 100000 in set_option maxHeartbeats 1000000 in
theorem sheetBlocks_flat (a b c d : Int) (h1 : -5000 ≤ a ∧ a ≤ 5000) (h2 : -5000 ≤ b ∧ b ≤ 5000) (h3 : -5000 ≤ c ∧ c ≤ 5000) (h4 : -5000 ≤ d ∧ d ≤ 5000) (k A x1 y1 z1 d1 x2 y2 z2 d2 : Int) (w : World) (hA : -10000 ≤ A ∧ A ≤ 10000) (hd1 : 0 ≤ d1 ∧ d1 ≤ 100000) (hd2 : 0 ≤ d2 ∧ d2 ≤ 100000) (hx1 : -500000000 ≤ x1 ∧ x1 ≤ 500000000) (hy1 : -500000000 ≤ y1 ∧ y1 ≤ 500000000) (hz1 : -500000000 ≤ z1 ∧ z1 ≤ 500000000) (hx2 : -500000000 ≤ x2 ∧ x2 ≤ 500000000) (hy2 : -500000000 ≤ y2 ∧ y2 ≤ 500000000) (hz2 : -500000000 ≤ z2 ∧ z2 ≤ 500000000) (Hf : Hid (0 = offP k A x1 y1 z1 d1)) (Hg : Hid (0 = offP k A x2 y2 z2 d2)) :
    Calls Tryz.prog 121 #[.agg #[.int .i64 a, .int .i64 b, .int .i64 c, .int .i64 d], .agg #[.int .i64 k, .int .i64 A], .agg #[.int .i64 x1, .int .i64 y1, .int .i64 z1, .int .i64 d1, .int .i64 x2, .int .i64 y2, .int .i64 z2, .int .i64 d2]] w (RetX w (.bool (rimsB a b c d x1 y1 d1 x2 y2 d2 || sheetB a b c d (x1 * d2 + x2 * d1) (y1 * d2 + y2 * d1) (2 * d1 * d2)))) := by
  have e1 := mul_bd hA hd1 (by omega)
  have e2 := mul_bd hA hd2 (by omega)
  have O1 : ∀ W, Calls Tryz.prog 128 #[.agg #[.int .i64 k, .int .i64 A], .agg #[.int .i64 x1, .int .i64 y1, .int .i64 z1, .int .i64 d1]] W (RetX W (.int .i64 0)) := fun W => by rw [Hf.out]; exact offPlane_any k A x1 y1 z1 d1 W (by omega) (by omega) (by omega) (by omega)
  have O2 : ∀ W, Calls Tryz.prog 128 #[.agg #[.int .i64 k, .int .i64 A], .agg #[.int .i64 x2, .int .i64 y2, .int .i64 z2, .int .i64 d2]] W (RetX W (.int .i64 0)) := fun W => by rw [Hg.out]; exact offPlane_any k A x2 y2 z2 d2 W (by omega) (by omega) (by omega) (by omega)
  have HO1 := hidden O1
  have HO2 := hidden O2
  clear O1 O2 e1 e2 Hf Hg
  refine (callsIn_wide (n := 10)).1 ?_
  refine callsIn_of_wp_marks Tryz.func121 rfl trivial ?_ rfl
  simp only [Tryz.ntmps121, List.size_toArray, List.length_cons, List.length_nil, Nat.reduceAdd, Nat.reduceSub, Array.replicate_succ, Array.replicate_zero, List.push_toArray, List.append_toArray, List.nil_append, List.cons_append]
  gi_wp2
  repeat ((refine ⟨trivial, ?_⟩; first | ((with_reducible refine (callsIn_wide.2 (HO1.out _)).mono ?_); rintro e w' ⟨rfl, x, rfl⟩) | ((with_reducible refine (callsIn_wide.2 (HO2.out _)).mono ?_); rintro e w' ⟨rfl, x, rfl⟩)); gi_wp2)
  refine range_outer rfl (by omega) (gf := 155) (pre := #[.agg #[.int .i64 a, .int .i64 b, .int .i64 c, .int .i64 d]]) rfl trivial (enters_of Tryz.func155 (by kernel_rfl) rfl) (n₀ := w.heap.size) (by simp; omega)
    (rims_iter a b c d (w := w) (by (repeat' (first | (with_reducible exact Below.refl _ _) | (with_reducible assumption) | (with_reducible refine Below.drew ?_) | (with_reducible refine Below.drewNStep ?_ _) | (with_reducible refine Below.alloc ?_ ?_ _) | (with_reducible refine Below.setCell ?_ ?_ _) | (with_reducible refine Below.extStep ?_ ?_ _) | (simp; done) | (simp; omega)))) _ (by omega)) (fun k => rfl)
    (fun i W => FlatI a b c d x1 y1 z1 d1 x2 y2 z2 d2 w.heap.size i W) (fun C W => FlatX a b c d x1 y1 d1 x2 y2 d2 w.heap.size C W) (fun k W W' s h => h.sim s) (fun c W W' s h => h.sim s) ?start
    (fun i a' W => ∃ B, w.heap.size + 4 ≤ B ∧ a' = flatA a b c d k A x1 y1 z1 d1 x2 y2 z2 d2 w.heap.size B i ∧ Four (rimX1 a b c d i) (rimY1 a b c d i) (rimX2 a b c d i) (rimY2 a b c d i) B W) (fun i a' W W' s ⟨B, h1, h2, h3⟩ => ⟨B, h1, h2, h3.sim s⟩) ?assign ?body ?done ?stop
  case start =>
    refine ⟨⟨false, by simp [go_sem]⟩, by simp [go_sem], ?_, ?_, fun j hj => absurd hj (Nat.not_lt_zero j)⟩ <;> constructor <;> simp [go_sem]
  case assign =>
    intro l i W K hi hI hb hK
    have hsz : w.heap.size + 4 ≤ W.heap.size := by have := hb.size; simp at this; omega
    simp only [rimEnc, rimV]
    gi_wp2
    exact hK _ _ (KeepsAll.alloc _ _ _) (hb.alloc (by omega) _) (hI.sim (Sim.alloc 0 _ _)) ⟨W.heap.size, by omega, rfl, Four.new _ _ _ _ _ _⟩
  case body =>
    rintro l i a' W hi hl hr ⟨⟨r, r1⟩, r2, hsh, ⟨c0, c1, c2, c3, c4, c5, c6, c7⟩, hno⟩ ⟨B, hB, rfl, ⟨b0, b1, b2, b3⟩⟩ hb
    have hsz : w.heap.size + 4 ≤ W.heap.size := by have := hb.size; simp at this; omega
    obtain ⟨m1, m2, m3, m4⟩ := rim_in h1 h2 h3 h4 i
    have hW : Hid (rimB a b c d x1 y1 d1 x2 y2 d2 i = blocksB (rimX1 a b c d i) (rimY1 a b c d i) (rimX2 a b c d i) (rimY2 a b c d i) x1 y1 d1 x2 y2 d2) := rfl
    clear hl hr HO1 HO2
    have g1 := has_of_cell r1
    have g2 := has_of_cell c0
    have gB := has_of_cell b0
    unfold flatA rimV
    generalize rimX1 a b c d i = p1 at *
    generalize rimY1 a b c d i = p2 at *
    generalize rimX2 a b c d i = p3 at *
    generalize rimY2 a b c d i = p4 at *
    gi_wp2
    refine ⟨trivial, ?_⟩
    refine (callsIn_wide.2 (blocks_any p1 p2 p3 p4 m1 m2 m3 m4 x1 y1 z1 d1 x2 y2 z2 d2 _ hd1 hd2 hx1 hy1 hz1 hx2 hy2 hz2)).mono ?_
    rintro e w1 ⟨rfl, v1, rfl⟩
    cases hh : blocksB p1 p2 p3 p4 x1 y1 d1 x2 y2 d2 with
    | true =>
      rw [hh] at hW
      gi_wp2
      refine bodyQ_leaveSet (by (repeat' (first | (with_reducible exact Below.refl _ _) | (with_reducible assumption) | (with_reducible refine Below.drew ?_) | (with_reducible refine Below.drewNStep ?_ _) | (with_reducible refine Below.alloc ?_ ?_ _) | (with_reducible refine Below.setCell ?_ ?_ _) | (with_reducible refine Below.extStep ?_ ?_ _) | (simp; done) | (simp; omega)))) (by omega) (by simp <;> omega) (by simp <;> omega) hb (fun m => ⟨rfl, cell_set (m.cell r1), rimsB_stop hi hW.out⟩)
    | false =>
      rw [hh] at hW
      gi_wp2
      refine bodyQ_next (by (repeat' (first | (with_reducible exact Below.refl _ _) | (with_reducible assumption) | (with_reducible refine Below.drew ?_) | (with_reducible refine Below.drewNStep ?_ _) | (with_reducible refine Below.alloc ?_ ?_ _) | (with_reducible refine Below.setCell ?_ ?_ _) | (with_reducible refine Below.extStep ?_ ?_ _) | (simp; done) | (simp; omega)))) (by omega) hb (fun m => ⟨⟨r, m.cell r1⟩, m.frozen r1 r2, hsh.sim m, (Eight.mk c0 c1 c2 c3 c4 c5 c6 c7).sim m, fun j hj => ?_⟩)
      rcases Nat.lt_or_ge j i with h | h
      · exact hno j h
      · obtain rfl : j = i := by omega
        exact hW.out
  case done =>
    rintro W ⟨⟨r, r1⟩, r2, ⟨s0, s1, s2, s3⟩, ⟨c0, c1, c2, c3, c4, c5, c6, c7⟩, hno⟩ hb hD
    have g1 := has_of_cell r1
    have g2 := has_of_cell s0
    have g3 := has_of_cell c0
    have hz := hidden (rimsB_end hno)
    have hsz : w.heap.size + 4 ≤ W.heap.size := by have := hb.size; simp at this; omega
    clear hno HO1 HO2
    gi_wp2
    have ne1 : w.heap.size ≠ w.heap.size + 1 + 1 + 1 := by omega
    have ne2 : w.heap.size + 1 + 1 ≠ w.heap.size + 1 + 1 + 1 := by omega
    have mm := mul_bd (a := 2 * d1) (A := 200000) ⟨by omega, by omega⟩ hd2 (by omega)
    have mn : 0 ≤ 2 * d1 * d2 := Int.mul_nonneg (by omega) hd2.1
    refine wpIn_wide.2 ?_
    (refine wp_region_tameH (w.heap.size + 1 + 1 + 1) (by kernel_rfl) (by kernel_rfl) ?_); (repeat (first | (refine wpTame_skip rfl ?_; simp only [Act.put, List.setIfInBounds_toArray, List.set_cons_succ, List.set_cons_zero]) | (refine wpTame_pure rfl rfl rfl (fun K hK => ?_); go_big_quiet_op; refine hK _ ?_; clear hK K) | (refine wpTame_eff rfl rfl (fun K hK => ?_); go_big_op; (first | (go_at_call 116; refine (middle_any x1 y1 z1 d1 x2 y2 z2 d2 _ hd1 hd2 hx1 hy1 hz1 hx2 hy2 hz2).mono ?_; rintro e w' ⟨rfl, v1, rfl⟩) | (go_at_call 154; refine (sheet_holds_any _ _ _ _ _ _ _ _ _ h1 h2 h3 h4 ⟨by omega, by omega⟩).mono ?_; rintro e w' ⟨rfl, v2, rfl⟩) | skip); (refine hK _ _ rfl (hole_of (by (repeat' (first | (with_reducible exact HoleRel.refl _ _ _) | (with_reducible assumption) | (with_reducible refine HoleRel.swap ?_ _ _) | (with_reducible refine HoleRel.drew ?_) | (with_reducible refine HoleRel.drewN ?_ _) | (with_reducible refine HoleRel.setCell ?_ ?_ _) | (with_reducible refine HoleRel.putObj ?_ ?_ _) | (with_reducible refine HoleRel.alloc ?_ ?_ _) | (with_reducible refine HoleRel.ext ?_ ?_ _) | (exact Or.inl rfl) | (simp; done) | (simp; omega))))) ?_; clear hK K)))); (refine wpTame_nil ?_)
    gi_wp2
    have hDlt := (Array.getElem?_eq_some_iff.1 hD).1
    refine bodyPostM_cell (s := w.heap.size + 1 + 1 + 1) ((Below.heap_setCell _ _ _ _ (by simp <;> omega)).trans (((show Below W.heap.size W _ by (repeat' (first | (with_reducible exact Below.refl _ _) | (with_reducible assumption) | (with_reducible refine Below.drew ?_) | (with_reducible refine Below.drewNStep ?_ _) | (with_reducible refine Below.alloc ?_ ?_ _) | (with_reducible refine Below.setCell ?_ ?_ _) | (with_reducible refine Below.extStep ?_ ?_ _) | (simp; done) | (simp; omega)))).block _ hDlt).trans hD)) (by simp <;> omega) (cell_set ((Sim.of_below (D := 0) (by (repeat' (first | (with_reducible exact Below.refl _ _) | (with_reducible assumption) | (with_reducible refine Below.drew ?_) | (with_reducible refine Below.drewNStep ?_ _) | (with_reducible refine Below.alloc ?_ ?_ _) | (with_reducible refine Below.setCell ?_ ?_ _) | (with_reducible refine Below.extStep ?_ ?_ _) | (simp; done) | (simp; omega))))).cell r1)) (fun X hX => by simp [results, Tryz.results121, go_sem, hX]) (fun o => retX (by rw [hz.out]; simp) ?_)
    refine Below.putObjStep (Below.setCell (((show Below w.heap.size w _ by (repeat' (first | (with_reducible exact Below.refl _ _) | (with_reducible assumption) | (with_reducible refine Below.drew ?_) | (with_reducible refine Below.drewNStep ?_ _) | (with_reducible refine Below.alloc ?_ ?_ _) | (with_reducible refine Below.setCell ?_ ?_ _) | (with_reducible refine Below.extStep ?_ ?_ _) | (simp; done) | (simp; omega)))).trans hb).trans (Below.lower (D := W.heap.size) (by (repeat' (first | (with_reducible exact Below.refl _ _) | (with_reducible assumption) | (with_reducible refine Below.drew ?_) | (with_reducible refine Below.drewNStep ?_ _) | (with_reducible refine Below.alloc ?_ ?_ _) | (with_reducible refine Below.setCell ?_ ?_ _) | (with_reducible refine Below.extStep ?_ ?_ _) | (simp; done) | (simp; omega)))) (by omega))) (by simp <;> omega) _) (by simp <;> omega) _
  case stop =>
    rintro c' W ⟨rfl, r1, hy⟩ hb hD
    rw [hy]
    have g1 := has_of_cell r1
    gi_wp2
    refine bodyPostM_cell (s := w.heap.size + 1 + 1 + 1) hD (by simp <;> omega) r1 (fun X hX => by simp [results, Tryz.results121, go_sem, hX]) (fun o => retX (by simp) ?_)
    refine Below.putObjStep ((show Below w.heap.size w _ by (repeat' (first | (with_reducible exact Below.refl _ _) | (with_reducible assumption) | (with_reducible refine Below.drew ?_) | (with_reducible refine Below.drewNStep ?_ _) | (with_reducible refine Below.alloc ?_ ?_ _) | (with_reducible refine Below.setCell ?_ ?_ _) | (with_reducible refine Below.extStep ?_ ?_ _) | (simp; done) | (simp; omega)))).trans hb) (by simp <;> omega) _

theorem sheetBlocks_any (a b c d : Int) (h1 : -5000 ≤ a ∧ a ≤ 5000) (h2 : -5000 ≤ b ∧ b ≤ 5000) (h3 : -5000 ≤ c ∧ c ≤ 5000) (h4 : -5000 ≤ d ∧ d ≤ 5000) (k A x1 y1 z1 d1 x2 y2 z2 d2 : Int) (w : World) (hA : -10000 ≤ A ∧ A ≤ 10000) (hd1 : 0 ≤ d1 ∧ d1 ≤ 100000) (hd2 : 0 ≤ d2 ∧ d2 ≤ 100000) (hx1 : -500000000 ≤ x1 ∧ x1 ≤ 500000000) (hy1 : -500000000 ≤ y1 ∧ y1 ≤ 500000000) (hz1 : -500000000 ≤ z1 ∧ z1 ≤ 500000000) (hx2 : -500000000 ≤ x2 ∧ x2 ≤ 500000000) (hy2 : -500000000 ≤ y2 ∧ y2 ≤ 500000000) (hz2 : -500000000 ≤ z2 ∧ z2 ≤ 500000000) :
    Calls Tryz.prog 121 #[.agg #[.int .i64 a, .int .i64 b, .int .i64 c, .int .i64 d], .agg #[.int .i64 k, .int .i64 A], .agg #[.int .i64 x1, .int .i64 y1, .int .i64 z1, .int .i64 d1, .int .i64 x2, .int .i64 y2, .int .i64 z2, .int .i64 d2]] w (RetX w (.bool (sheetBlocksB a b c d k A x1 y1 z1 d1 x2 y2 z2 d2))) := by
  unfold sheetBlocksB
  split
  · rename_i h
    exact sheetBlocks_flat a b c d h1 h2 h3 h4 k A x1 y1 z1 d1 x2 y2 z2 d2 w hA hd1 hd2 hx1 hy1 hz1 hx2 hy2 hz2 (hidden h.1.symm) (hidden h.2.symm)
  · rename_i h
    exact sheetBlocks_meet a b c d h1 h2 h3 h4 k A x1 y1 z1 d1 x2 y2 z2 d2 w hA hd1 hd2 hx1 hy1 hz1 hx2 hy2 hz2 _ _ (hidden rfl) (hidden rfl) h
end Go.Proofs.YtbonjgeglhbhnaaGreat

/- Whether a way is free: definitions; a way that leaves the hall. -/
namespace Go.Proofs.YtbonjgeglhbhnaaGreat
open Go.RowKit Go.Shelf
attribute [local go_sem] Oper.semAt_some

def wallB (H : Hal) (x1 y1 d1 x2 y2 d2 : Int) (k : Nat) : Bool := blocksB (corAt H.cors k).x (corAt H.cors k).y (corAt H.cors (nxt H.cors.length k)).x (corAt H.cors (nxt H.cors.length k)).y x1 y1 d1 x2 y2 d2
def wallsB (H : Hal) (x1 y1 d1 x2 y2 d2 : Int) : Bool := (List.range H.cors.length).any (wallB H x1 y1 d1 x2 y2 d2)
def canB (H : Hal) (S : Stg) (x1 y1 z1 d1 x2 y2 z2 d2 : Int) (i : Nat) : Bool :=
  sheetBlocksB (min (canAt H.cans i).f.x (canAt H.cans i).t.x) (min (canAt H.cans i).f.y (canAt H.cans i).t.y) (max (canAt H.cans i).f.x (canAt H.cans i).t.x) (max (canAt H.cans i).f.y (canAt H.cans i).t.y) 2 (canZ H S i) x1 y1 z1 d1 x2 y2 z2 d2
def cansB (H : Hal) (S : Stg) (x1 y1 z1 d1 x2 y2 z2 d2 : Int) : Bool := (List.range H.cans.length).any (canB H S x1 y1 z1 d1 x2 y2 z2 d2)
def insideB (H : Hal) (x1 y1 z1 d1 x2 y2 z2 d2 : Int) : Bool := withinB H (x1 * d2 + x2 * d1) (y1 * d2 + y2 * d1) (z1 * d2 + z2 * d1) (2 * d1 * d2) && (levelB H.height z1 d1 && levelB H.height z2 d2)
def freeB (H : Hal) (S : Stg) (x1 y1 z1 d1 x2 y2 z2 d2 : Int) : Bool := insideB H x1 y1 z1 d1 x2 y2 z2 d2 && (!wallsB H x1 y1 d1 x2 y2 d2 && !cansB H S x1 y1 z1 d1 x2 y2 z2 d2)

theorem mid_bd {x1 d1 x2 d2 : Int} (hd1 : 0 ≤ d1 ∧ d1 ≤ 100000) (hd2 : 0 ≤ d2 ∧ d2 ≤ 100000) (hx1 : -500000000 ≤ x1 ∧ x1 ≤ 500000000) (hx2 : -500000000 ≤ x2 ∧ x2 ≤ 500000000) : -1000000000000000000 ≤ x1 * d2 + x2 * d1 ∧ x1 * d2 + x2 * d1 ≤ 1000000000000000000 := by
  have m1 := mul_bd hx1 hd2 (by omega)
  have m2 := mul_bd hx2 hd1 (by omega)
  omega
theorem midn_bd {d1 d2 : Int} (hd1 : 0 ≤ d1 ∧ d1 ≤ 100000) (hd2 : 0 ≤ d2 ∧ d2 ≤ 100000) : 0 ≤ 2 * d1 * d2 ∧ 2 * d1 * d2 ≤ 100000000000000 := by
  have mm := mul_bd (a := 2 * d1) (A := 200000) ⟨by omega, by omega⟩ hd2 (by omega)
  have mn : 0 ≤ 2 * d1 * d2 := Int.mul_nonneg (by omega) hd2.1
  omega


set_option maxRecDepth 100000 in set_option maxHeartbeats 1000000 in
theorem isFree_out {w : World} {b : Nat} {H : Hal} {S : Stg} (hR : Room w b H S) (hC : CorsIn H) (hN : H.cors.length ≤ 20) (hh : -5000 ≤ H.height ∧ H.height ≤ 5000) (x1 y1 z1 d1 x2 y2 z2 d2 : Int) (hd1 : 0 ≤ d1 ∧ d1 ≤ 100000) (hd2 : 0 ≤ d2 ∧ d2 ≤ 100000) (hx1 : -500000000 ≤ x1 ∧ x1 ≤ 500000000) (hy1 : -500000000 ≤ y1 ∧ y1 ≤ 500000000) (hz1 : -500000000 ≤ z1 ∧ z1 ≤ 500000000) (hx2 : -500000000 ≤ x2 ∧ x2 ≤ 500000000) (hy2 : -500000000 ≤ y2 ∧ y2 ≤ 500000000) (hz2 : -500000000 ≤ z2 ∧ z2 ≤ 500000000) (hin : insideB H x1 y1 z1 d1 x2 y2 z2 d2 = false) :
    Calls Tryz.prog 88 #[.pointer (some ⟨b, 0, none⟩), .agg #[.int .i64 x1, .int .i64 y1, .int .i64 z1, .int .i64 d1, .int .i64 x2, .int .i64 y2, .int .i64 z2, .int .i64 d2]] w (RetX w (.bool false)) := by
  have HM := hidden (fun W => middle_any x1 y1 z1 d1 x2 y2 z2 d2 W hd1 hd2 hx1 hy1 hz1 hx2 hy2 hz2)
  have hn := midn_bd hd1 hd2
  have HW := hidden (fun (W : World) (hb : Below w.heap.size w W) => isWithin_room (hR.below hb) hC hN hh _ _ _ _ hn (mid_bd hd1 hd2 hx1 hx2) (mid_bd hd1 hd2 hy1 hy2) (mid_bd hd1 hd2 hz1 hz2))
  have HL1 := hidden (fun (W : World) (hb : Below w.heap.size w W) => isLevel_any (hR.below hb) hh x1 y1 z1 d1 ⟨hd1.1, by omega⟩)
  have HL2 := hidden (fun (W : World) (hb : Below w.heap.size w W) => isLevel_any (hR.below hb) hh x2 y2 z2 d2 ⟨hd2.1, by omega⟩)
  unfold insideB at hin
  generalize hq0 : withinB H (x1 * d2 + x2 * d1) (y1 * d2 + y2 * d1) (z1 * d2 + z2 * d1) (2 * d1 * d2) = q0 at *
  generalize hq1 : levelB H.height z1 d1 = q1 at *
  generalize hq2 : levelB H.height z2 d2 = q2 at *
  clear hq0 hq1 hq2 hn hR hC hN hh hd1 hd2 hx1 hy1 hz1 hx2 hy2 hz2
  have cs : q0 = false ∨ (q0 = true ∧ q1 = false) ∨ (q0 = true ∧ q1 = true ∧ q2 = false) := by revert hin; cases q0 <;> cases q1 <;> cases q2 <;> simp
  clear hin
  rcases cs with rfl | ⟨rfl, rfl⟩ | ⟨rfl, rfl, rfl⟩
  all_goals
    refine (callsIn_wide (n := 10)).1 ?_
    refine callsIn_of_wp_marks Tryz.func88 rfl trivial ?_ rfl
    simp only [Tryz.ntmps88, List.size_toArray, List.length_cons, List.length_nil, Nat.reduceAdd, Nat.reduceSub, Array.replicate_succ, Array.replicate_zero, List.push_toArray, List.append_toArray, List.nil_append, List.cons_append]
    gi_wp2
    repeat ((refine ⟨trivial, ?_⟩; first | ((with_reducible refine (callsIn_wide.2 (HM.out _)).mono ?_); rintro e w' ⟨rfl, x, rfl⟩) | ((with_reducible refine (callsIn_wide.2 (HW.out _ ?hbel)).mono ?_); (case hbel => (repeat' (first | (with_reducible exact Below.refl _ _) | (with_reducible assumption) | (with_reducible refine Below.drew ?_) | (with_reducible refine Below.drewNStep ?_ _) | (with_reducible refine Below.alloc ?_ ?_ _) | (with_reducible refine Below.setCell ?_ ?_ _) | (with_reducible refine Below.extStep ?_ ?_ _) | (simp; done) | (simp; omega)))); rintro e w' ⟨rfl, x, rfl⟩) | ((with_reducible refine (callsIn_wide.2 (HL1.out _ ?hbel)).mono ?_); (case hbel => (repeat' (first | (with_reducible exact Below.refl _ _) | (with_reducible assumption) | (with_reducible refine Below.drew ?_) | (with_reducible refine Below.drewNStep ?_ _) | (with_reducible refine Below.alloc ?_ ?_ _) | (with_reducible refine Below.setCell ?_ ?_ _) | (with_reducible refine Below.extStep ?_ ?_ _) | (simp; done) | (simp; omega)))); rintro e w' ⟨rfl, x, rfl⟩) | ((with_reducible refine (callsIn_wide.2 (HL2.out _ ?hbel)).mono ?_); (case hbel => (repeat' (first | (with_reducible exact Below.refl _ _) | (with_reducible assumption) | (with_reducible refine Below.drew ?_) | (with_reducible refine Below.drewNStep ?_ _) | (with_reducible refine Below.alloc ?_ ?_ _) | (with_reducible refine Below.setCell ?_ ?_ _) | (with_reducible refine Below.extStep ?_ ?_ _) | (simp; done) | (simp; omega)))); rintro e w' ⟨rfl, x, rfl⟩) | skip); gi_wp2)
    refine bodyPostM_ret (v := .bool false) (by simp [results, Tryz.results88, go_sem]) rfl (retX rfl ?_)
    (repeat' (first | (with_reducible exact Below.refl _ _) | (with_reducible assumption) | (with_reducible refine Below.drew ?_) | (with_reducible refine Below.drewNStep ?_ _) | (with_reducible refine Below.alloc ?_ ?_ _) | (with_reducible refine Below.setCell ?_ ?_ _) | (with_reducible refine Below.extStep ?_ ?_ _) | (simp; done) | (simp; omega)))
end Go.Proofs.YtbonjgeglhbhnaaGreat
