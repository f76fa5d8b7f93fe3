/- isName. -/
import Derived.Test.YtekieoamelahkaaGreatM09
import Derived.Test.YtekieoamelahkaaGreatM06
import Derived.Test.YtekieoamelahkaaGreatM14
import Derived.Test.YtekieoamelahkaaGreatM11
import Derived.Test.YtekieoamelahkaaGreatM13
set_option maxRecDepth 100000
set_option maxHeartbeats 1000000
set_option linter.unusedVariables false
set_option linter.unusedSimpArgs false
namespace Go.Proofs.YtekieoamelahkaaGreat
open Go.RowKit Go.Shelf
attribute [local go_sem] Oper.semAt_some

def byteAt (t : ByteArray) (k : Nat) : Int := ((t.data[k]?).getD 0).toNat
theorem index_str (t : ByteArray) (k : Nat) (h : k < t.size) (w : World) : (Instr.index 9 (.string t) (.int .i64 k)).run Tryz.prog w = .ok (.int .u8 (byteAt t k)) w := by
 have hk : t.data[k]? = some (t.data[k]'h) := Array.getElem?_eq_getElem h
 have hk' : t[k]? = some (t[k]'h) := by simp [h]
 simp [Instr.index, go_sem, byteAt, hk, hk']
 rfl
def charB (c : Int) : Bool := letterB c || digitB c || (c == 45)
def nameB (t : ByteArray) : Bool := decide (t.size ≠ 0) && decide (t.size ≤ 12) && letterB (byteAt t 0) && (List.range t.size).all (fun k => charB (byteAt t k))

theorem nameB_stop {t : ByteArray} {k : Nat} (h : k < t.size) (hc : charB (byteAt t k) = false) : nameB t = false := by
 unfold nameB
 have : (List.range t.size).all (fun k => charB (byteAt t k)) = false := by rw [List.all_eq_false]; exact ⟨k, by simpa using h, by simp [hc]⟩
 simp [this]
theorem nameB_end {t : ByteArray} (h0 : t.size ≠ 0) (h1 : t.size ≤ 12) (hl : letterB (byteAt t 0) = true) (h : ∀ k, k < t.size → charB (byteAt t k) = true) : nameB t = true := by
 unfold nameB
 have : (List.range t.size).all (fun k => charB (byteAt t k)) = true := by rw [List.all_eq_true]; intro k hk; exact h k (by simpa using hk)
 simp [this, h0, h1, hl]
theorem empty_iff (t : ByteArray) : t.toList.isEmpty = decide (t.size = 0) := by
 rw [ByteArray.toList_eq]
 obtain ⟨⟨l⟩⟩ := t
 cases l <;> simp [ByteArray.size]

theorem byteAt_eq {t : ByteArray} {k : Nat} (h : k < t.size) : byteAt t k = ((t[k]'h).toNat : Int) := by
 have hk : t.data[k]? = some (t.data[k]'h) := Array.getElem?_eq_getElem h
 unfold byteAt
 rw [hk]
 rfl

theorem isName_any (t : ByteArray) (ht : t.size ≤ 1000000) (w : World) : Calls Tryz.prog 123 #[.string t] w (RetX w (.bool (nameB t))) := by
 have hem := empty_iff t
 refine (callsIn_wide (n := 10)).1 ?_
 refine callsIn_of_wp Tryz.func123 rfl trivial ?_ rfl
 simp only [Tryz.ntmps123, nt, Nat.reduceAdd, Nat.reduceSub]
 cases p0 : decide (t.size = 0) with
 | true =>
  have hz : Hid (nameB t = false) := by
   unfold Hid nameB; simp at p0; simp [p0]
  rw [p0] at hem
  gi_wp2
  refine ⟨trivial, ?_⟩
  gi_wp2
  refine bodyPost_ret (v := .bool false) (by simp [results, Tryz.results123, go_sem]) rfl (retX (by rw [hz.out]) (by (repeat' first | with_reducible (first | apply bz0 | assumption | apply bz1 | apply bz2 | apply bz3 | apply bz4 | apply bz5) | (simp <;> omega))))
 | false => 
  have hne : t.size ≠ 0 := by simpa using p0
  rw [p0] at hem
  have hi0 := index_str t 0 (by omega)
  cases p1 : decide ((12 : Int) < (t.size : Int)) with
  | true => 
   have hz : Hid (nameB t = false) := by
    unfold Hid nameB
    have : decide (t.size ≤ 12) = false := by simp at p1 ⊢; omega
    simp [this]
   gi_wp2
   refine ⟨trivial, ?_⟩
   gi_wp2
   refine bodyPost_ret (v := .bool false) (by simp [results, Tryz.results123, go_sem]) rfl (retX (by rw [hz.out]) (by (repeat' first | with_reducible (first | apply bz0 | assumption | apply bz1 | apply bz2 | apply bz3 | apply bz4 | apply bz5) | (simp <;> omega))))
  | false =>
   have h12 : t.size ≤ 12 := by simp at p1; omega
   have h0 : 0 < t.size := by omega
   cases p2 : letterB ((t[0]'h0).toNat : Int) with
   | false => 
    have hz : Hid (nameB t = false) := by
     unfold Hid nameB
     rw [byteAt_eq h0, p2]
     simp
    gi_wp2
    refine ⟨trivial, ?_⟩
    ((with_reducible refine (callsIn_wide.2 (isLetter_any _ _)).mono ?_); rintro e w' ⟨rfl, x, rfl⟩)
    gi_wp2
    refine bodyPost_ret (v := .bool false) (by simp [results, Tryz.results123, go_sem]) rfl (retX (by rw [hz.out]) (by (repeat' first | with_reducible (first | apply bz0 | assumption | apply bz1 | apply bz2 | apply bz3 | apply bz4 | apply bz5) | (simp <;> omega))))
   | true =>
    have hl0 : Hid (letterB (byteAt t 0) = true) := by unfold Hid; rw [byteAt_eq h0, p2]
    gi_wp2
    refine ⟨trivial, ?_⟩
    ((with_reducible refine (callsIn_wide.2 (isLetter_any _ _)).mono ?_); rintro e w' ⟨rfl, x, rfl⟩)
    gi_wp2
    gi_loopw [20] (fun i wr => ∃ k : Nat, i = .int .i64 k ∧ k ≤ t.size ∧ Below w.heap.size w wr ∧ ∀ j, j < k → charB (byteAt t j) = true) (fun i _ => t.size - (intOf i).toNat)
    case atStart => exact ⟨0, rfl, Nat.zero_le _, by (repeat' first | with_reducible (first | apply bz0 | assumption | apply bz1 | apply bz2 | apply bz3 | apply bz4 | apply bz5) | (simp <;> omega)), fun j hj => absurd hj (Nat.not_lt_zero j)⟩
    case round =>
     obtain ⟨k, rfl, hk, hB, hno⟩ := hrel
     rcases Nat.lt_or_ge k t.size with hlt | hge
     · have hst : Hid (charB (byteAt t k) = false → nameB t = false) := nameB_stop hlt
       have hC : Hid (charB (byteAt t k) = (letterB ((t[k]'hlt).toNat : Int) || digitB ((t[k]'hlt).toNat : Int) || (((t[k]'hlt).toNat : Int) == 45))) := by unfold Hid charB; rw [byteAt_eq hlt]
       have hok : Hid (charB (byteAt t k) = true → ∀ j, j < k + 1 → charB (byteAt t j) = true) := fun h j hj => by
        rcases Nat.lt_or_ge j k with h' | h'
        · exact hno j h'
        · obtain rfl : j = k := by omega
          exact h
       cases q1 : letterB ((t[k]'hlt).toNat : Int) with
       | true =>
        rw [q1] at hC
        gi_wp2
        refine ⟨trivial, ?_⟩
        ((with_reducible refine (callsIn_wide.2 (isLetter_any _ _)).mono ?_); rintro e w' ⟨rfl, x1, rfl⟩)
        gi_wp2
        refine ⟨trivial, ?_⟩
        gi_wp2
        go_roundw
        case rel => exact ⟨k + 1, by go_num, by omega, hB.trans (Below.lower (D := wr.heap.size) (by (repeat' first | with_reducible (first | apply bz0 | assumption | apply bz1 | apply bz2 | apply bz3 | apply bz4 | apply bz5) | (simp <;> omega))) hB.size), hok.out (by rw [hC.out]; rfl)⟩
        case measure => simp [intOf]; omega
       | false =>
        rw [q1] at hC
        cases q2 : digitB ((t[k]'hlt).toNat : Int) with
        | true =>
         rw [q2] at hC
         gi_wp2
         refine ⟨trivial, ?_⟩
         ((with_reducible refine (callsIn_wide.2 (isLetter_any _ _)).mono ?_); rintro e w' ⟨rfl, x1, rfl⟩)
         gi_wp2
         refine ⟨trivial, ?_⟩
         ((with_reducible refine (callsIn_wide.2 (isDigit_any _ _)).mono ?_); rintro e w' ⟨rfl, x2, rfl⟩)
         gi_wp2
         go_roundw
         case rel => exact ⟨k + 1, by go_num, by omega, hB.trans (Below.lower (D := wr.heap.size) (by (repeat' first | with_reducible (first | apply bz0 | assumption | apply bz1 | apply bz2 | apply bz3 | apply bz4 | apply bz5) | (simp <;> omega))) hB.size), hok.out (by rw [hC.out]; rfl)⟩
         case measure => simp [intOf]; omega
        | false =>
         rw [q2] at hC
         cases q3 : (((t[k]'hlt).toNat : Int) == 45) with
         | true =>
          rw [q3] at hC
          have q4 : (((t[k]'hlt).toNat : Int) != 45) = false := by rw [bne, q3]; rfl
          gi_wp2
          refine ⟨trivial, ?_⟩
          ((with_reducible refine (callsIn_wide.2 (isLetter_any _ _)).mono ?_); rintro e w' ⟨rfl, x1, rfl⟩)
          gi_wp2
          refine ⟨trivial, ?_⟩
          ((with_reducible refine (callsIn_wide.2 (isDigit_any _ _)).mono ?_); rintro e w' ⟨rfl, x2, rfl⟩)
          gi_wp2
          go_roundw
          case rel => exact ⟨k + 1, by go_num, by omega, hB.trans (Below.lower (D := wr.heap.size) (by (repeat' first | with_reducible (first | apply bz0 | assumption | apply bz1 | apply bz2 | apply bz3 | apply bz4 | apply bz5) | (simp <;> omega))) hB.size), hok.out (by rw [hC.out]; rfl)⟩
          case measure => simp [intOf]; omega
         | false =>
          rw [q3] at hC
          have q4 : (((t[k]'hlt).toNat : Int) != 45) = true := by rw [bne, q3]; rfl
          gi_wp2
          refine ⟨trivial, ?_⟩
          ((with_reducible refine (callsIn_wide.2 (isLetter_any _ _)).mono ?_); rintro e w' ⟨rfl, x1, rfl⟩)
          gi_wp2
          refine ⟨trivial, ?_⟩
          ((with_reducible refine (callsIn_wide.2 (isDigit_any _ _)).mono ?_); rintro e w' ⟨rfl, x2, rfl⟩)
          gi_wp2
          have hz := hidden (hst.out (by rw [hC.out]; rfl))
          refine bodyPost_ret (v := .bool false) (by simp [results, Tryz.results123, go_sem]) rfl (retX (by rw [hz.out]) (hB.trans (Below.lower (D := wr.heap.size) (by (repeat' first | with_reducible (first | apply bz0 | assumption | apply bz1 | apply bz2 | apply bz3 | apply bz4 | apply bz5) | (simp <;> omega))) hB.size)))
     · obtain rfl : k = t.size := by omega
       have hz := hidden (nameB_end hne h12 hl0.out hno)
       gi_wp2
       refine bodyPost_ret (v := .bool true) (by simp [results, Tryz.results123, go_sem]) rfl (retX (by rw [hz.out]) hB)
end Go.Proofs.YtekieoamelahkaaGreat

/- Whether a point lies inside of a plan. -/
namespace Go.Proofs.YtekieoamelahkaaGreat
open Go.RowKit Go.Shelf
attribute [local go_sem] Oper.semAt_some

def onWall (H : Hal) (x y n : Int) (k : Nat) : Bool := holdsB (corAt H.cors k).x (corAt H.cors k).y (corAt H.cors (nxt H.cors.length k)).x (corAt H.cors (nxt H.cors.length k)).y x y n
def stradB (y1 y2 y n : Int) : Bool := decide (y1 * n ≤ y) != decide (y2 * n ≤ y)
def leftB (x1 y1 x2 y2 x y n : Int) : Bool := decide (offP (plK x1 y1 x2 y2) (plA x1 y1 x2 y2) x y 0 n < 0)
def crossW (H : Hal) (x y n : Int) (k : Nat) : Bool := stradB (corAt H.cors k).y (corAt H.cors (nxt H.cors.length k)).y y n && leftB (corAt H.cors k).x (corAt H.cors k).y (corAt H.cors (nxt H.cors.length k)).x (corAt H.cors (nxt H.cors.length k)).y x y n
def oddTo (H : Hal) (x y n : Int) : Nat → Bool
 | 0 => false
 | k + 1 => if crossW H x y n k then !oddTo H x y n k else oddTo H x y n k
def coversB (H : Hal) (x y n : Int) : Bool := (List.range H.cors.length).all (fun k => !onWall H x y n k) && oddTo H x y n H.cors.length

theorem coversB_stop {H : Hal} {x y n : Int} {j : Nat} (hj : j < H.cors.length) (h : onWall H x y n j = true) : coversB H x y n = false := by
 unfold coversB
 have : (List.range H.cors.length).all (fun k => !onWall H x y n k) = false := by
  rw [List.all_eq_false]; exact ⟨j, by simpa using hj, by simp [h]⟩
 simp [this]
theorem coversB_end {H : Hal} {x y n : Int} (h : ∀ j, j < H.cors.length → onWall H x y n j = false) : coversB H x y n = oddTo H x y n H.cors.length := by
 unfold coversB
 have : (List.range H.cors.length).all (fun k => !onWall H x y n k) = true := by
  rw [List.all_eq_true]; intro j hj; simp [h j (by simpa using hj)]
 simp [this]

structure CovI (H : Hal) (x y z n : Int) (s k : Nat) (W : World) : Prop where
 odd : W.cell? ⟨s + 2, 0, none⟩ = some (.bool (oddTo H x y n k))
 fodd : W.frozen? ⟨s + 2, 0, none⟩ = false
 res : ∃ r, W.cell? ⟨s + 1, 0, none⟩ = some (.bool r)
 fres : W.frozen? ⟨s + 1, 0, none⟩ = false
 c0 : W.cell? ⟨s, 0, none⟩ = some (.int .i64 x)
 c1 : W.cell? ⟨s, 1, none⟩ = some (.int .i64 y)
 c2 : W.cell? ⟨s, 2, none⟩ = some (.int .i64 z)
 c3 : W.cell? ⟨s, 3, none⟩ = some (.int .i64 n)
 none : ∀ j, j < k → onWall H x y n j = false
theorem CovI.sim {H : Hal} {x y z n : Int} {s k D : Nat} {W W' : World} (m : Sim D W W') (h : CovI H x y z n s k W) : CovI H x y z n s k W' :=
 ⟨m.cell h.odd, m.frozen h.odd h.fodd, let ⟨r, hr⟩ := h.res; ⟨r, m.cell hr⟩, let ⟨r, hr⟩ := h.res; m.frozen hr h.fres, m.cell h.c0, m.cell h.c1, m.cell h.c2, m.cell h.c3, h.none⟩
theorem CovI.start (w : World) (H : Hal) (x y z n : Int) (p q r : Nat) : CovI H x y z n w.heap.size 0 (((w.alloc (.cells #[.int .i64 x, .int .i64 y, .int .i64 z, .int .i64 n] p)).alloc (.cells #[.bool false] q)).alloc (.cells #[.bool false] r)) := by
 constructor <;> simp [go_sem, oddTo]
structure CovX (H : Hal) (x y n : Int) (s : Nat) (c : Code) (W : World) : Prop where
 ret : c = .ret
 res : W.cell? ⟨s + 1, 0, none⟩ = some (.bool false)
 no : coversB H x y n = false
theorem CovX.sim {H : Hal} {x y n : Int} {s D : Nat} {c : Code} {W W' : World} (m : Sim D W W') (h : CovX H x y n s c W) : CovX H x y n s c W' := ⟨h.ret, m.cell h.res, h.no⟩

def covA (H : Hal) (x y z n : Int) (b s B k : Nat) : Act := { tmps := #[.pointer (some ⟨b, 0, none⟩), .agg #[.int .i64 x, .int .i64 y, .int .i64 z, .int .i64 n], undef, .pointer (some ⟨s, 0, none⟩), .pointer (some ⟨s + 1, 0, none⟩), .pointer (some ⟨s + 1 + 1, 0, none⟩), undef, .pointer (some ⟨B, 0, none⟩), undef, .pointer (some ⟨b, 0, none⟩), .func (.func 129) #[.pointer (some ⟨b, 0, none⟩)] #[], .int .i64 k, lineV H k, undef, undef, undef, undef, undef, undef, undef, undef, undef, undef, undef, undef, undef, undef, undef, undef, undef, undef, undef, undef, undef, undef, undef, undef, undef, undef, undef, undef, undef, undef, undef, undef, undef], defers := [] }

theorem covers_room {w : World} {b : Nat} {H : Hal} {S : Stg} (hR : Room w b H S) (hC : CorsIn H) (hN : H.cors.length ≤ 20) (x y z n : Int) (hn : 0 ≤ n ∧ n ≤ 100000000000000)
 (hx : -1000000000000000000 ≤ x ∧ x ≤ 1000000000000000000) (hy : -1000000000000000000 ≤ y ∧ y ≤ 1000000000000000000) (hz : -1000000000000000000 ≤ z ∧ z ≤ 1000000000000000000) :
 Calls Tryz.prog 151 #[.pointer (some ⟨b, 0, none⟩), .agg #[.int .i64 x, .int .i64 y, .int .i64 z, .int .i64 n]] w (RetX w (.bool (coversB H x y n))) := by
 refine (callsIn_wide (n := 10)).1 ?_
 refine callsIn_of_wp_marks Tryz.func151 rfl trivial ?_ rfl
 simp only [Tryz.ntmps151, nt, Nat.reduceAdd, Nat.reduceSub]
 gi_wp2
 have hb' : ∀ p q r, Below w.heap.size w (((w.alloc (.cells #[.int .i64 x, .int .i64 y, .int .i64 z, .int .i64 n] p)).alloc (.cells #[.bool false] q)).alloc (.cells #[.bool false] r)) := fun _ _ _ => (((Below.refl _ _).alloc (Nat.le_refl _) _).alloc (by simp) _).alloc (by simp; omega) _
 refine range_outer rfl (by omega) (gf := 129) (pre := #[.pointer (some ⟨b, 0, none⟩)]) rfl trivial (enters_of Tryz.func129 (by kernel_rfl) rfl) (n₀ := w.heap.size) (by simp; omega)
  (walls_iter hR ((((Below.refl _ _).alloc (Nat.le_refl _) _).alloc (by simp) _).alloc (by simp; omega) _) _ (by omega)) (fun k => rfl)
  (fun k W => CovI H x y z n w.heap.size k W) (fun c W => CovX H x y n w.heap.size c W) (fun k W W' s h => h.sim s) (fun c W W' s h => h.sim s) ?start
  (fun k a' W => ∃ B, w.heap.size + 3 ≤ B ∧ a' = covA H x y z n b w.heap.size B k ∧ EdgeIn W B H k) (fun k a' W W' s ⟨B, h1, h2, h3⟩ => ⟨B, h1, h2, h3.sim s⟩) ?assign ?body ?done ?stop
 case start => exact CovI.start _ _ _ _ _ _ _ _ _
 case assign =>
  intro l k W K hk hi hb hK
  simp only [wallEnc, lineV]
  gi_wp2
  have hsz : w.heap.size + 3 ≤ W.heap.size := by have := hb.size; simpa using this
  refine hK _ _ (KeepsAll.alloc _ _ _) (hb.alloc (by omega) _) (hi.sim (Sim.alloc 0 _ _)) ⟨W.heap.size, by omega, rfl, EdgeIn.new _ _ _ _⟩
 case body =>
  rintro l k a' W hk hl hr hi ⟨B, hB, rfl, ⟨e0, e1, e2, e3⟩⟩ hb
  obtain ⟨o1, o2, ⟨r, r1⟩, r2, c0, c1, c2, c3, hno⟩ := hi
  have hO : Hid (oddTo H x y n (k + 1) = if (stradB (corAt H.cors k).y (corAt H.cors (nxt H.cors.length k)).y y n && leftB (corAt H.cors k).x (corAt H.cors k).y (corAt H.cors (nxt H.cors.length k)).x (corAt H.cors (nxt H.cors.length k)).y x y n) then !oddTo H x y n k else oddTo H x y n k) := rfl
  have hW : Hid (onWall H x y n k = holdsB (corAt H.cors k).x (corAt H.cors k).y (corAt H.cors (nxt H.cors.length k)).x (corAt H.cors (nxt H.cors.length k)).y x y n) := rfl
  obtain ⟨a1, a2⟩ := hC k (by omega)
  obtain ⟨b1, b2⟩ := hC _ (nxt_lt (n := H.cors.length) (i := k) (by omega))
  clear hl hr hR
  unfold covA lineV
  generalize (corAt H.cors k).x = x1 at *
  generalize (corAt H.cors k).y = y1 at *
  generalize (corAt H.cors (nxt H.cors.length k)).x = x2 at *
  generalize (corAt H.cors (nxt H.cors.length k)).y = y2 at *
  have hm1 := mul_bd a2 hn (by omega)
  have hm2 := mul_bd b2 hn (by omega)
  have hm3 := mul_bd (plA_rng (c := x2) (d := y2) a1 a2) hn (by omega)
  generalize oddTo H x y n k = od at *
  have hsz : w.heap.size + 3 ≤ W.heap.size := by have := hb.size; simpa using this
  have g0 := has_of_cell c0
  have g1 := has_of_cell r1
  have g2 := has_of_cell o1
  have gB := has_of_cell e0
  gi_wp2_with fail
  refine ⟨trivial, ?_⟩
  refine (callsIn_wide.2 (holds_any x1 y1 x2 y2 x y z n _ a1 a2 b1 b2 hn hx hy hz)).mono ?_
  rintro e w1 ⟨rfl, v1, rfl⟩
  cases hh : holdsB x1 y1 x2 y2 x y n with
  | true =>
   rw [hh] at hW
   gi_wp2
   refine bodyQ_leaveSet (by (repeat' first | with_reducible (first | apply bz0 | assumption | apply bz1 | apply bz2 | apply bz3 | apply bz4 | apply bz5) | (simp <;> omega))) (by omega) (by simp <;> omega) (by simp) hb (fun m => ⟨rfl, cell_set (m.cell r1), coversB_stop hk hW.out⟩)
  | false =>
   rw [hh] at hW
   have hno' : ∀ j, j < k + 1 → onWall H x y n j = false := fun j hj => by
    rcases Nat.lt_or_ge j k with h | h
    · exact hno j h
    · obtain rfl : j = k := by omega
      exact hW.out
   have q := plK_rng x1 y1 x2 y2
   cases p1 : decide (y1 * n ≤ y) <;> cases p2 : decide (y2 * n ≤ y)
   · have hO' : oddTo H x y n (k + 1) = od := by rw [hO.out]; simp [stradB, p1, p2]
     clear hO
     gi_wp2
     (refine wpIn_region_tameX (by kernel_rfl) (by kernel_rfl) ?_); (repeat (first | (refine tmS rfl ?_; simp only [Act.put, List.setIfInBounds_toArray, List.set_cons_succ, List.set_cons_zero]) | (refine tmP rfl rfl rfl (fun K hK => ?_); go_big_quiet_op; refine hK _ ?_; clear hK K) | (refine tmE rfl rfl (fun K hK => ?_); go_big_op; (first | fail | skip); (refine hK _ _ rfl (ext_of_below (by (repeat' first | with_reducible (first | apply bz0 | assumption | apply bz1 | apply bz2 | apply bz3 | apply bz4 | apply bz5) | (simp <;> omega)))) ?_; clear hK K)))); (refine tmN ?_)
     gi_wp2
     refine bodyQ_next (by (repeat' first | with_reducible (first | apply bz0 | assumption | apply bz1 | apply bz2 | apply bz3 | apply bz4 | apply bz5) | (simp <;> omega))) (by omega) hb (fun m => ⟨?_, m.frozen o1 o2, ⟨r, m.cell r1⟩, m.frozen r1 r2, m.cell c0, m.cell c1, m.cell c2, m.cell c3, hno'⟩)
     rw [hO']; exact m.cell o1
   · cases p3 : decide (offP (plK x1 y1 x2 y2) (plA x1 y1 x2 y2) x y z n < 0) with
     | true =>
      have hO' : oddTo H x y n (k + 1) = !od := by rw [hO.out]; simp only [stradB, leftB, p1, p2, ← offP_z _ _ x y z n q.2.2, p3]; rfl
      clear hO
      gi_wp2
      (refine wpIn_region_tameX (by kernel_rfl) (by kernel_rfl) ?_); (repeat (first | (refine tmS rfl ?_; simp only [Act.put, List.setIfInBounds_toArray, List.set_cons_succ, List.set_cons_zero]) | (refine tmP rfl rfl rfl (fun K hK => ?_); go_big_quiet_op; refine hK _ ?_; clear hK K) | (refine tmE rfl rfl (fun K hK => ?_); go_big_op; (first | (go_at_call 175; refine (plane_any _ _ _ _ _ (by omega) (by omega) (by omega) (by omega)).mono ?_; rintro e w' ⟨rfl, x3, rfl⟩) | (go_at_call 163; refine (offPlane_any _ _ _ _ _ _ _ (by omega) (by omega) (by omega) (by omega)).mono ?_; rintro e w' ⟨rfl, x4, rfl⟩) | skip); (refine hK _ _ rfl (ext_of_below (by (repeat' first | with_reducible (first | apply bz0 | assumption | apply bz1 | apply bz2 | apply bz3 | apply bz4 | apply bz5) | (simp <;> omega)))) ?_; clear hK K)))); (refine tmN ?_)
      gi_wp2
      refine bodyQ_nextSet (by (repeat' first | with_reducible (first | apply bz0 | assumption | apply bz1 | apply bz2 | apply bz3 | apply bz4 | apply bz5) | (simp <;> omega))) (by omega) (by simp <;> omega) (by simp) hb (fun m => ⟨?_, ?_, ⟨r, cell_other (by simp <;> omega) (m.cell r1)⟩, ?_, cell_other (by simp <;> omega) (m.cell c0), cell_other (by simp <;> omega) (m.cell c1), cell_other (by simp <;> omega) (m.cell c2), cell_other (by simp <;> omega) (m.cell c3), hno'⟩)
      · rw [hO']; exact cell_set (m.cell o1)
      · rw [World.frozen?_setCell]; exact m.frozen o1 o2
      · rw [World.frozen?_setCell]; exact m.frozen r1 r2
     | false =>
      have hO' : oddTo H x y n (k + 1) = od := by rw [hO.out]; simp only [stradB, leftB, p1, p2, ← offP_z _ _ x y z n q.2.2, p3]; rfl
      clear hO
      gi_wp2
      (refine wpIn_region_tameX (by kernel_rfl) (by kernel_rfl) ?_); (repeat (first | (refine tmS rfl ?_; simp only [Act.put, List.setIfInBounds_toArray, List.set_cons_succ, List.set_cons_zero]) | (refine tmP rfl rfl rfl (fun K hK => ?_); go_big_quiet_op; refine hK _ ?_; clear hK K) | (refine tmE rfl rfl (fun K hK => ?_); go_big_op; (first | (go_at_call 175; refine (plane_any _ _ _ _ _ (by omega) (by omega) (by omega) (by omega)).mono ?_; rintro e w' ⟨rfl, x3, rfl⟩) | (go_at_call 163; refine (offPlane_any _ _ _ _ _ _ _ (by omega) (by omega) (by omega) (by omega)).mono ?_; rintro e w' ⟨rfl, x4, rfl⟩) | skip); (refine hK _ _ rfl (ext_of_below (by (repeat' first | with_reducible (first | apply bz0 | assumption | apply bz1 | apply bz2 | apply bz3 | apply bz4 | apply bz5) | (simp <;> omega)))) ?_; clear hK K)))); (refine tmN ?_)
      gi_wp2
      refine bodyQ_next (by (repeat' first | with_reducible (first | apply bz0 | assumption | apply bz1 | apply bz2 | apply bz3 | apply bz4 | apply bz5) | (simp <;> omega))) (by omega) hb (fun m => ⟨?_, m.frozen o1 o2, ⟨r, m.cell r1⟩, m.frozen r1 r2, m.cell c0, m.cell c1, m.cell c2, m.cell c3, hno'⟩)
      rw [hO']; exact m.cell o1
   · cases p3 : decide (offP (plK x1 y1 x2 y2) (plA x1 y1 x2 y2) x y z n < 0) with
     | true =>
      have hO' : oddTo H x y n (k + 1) = !od := by rw [hO.out]; simp only [stradB, leftB, p1, p2, ← offP_z _ _ x y z n q.2.2, p3]; rfl
      clear hO
      gi_wp2
      (refine wpIn_region_tameX (by kernel_rfl) (by kernel_rfl) ?_); (repeat (first | (refine tmS rfl ?_; simp only [Act.put, List.setIfInBounds_toArray, List.set_cons_succ, List.set_cons_zero]) | (refine tmP rfl rfl rfl (fun K hK => ?_); go_big_quiet_op; refine hK _ ?_; clear hK K) | (refine tmE rfl rfl (fun K hK => ?_); go_big_op; (first | (go_at_call 175; refine (plane_any _ _ _ _ _ (by omega) (by omega) (by omega) (by omega)).mono ?_; rintro e w' ⟨rfl, x3, rfl⟩) | (go_at_call 163; refine (offPlane_any _ _ _ _ _ _ _ (by omega) (by omega) (by omega) (by omega)).mono ?_; rintro e w' ⟨rfl, x4, rfl⟩) | skip); (refine hK _ _ rfl (ext_of_below (by (repeat' first | with_reducible (first | apply bz0 | assumption | apply bz1 | apply bz2 | apply bz3 | apply bz4 | apply bz5) | (simp <;> omega)))) ?_; clear hK K)))); (refine tmN ?_)
      gi_wp2
      refine bodyQ_nextSet (by (repeat' first | with_reducible (first | apply bz0 | assumption | apply bz1 | apply bz2 | apply bz3 | apply bz4 | apply bz5) | (simp <;> omega))) (by omega) (by simp <;> omega) (by simp) hb (fun m => ⟨?_, ?_, ⟨r, cell_other (by simp <;> omega) (m.cell r1)⟩, ?_, cell_other (by simp <;> omega) (m.cell c0), cell_other (by simp <;> omega) (m.cell c1), cell_other (by simp <;> omega) (m.cell c2), cell_other (by simp <;> omega) (m.cell c3), hno'⟩)
      · rw [hO']; exact cell_set (m.cell o1)
      · rw [World.frozen?_setCell]; exact m.frozen o1 o2
      · rw [World.frozen?_setCell]; exact m.frozen r1 r2
     | false =>
      have hO' : oddTo H x y n (k + 1) = od := by rw [hO.out]; simp only [stradB, leftB, p1, p2, ← offP_z _ _ x y z n q.2.2, p3]; rfl
      clear hO
      gi_wp2
      (refine wpIn_region_tameX (by kernel_rfl) (by kernel_rfl) ?_); (repeat (first | (refine tmS rfl ?_; simp only [Act.put, List.setIfInBounds_toArray, List.set_cons_succ, List.set_cons_zero]) | (refine tmP rfl rfl rfl (fun K hK => ?_); go_big_quiet_op; refine hK _ ?_; clear hK K) | (refine tmE rfl rfl (fun K hK => ?_); go_big_op; (first | (go_at_call 175; refine (plane_any _ _ _ _ _ (by omega) (by omega) (by omega) (by omega)).mono ?_; rintro e w' ⟨rfl, x3, rfl⟩) | (go_at_call 163; refine (offPlane_any _ _ _ _ _ _ _ (by omega) (by omega) (by omega) (by omega)).mono ?_; rintro e w' ⟨rfl, x4, rfl⟩) | skip); (refine hK _ _ rfl (ext_of_below (by (repeat' first | with_reducible (first | apply bz0 | assumption | apply bz1 | apply bz2 | apply bz3 | apply bz4 | apply bz5) | (simp <;> omega)))) ?_; clear hK K)))); (refine tmN ?_)
      gi_wp2
      refine bodyQ_next (by (repeat' first | with_reducible (first | apply bz0 | assumption | apply bz1 | apply bz2 | apply bz3 | apply bz4 | apply bz5) | (simp <;> omega))) (by omega) hb (fun m => ⟨?_, m.frozen o1 o2, ⟨r, m.cell r1⟩, m.frozen r1 r2, m.cell c0, m.cell c1, m.cell c2, m.cell c3, hno'⟩)
      rw [hO']; exact m.cell o1
   · have hO' : oddTo H x y n (k + 1) = od := by rw [hO.out]; simp [stradB, p1, p2]
     clear hO
     gi_wp2
     (refine wpIn_region_tameX (by kernel_rfl) (by kernel_rfl) ?_); (repeat (first | (refine tmS rfl ?_; simp only [Act.put, List.setIfInBounds_toArray, List.set_cons_succ, List.set_cons_zero]) | (refine tmP rfl rfl rfl (fun K hK => ?_); go_big_quiet_op; refine hK _ ?_; clear hK K) | (refine tmE rfl rfl (fun K hK => ?_); go_big_op; (first | fail | skip); (refine hK _ _ rfl (ext_of_below (by (repeat' first | with_reducible (first | apply bz0 | assumption | apply bz1 | apply bz2 | apply bz3 | apply bz4 | apply bz5) | (simp <;> omega)))) ?_; clear hK K)))); (refine tmN ?_)
     gi_wp2
     refine bodyQ_next (by (repeat' first | with_reducible (first | apply bz0 | assumption | apply bz1 | apply bz2 | apply bz3 | apply bz4 | apply bz5) | (simp <;> omega))) (by omega) hb (fun m => ⟨?_, m.frozen o1 o2, ⟨r, m.cell r1⟩, m.frozen r1 r2, m.cell c0, m.cell c1, m.cell c2, m.cell c3, hno'⟩)
     rw [hO']; exact m.cell o1
 case done =>
  rintro W ⟨o1, o2, ⟨r, r1⟩, r2, c0, c1, c2, c3, hno⟩ hb hD
  have g1 := has_of_cell r1
  have g2 := has_of_cell o1
  rw [← coversB_end hno] at o1
  clear c0 c1 c2 c3 hno hR
  gi_wp2
  have hD' := (Below.heap_setCell W ⟨w.heap.size + 1, 0, none⟩ (.bool (coversB H x y n)) _ (by simp <;> omega)).trans hD
  refine ⟨by simp, .inl ⟨_, _, rfl, run_takeDeferred hD', ?_⟩⟩
  have hc := cell_put (b := w.heap.size + 1 + 1 + 1) (o := .deferred none) (by omega) (cell_set (v := .bool (coversB H x y n)) r1)
  refine ⟨.bool (coversB H x y n), by simp [results, Tryz.results151, go_sem, hc], retX rfl ?_⟩
  exact (((hb' _ _ _).trans hb).setCell (by simp <;> omega) _).putObjStep (by simp <;> omega) _
 case stop =>
  rintro c W ⟨rfl, r1, hno⟩ hb hD
  rw [hno]
  have g1 := has_of_cell r1
  gi_wp2
  refine ⟨by simp, .inl ⟨_, _, rfl, run_takeDeferred hD, ?_⟩⟩
  have hc := cell_put (b := w.heap.size + 1 + 1 + 1) (o := .deferred none) (by omega) r1
  refine ⟨.bool false, by simp [results, Tryz.results151, go_sem, hc], retX rfl ?_⟩
  exact ((hb' _ _ _).trans hb).putObjStep (by simp <;> omega) _
end Go.Proofs.YtekieoamelahkaaGreat

/- The middle of a way; whether a point is strictly inside. -/
namespace Go.Proofs.YtekieoamelahkaaGreat
open Go.RowKit

theorem middle_any (x1 y1 z1 d1 x2 y2 z2 d2 : Int) (w : World) (hd1 : 0 ≤ d1 ∧ d1 ≤ 100000) (hd2 : 0 ≤ d2 ∧ d2 ≤ 100000) (hx1 : -500000000 ≤ x1 ∧ x1 ≤ 500000000) (hy1 : -500000000 ≤ y1 ∧ y1 ≤ 500000000) (hz1 : -500000000 ≤ z1 ∧ z1 ≤ 500000000) (hx2 : -500000000 ≤ x2 ∧ x2 ≤ 500000000) (hy2 : -500000000 ≤ y2 ∧ y2 ≤ 500000000) (hz2 : -500000000 ≤ z2 ∧ z2 ≤ 500000000) :
 Calls Tryz.prog 153 #[.agg #[.int .i64 x1, .int .i64 y1, .int .i64 z1, .int .i64 d1, .int .i64 x2, .int .i64 y2, .int .i64 z2, .int .i64 d2]] w (RetX w (.agg #[.int .i64 (x1 * d2 + x2 * d1), .int .i64 (y1 * d2 + y2 * d1), .int .i64 (z1 * d2 + z2 * d1), .int .i64 (2 * d1 * d2)])) := by
 have m1 := mul_bd hx1 hd2 (by omega)
 have m2 := mul_bd hx2 hd1 (by omega)
 have m3 := mul_bd hy1 hd2 (by omega)
 have m4 := mul_bd hy2 hd1 (by omega)
 have m5 := mul_bd hz1 hd2 (by omega)
 have m6 := mul_bd hz2 hd1 (by omega)
 have m7 := mul_bd (a := 2 * d1) (A := 200000) ⟨by omega, by omega⟩ hd2 (by omega)
 clear hx1 hy1 hz1 hx2 hy2 hz2 hd2
 go_enter Tryz.func153, Tryz.ntmps153
 go_wp2
 (refine wp_region_tree (by kernel_rfl) ?_)
 (refine tree_pure 0 rfl (by kernel_rfl) (by kernel_rfl) (by kernel_rfl) rfl rfl rfl (fun K hK => ?_)); go_big_quiet_op; refine hK _ ?_; clear hK K
 (refine tree_pure 1 rfl (by kernel_rfl) (by kernel_rfl) (by kernel_rfl) rfl rfl rfl (fun K hK => ?_)); go_big_quiet_op; refine hK _ ?_; clear hK K
 (refine tree_pure 2 rfl (by kernel_rfl) (by kernel_rfl) (by kernel_rfl) rfl rfl rfl (fun K hK => ?_)); go_big_quiet_op; refine hK _ ?_; clear hK K
 (refine tree_pure 3 rfl (by kernel_rfl) (by kernel_rfl) (by kernel_rfl) rfl rfl rfl (fun K hK => ?_)); go_big_quiet_op; refine hK _ ?_; clear hK K
 refine tree_all [4, 5] (by kernel_rfl) (by decide) ?_
 intro i hi
 simp only [List.mem_cons, List.not_mem_nil, or_false] at hi
 rcases hi with rfl | rfl
 · (refine tree_eff 4 rfl rfl rfl (fun K hK => ?_)); go_big_op; (first | fail | skip); (refine hK _ _ rfl (ext_of_below (by (repeat' first | with_reducible (first | apply bz0 | assumption | apply bz1 | apply bz2 | apply bz3 | apply bz4 | apply bz5) | (simp <;> omega)))) ?_; clear hK K)
   refine tree_all [5] (by kernel_rfl) (by decide) ?_
   intro i hi
   simp only [List.mem_cons, List.not_mem_nil, or_false] at hi
   subst hi
   (refine tree_eff 5 rfl rfl rfl (fun K hK => ?_)); go_big_op; (first | fail | skip); (refine hK _ _ rfl (ext_of_below (by (repeat' first | with_reducible (first | apply bz0 | assumption | apply bz1 | apply bz2 | apply bz3 | apply bz4 | apply bz5) | (simp <;> omega)))) ?_; clear hK K)
   refine tree_all [6] (by kernel_rfl) (by decide) ?_
   intro i hi
   simp only [List.mem_cons, List.not_mem_nil, or_false] at hi
   subst hi
   (refine tree_eff 6 rfl rfl rfl (fun K hK => ?_)); go_big_op; (first | fail | skip); (refine hK _ _ rfl (ext_of_below (by (repeat' first | with_reducible (first | apply bz0 | assumption | apply bz1 | apply bz2 | apply bz3 | apply bz4 | apply bz5) | (simp <;> omega)))) ?_; clear hK K)
   refine tree_all [7] (by kernel_rfl) (by decide) ?_
   intro i hi
   simp only [List.mem_cons, List.not_mem_nil, or_false] at hi
   subst hi
   (refine tree_eff 7 rfl rfl rfl (fun K hK => ?_)); go_big_op; (first | fail | skip); (refine hK _ _ rfl (ext_of_below (by (repeat' first | with_reducible (first | apply bz0 | assumption | apply bz1 | apply bz2 | apply bz3 | apply bz4 | apply bz5) | (simp <;> omega)))) ?_; clear hK K)
   refine tree_done (by kernel_rfl) ?_
   (go_wp2; refine bodyPost_ret (v := .agg #[.int .i64 (x1 * d2 + x2 * d1), .int .i64 (y1 * d2 + y2 * d1), .int .i64 (z1 * d2 + z2 * d1), .int .i64 (2 * d1 * d2)]) (by simp [results, Tryz.results153, go_sem]) rfl (retX rfl ?_); (repeat' first | with_reducible (first | apply bz0 | assumption | apply bz1 | apply bz2 | apply bz3 | apply bz4 | apply bz5) | (simp <;> omega)))
 · (refine tree_eff 5 rfl rfl rfl (fun K hK => ?_)); go_big_op; (first | fail | skip); (refine hK _ _ rfl (ext_of_below (by (repeat' first | with_reducible (first | apply bz0 | assumption | apply bz1 | apply bz2 | apply bz3 | apply bz4 | apply bz5) | (simp <;> omega)))) ?_; clear hK K)
   refine tree_all [4] (by kernel_rfl) (by decide) ?_
   intro i hi
   simp only [List.mem_cons, List.not_mem_nil, or_false] at hi
   subst hi
   (refine tree_eff 4 rfl rfl rfl (fun K hK => ?_)); go_big_op; (first | fail | skip); (refine hK _ _ rfl (ext_of_below (by (repeat' first | with_reducible (first | apply bz0 | assumption | apply bz1 | apply bz2 | apply bz3 | apply bz4 | apply bz5) | (simp <;> omega)))) ?_; clear hK K)
   refine tree_all [6] (by kernel_rfl) (by decide) ?_
   intro i hi
   simp only [List.mem_cons, List.not_mem_nil, or_false] at hi
   subst hi
   (refine tree_eff 6 rfl rfl rfl (fun K hK => ?_)); go_big_op; (first | fail | skip); (refine hK _ _ rfl (ext_of_below (by (repeat' first | with_reducible (first | apply bz0 | assumption | apply bz1 | apply bz2 | apply bz3 | apply bz4 | apply bz5) | (simp <;> omega)))) ?_; clear hK K)
   refine tree_all [7] (by kernel_rfl) (by decide) ?_
   intro i hi
   simp only [List.mem_cons, List.not_mem_nil, or_false] at hi
   subst hi
   (refine tree_eff 7 rfl rfl rfl (fun K hK => ?_)); go_big_op; (first | fail | skip); (refine hK _ _ rfl (ext_of_below (by (repeat' first | with_reducible (first | apply bz0 | assumption | apply bz1 | apply bz2 | apply bz3 | apply bz4 | apply bz5) | (simp <;> omega)))) ?_; clear hK K)
   refine tree_done (by kernel_rfl) ?_
   (go_wp2; refine bodyPost_ret (v := .agg #[.int .i64 (x1 * d2 + x2 * d1), .int .i64 (y1 * d2 + y2 * d1), .int .i64 (z1 * d2 + z2 * d1), .int .i64 (2 * d1 * d2)]) (by simp [results, Tryz.results153, go_sem]) rfl (retX rfl ?_); (repeat' first | with_reducible (first | apply bz0 | assumption | apply bz1 | apply bz2 | apply bz3 | apply bz4 | apply bz5) | (simp <;> omega)))

def withinB (H : Hal) (x y z n : Int) : Bool := betweenB H.height z n && coversB H x y n

theorem isWithin_room {w : World} {b : Nat} {H : Hal} {S : Stg} (hR : Room w b H S) (hC : CorsIn H) (hN : H.cors.length ≤ 20) (hh : -5000 ≤ H.height ∧ H.height ≤ 5000) (x y z n : Int) (hn : 0 ≤ n ∧ n ≤ 100000000000000)
 (hx : -1000000000000000000 ≤ x ∧ x ≤ 1000000000000000000) (hy : -1000000000000000000 ≤ y ∧ y ≤ 1000000000000000000) (hz : -1000000000000000000 ≤ z ∧ z ≤ 1000000000000000000) :
 Calls Tryz.prog 112 #[.pointer (some ⟨b, 0, none⟩), .agg #[.int .i64 x, .int .i64 y, .int .i64 z, .int .i64 n]] w (RetX w (.bool (withinB H x y z n))) := by
 have HW : Hid (withinB H x y z n = (betweenB H.height z n && coversB H x y n)) := rfl
 cases hB : betweenB H.height z n
 all_goals
  rw [hB] at HW
  go_enter Tryz.func112, Tryz.ntmps112
  go_wp2_with (first | (go_at_call 150; refine (isBetween_any (hR.below (by (repeat' first | with_reducible (first | apply bz0 | assumption | apply bz1 | apply bz2 | apply bz3 | apply bz4 | apply bz5) | (simp <;> omega)))) hh x y z n hn).mono ?_; rintro e w' ⟨rfl, x1, rfl⟩) | (go_at_call 151; refine (covers_room (hR.below (by (repeat' first | with_reducible (first | apply bz0 | assumption | apply bz1 | apply bz2 | apply bz3 | apply bz4 | apply bz5) | (simp <;> omega)))) hC hN x y z n hn hx hy hz).mono ?_; rintro e w' ⟨rfl, x2, rfl⟩))
  go_ret
  refine retX_bool (by rw [HW.out]; simp) ?_
  (repeat' first | with_reducible (first | apply bz0 | assumption | apply bz1 | apply bz2 | apply bz3 | apply bz4 | apply bz5) | (simp <;> omega))
end Go.Proofs.YtekieoamelahkaaGreat

/- beyond; checkInside. -/
namespace Go.Proofs.YtekieoamelahkaaGreat
open Go.RowKit Go.Shelf
attribute [local go_sem] Oper.semAt_some

def outB (L n : Int) : Bool := decide (L < n) || decide (n < -L)
def beyondB (L : Int) (xs : List Int) : Bool := xs.any (outB L)
theorem intAt_get {xs : List Int} {k : Nat} (h : k < xs.length) : intAt xs k = xs[k] := by
 unfold intAt; rw [List.getElem?_eq_getElem h]; rfl
theorem beyondB_stop {L : Int} {xs : List Int} {k : Nat} (h : k < xs.length) (hk : outB L (intAt xs k) = true) : beyondB L xs = true := by
 unfold beyondB; rw [List.any_eq_true]; exact ⟨xs[k], List.getElem_mem h, by rw [← intAt_get h]; exact hk⟩
theorem beyondB_end {L : Int} {xs : List Int} (h : ∀ k, k < xs.length → outB L (intAt xs k) = false) : beyondB L xs = false := by
 unfold beyondB; rw [List.any_eq_false]
 intro n hn
 obtain ⟨k, hk, rfl⟩ := List.getElem_of_mem hn
 rw [← intAt_get hk, h k hk]
 simp

theorem beyond_any (L : Int) (hL : 0 ≤ L ∧ L ≤ 1000000000) (xs : List Int) (A : Option Addr) (c : Nat) (w : World) (hS : SlcAt encInt w (.slice A xs.length c) xs) :
 Calls Tryz.prog 105 #[.int .i64 L, .slice A xs.length c] w (RetX w (.bool (beyondB L xs))) := by
 have hl := hS.1
 refine (callsIn_wide (n := 10)).1 ?_
 refine callsIn_of_wp Tryz.func105 rfl trivial ?_ rfl
 simp only [Tryz.ntmps105, nt, Nat.reduceAdd, Nat.reduceSub]
 gi_wp2
 gi_loopw [9] (fun i wr => ∃ k : Nat, i = .int .i64 k ∧ k ≤ xs.length ∧ Below w.heap.size w wr ∧ ∀ j, j < k → outB L (intAt xs j) = false) (fun i _ => xs.length - (intOf i).toNat)
 case atStart => exact ⟨0, rfl, Nat.zero_le _, Below.refl _ _, fun j hj => absurd hj (Nat.not_lt_zero j)⟩
 case round =>
  obtain ⟨k, rfl, hk, hB, hno⟩ := hrel
  replace hS := hS.below hB
  rcases Nat.lt_or_ge k xs.length with hlt | hge
  · obtain ⟨g, o, rfl, hg, hcs⟩ := int_at hS hlt
    have k0 := hcs k hlt
    have hst : Hid (outB L (intAt xs k) = true → beyondB L xs = true) := beyondB_stop hlt
    have hO : Hid (outB L (intAt xs k) = (decide (L < intAt xs k) || decide (intAt xs k < -L))) := rfl
    clear hcs hS
    generalize hn : intAt xs k = n at *
    generalize xs.length = N at *
    cases p1 : decide (L < n) with
    | true =>
     rw [p1] at hO
     gi_wp2
     refine bodyPost_ret (v := .bool true) (by simp [results, Tryz.results105, go_sem]) rfl (retX (by rw [hst.out (by rw [hO.out]; rfl)]) hB)
    | false =>
     rw [p1] at hO
     cases p2 : decide (n < -L) with
     | true =>
      rw [p2] at hO
      gi_wp2
      refine bodyPost_ret (v := .bool true) (by simp [results, Tryz.results105, go_sem]) rfl (retX (by rw [hst.out (by rw [hO.out]; rfl)]) hB)
     | false =>
      rw [p2] at hO
      gi_wp2
      go_roundw
      case rel =>
       refine ⟨k + 1, by go_num, by omega, hB, fun j hj => ?_⟩
       rcases Nat.lt_or_ge j k with h | h
       · exact hno j h
       · obtain rfl : j = k := by omega
         rw [hn]; exact hO.out
      case measure => simp [intOf]; omega
  · obtain rfl : k = xs.length := by omega
    have hz := hidden (beyondB_end hno)
    gi_wp2
    refine bodyPost_ret (v := .bool false) (by simp [results, Tryz.results105, go_sem]) rfl (retX (by rw [hz.out]) hB)
end Go.Proofs.YtekieoamelahkaaGreat
