/- Checks of a hall: whole, checkItself, checkParts, checkCorners' function. -/
import Derived.Test.YtekieoamelahkaaGreatM07
import Derived.Test.YtekieoamelahkaaGreatM15
import Derived.Test.YtekieoamelahkaaGreatM17
set_option maxRecDepth 100000
set_option maxHeartbeats 1000000
set_option linter.unusedVariables false
set_option linter.unusedSimpArgs false
namespace Go.Proofs.YtekieoamelahkaaGreat
open Go.RowKit Go.Shelf
attribute [local go_sem] Oper.semAt_some

theorem whole_any (n : Int) (w : World) : Calls Tryz.prog 124 #[.int .i64 n] w (RetX w (.agg #[.int .i64 0, .int .i64 0, .int .i64 n])) := by
 go_enter Tryz.func124, Tryz.ntmps124
 go_wp2
 refine bodyPost_ret (v := .agg #[.int .i64 0, .int .i64 0, .int .i64 n]) (by simp [results, Tryz.results124, go_sem]) rfl (retX rfl ?_)
 (repeat' first | with_reducible (first | apply bz0 | assumption | apply bz1 | apply bz2 | apply bz3 | apply bz4 | apply bz5) | (simp <;> omega))

def itselfE (H : Hal) : Int := if nameB H.name = false then 4 else if H.height < 2 then 2 else if 5000 < H.height then 2 else 0

theorem checkItself_sur {w : World} {b M F T : Nat} {H : Hal} (hS : SurAt w b H M F T) : Calls Tryz.prog 68 #[.pointer (some ⟨b, 0, none⟩)] w (RetX w (.agg #[.int .i64 0, .int .i64 0, .int .i64 (itselfE H)])) := by
 have HE : Hid (itselfE H = if nameB H.name = false then 4 else if H.height < 2 then 2 else if 5000 < H.height then 2 else 0) := rfl
 obtain ⟨⟨v4, v5, v6, v7, v8, v9, v10, hR⟩, _, _, _⟩ := hS
 have HN := hidden (fun W => isName_any H.name hR.hal.sized.name W)
 have h0 := hR.c0
 have h1 := hR.c1
 have hb := hR.has
 clear hR
 generalize itselfE H = E at *
 generalize H.height = z at *
 generalize H.name = nm at *
 have nb : b ≠ w.heap.size := Nat.ne_of_lt hb
 cases q0 : nameB nm <;> rw [q0] at HE HN
 · have hE := HE.out
   simp only [if_true] at hE
   subst hE
   clear HE
   go_enter Tryz.func68, Tryz.ntmps68
   go_wp2_with (first | (go_at_call 123; refine (HN.out _).mono ?_; rintro e w' ⟨rfl, x1, rfl⟩) | (go_at_call 124; refine (whole_any _ _).mono ?_; rintro e w' ⟨rfl, x2, rfl⟩))
   refine bodyPost_ret ?_ rfl (retX rfl ?_); (simp [results, Tryz.results68, go_sem]); (repeat' first | with_reducible (first | apply bz0 | assumption | apply bz1 | apply bz2 | apply bz3 | apply bz4 | apply bz5) | (simp <;> omega))
 · have hc : (decide (z < 2) = true) ∨ (decide (z < 2) = false ∧ decide (5000 < z) = true) ∨ (decide (z < 2) = false ∧ decide (5000 < z) = false) := by simp; omega
   rcases hc with q1 | ⟨q1, q2⟩ | ⟨q1, q2⟩
   · have hE := HE.out
     simp only [of_decide_eq_true q1, if_true, Bool.true_eq_false, if_false] at hE
     subst hE
     clear HE
     go_enter Tryz.func68, Tryz.ntmps68
     go_wp2_with (first | (go_at_call 123; refine (HN.out _).mono ?_; rintro e w' ⟨rfl, x1, rfl⟩) | (go_at_call 124; refine (whole_any _ _).mono ?_; rintro e w' ⟨rfl, x2, rfl⟩))
     refine bodyPost_ret ?_ rfl (retX rfl ?_); (simp [results, Tryz.results68, go_sem]); (repeat' first | with_reducible (first | apply bz0 | assumption | apply bz1 | apply bz2 | apply bz3 | apply bz4 | apply bz5) | (simp <;> omega))
   · have hE := HE.out
     simp only [of_decide_eq_false q1, of_decide_eq_true q2, if_true, Bool.true_eq_false, if_false] at hE
     subst hE
     clear HE
     go_enter Tryz.func68, Tryz.ntmps68
     go_wp2_with (first | (go_at_call 123; refine (HN.out _).mono ?_; rintro e w' ⟨rfl, x1, rfl⟩) | (go_at_call 124; refine (whole_any _ _).mono ?_; rintro e w' ⟨rfl, x2, rfl⟩))
     refine bodyPost_ret ?_ rfl (retX rfl ?_); (simp [results, Tryz.results68, go_sem]); (repeat' first | with_reducible (first | apply bz0 | assumption | apply bz1 | apply bz2 | apply bz3 | apply bz4 | apply bz5) | (simp <;> omega))
   · have hE := HE.out
     simp only [of_decide_eq_false q1, of_decide_eq_false q2, Bool.true_eq_false, if_false] at hE
     subst hE
     clear HE
     go_enter Tryz.func68, Tryz.ntmps68
     go_wp2_with (first | (go_at_call 123; refine (HN.out _).mono ?_; rintro e w' ⟨rfl, x1, rfl⟩) | (go_at_call 124; refine (whole_any _ _).mono ?_; rintro e w' ⟨rfl, x2, rfl⟩))
     refine bodyPost_ret ?_ rfl (retX rfl ?_); (simp [results, Tryz.results68, go_sem]); (repeat' first | with_reducible (first | apply bz0 | assumption | apply bz1 | apply bz2 | apply bz3 | apply bz4 | apply bz5) | (simp <;> omega))
end Go.Proofs.YtekieoamelahkaaGreat

/- oneByOne, over any function with one captured value. -/
namespace Go.Proofs.YtekieoamelahkaaGreat
open Go.RowKit Go.Shelf
attribute [local go_sem] Oper.semAt_some

def firstBad (E : Nat → Int) (n : Nat) : Option Nat := (List.range n).find? (fun k => decide (E k ≠ 0))
def oneV (l : Int) (E : Nat → Int) (n : Nat) : Value := match firstBad E n with | none => .agg #[.int .i64 0, .int .i64 0, .int .i64 0] | some k => .agg #[.int .i64 l, .int .i64 k, .int .i64 (E k)]
theorem firstBad_end {E : Nat → Int} {n : Nat} (h : ∀ j, j < n → E j = 0) : firstBad E n = none := by
 unfold firstBad
 rw [List.find?_eq_none]
 intro k hk
 simp [h k (by simpa using hk)]
theorem firstBad_stop {E : Nat → Int} {n k : Nat} (hk : k < n) (he : E k ≠ 0) (h : ∀ j, j < k → E j = 0) : firstBad E n = some k := by
 unfold firstBad
 rw [List.find?_range_eq_some]
 refine ⟨by simp [he], by simpa using hk, fun j hj => by simp [h j hj]⟩

theorem oneV_form (l : Int) (E : Nat → Int) (n : Nat) : ∃ x y z, oneV l E n = .agg #[.int .i64 x, .int .i64 y, .int .i64 z] := by
 unfold oneV
 split
 · exact ⟨_, _, _, rfl⟩
 · exact ⟨_, _, _, rfl⟩
structure OneR (s : Nat) (wr : World) : Prop where
 r0 : wr.cell? ⟨s, 0, none⟩ = some (.int .i64 0)
 r1 : wr.cell? ⟨s, 1, none⟩ = some (.int .i64 0)
 r2 : wr.cell? ⟨s, 2, none⟩ = some (.int .i64 0)
 f0 : wr.frozen? ⟨s, 0, none⟩ = false
 f1 : wr.frozen? ⟨s, 1, none⟩ = false
 f2 : wr.frozen? ⟨s, 2, none⟩ = false
theorem OneR.touch {s : Nat} {bs : List Nat} {W W' : World} (h : OneR s W) (t : Touch bs W W') : OneR s W' :=
 ⟨t.kept.cell h.r0, t.kept.cell h.r1, t.kept.cell h.r2, t.frozen h.r0 h.f0, t.frozen h.r1 h.f1, t.frozen h.r2 h.f2⟩

theorem oneByOne_any (f : Nat) (cap : Value) (eg : ∀ args w, (callFunc f args).run Tryz.prog w = .ok (.enter f args) w) (l : Int) (n : Nat) (hn : n ≤ 1000000) (E : Nat → Int) (bs : List Nat) (J : Nat → World → Prop) (w : World)
 (hm : ∀ b ∈ bs, ∃ es c, w.heap[b]? = some (.map es c)) (hJ : ∀ k W W', Below w.heap.size W W' → J k W → J k W')
 (hstep : ∀ k W, k < n → Touch bs w W → J k W → Calls Tryz.prog f #[.int .i64 k, cap] W (fun e W' => e = .returned (.int .i64 (E k)) ∧ Touch bs W W' ∧ (E k = 0 → J (k + 1) W'))) (h0 : J 0 w) :
 Calls Tryz.prog 125 #[.int .i64 l, .int .i64 n, .func (.func f) #[] #[cap]] w (fun e W' => e = .returned (oneV l E n) ∧ Touch bs w W' ∧ (firstBad E n = none → J n W')) := by
 have HH := hidden hstep
 clear hstep
 refine (callsIn_wide (n := 10)).1 ?_
 refine callsIn_of_wp Tryz.func125 rfl trivial ?_ rfl
 simp only [Tryz.ntmps125, nt, Nat.reduceAdd, Nat.reduceSub]
 gi_wp2
 gi_loopw [10] (fun i wr => ∃ k : Nat, i = .int .i64 k ∧ k ≤ n ∧ Touch bs w wr ∧ OneR w.heap.size wr ∧ J k wr ∧ ∀ j, j < k → E j = 0) (fun i _ => n - (intOf i).toNat)
 case atStart => 
  exact ⟨0, rfl, Nat.zero_le _, Touch.of_below (by (repeat' first | with_reducible (first | apply bz0 | assumption | apply bz1 | apply bz2 | apply bz3 | apply bz4 | apply bz5) | (simp <;> omega))) hm, ⟨by simp [go_sem], by simp [go_sem], by simp [go_sem], by simp [go_sem], by simp [go_sem], by simp [go_sem]⟩, hJ 0 _ _ (by (repeat' first | with_reducible (first | apply bz0 | assumption | apply bz1 | apply bz2 | apply bz3 | apply bz4 | apply bz5) | (simp <;> omega))) h0, fun j hj => absurd hj (Nat.not_lt_zero j)⟩
 case round =>
  obtain ⟨k, rfl, hk, hTw, hO, hj, hz⟩ := hrel
  obtain ⟨r0, r1, r2, f0, f1, f2⟩ := hO
  have g0 := has_of_cell r0
  have hsz := hTw.size
  rcases Nat.lt_or_ge k n with hlt | hge
  · gi_wp2
    refine ⟨trivial, ?_⟩
    refine (callsIn_wide.2 (HH.out k _ hlt hTw hj)).mono ?_
    rintro e w1 ⟨rfl, hT1, hj1⟩
    have hTw1 := hTw.trans hT1
    have hO1 := OneR.touch ⟨r0, r1, r2, f0, f1, f2⟩ hT1
    clear r0 r1 r2 f0 f1 f2 hT1 hj g0
    obtain ⟨s0, s1, s2, t0, t1, t2⟩ := hO1
    have g1 := has_of_cell s0
    have hsz1 := hTw1.size
    by_cases he : E k = 0
    · have hj2 := hj1 he
      have hz2 : ∀ j, j < k + 1 → E j = 0 := fun j hj => by
       rcases Nat.lt_or_ge j k with h' | h'
       · exact hz j h'
       · obtain rfl : j = k := by omega
         exact he
      have hz2 := hidden hz2
      rw [he]
      clear hj1 hz
      gi_wp2
      go_roundw
      case rel => exact ⟨k + 1, by go_num, by omega, hTw1, ⟨s0, s1, s2, t0, t1, t2⟩, hj2, hz2.out⟩
      case measure => simp [intOf]; omega
    · have hne : (E k != 0) = true := by simp [he]
      have hne2 : (E k == 0) = false := by simp [he]
      have hv : Hid (oneV l E n = .agg #[.int .i64 l, .int .i64 k, .int .i64 (E k)]) := by unfold Hid oneV; rw [firstBad_stop hlt he hz]
      have hb : Hid (firstBad E n ≠ none) := by unfold Hid; rw [firstBad_stop hlt he hz]; simp
      clear hj1 hz he
      gi_wp2
      change bodyPost _ _ _ _ _ _
      refine bodyPost_ret (v := .agg #[.int .i64 l, .int .i64 k, .int .i64 (E k)]) ?_ rfl ⟨by rw [hv.out], hTw1.step ?_, fun h => absurd h hb.out⟩
      · simp [results, Tryz.results125, go_sem, s0, s1, s2, g1]
      · (repeat' first | with_reducible (first | apply bz0 | assumption | apply bz1 | apply bz2 | apply bz3 | apply bz4 | apply bz5) | (simp <;> omega))
  · obtain rfl : k = n := by omega
    have hz := hidden (firstBad_end hz)
    have hv : Hid (oneV l E k = .agg #[.int .i64 0, .int .i64 0, .int .i64 0]) := by unfold Hid oneV; rw [hz.out]
    gi_wp2
    refine ⟨trivial, ?_⟩
    ((with_reducible refine (callsIn_wide.2 (whole_any _ _)).mono ?_); rintro e w' ⟨rfl, x, rfl⟩)
    gi_wp2
    change bodyPost _ _ _ _ _ _
    refine bodyPost_ret (v := .agg #[.int .i64 0, .int .i64 0, .int .i64 0]) ?_ rfl ⟨by rw [hv.out], hTw.step ?_, fun _ => hJ k _ _ ?_ hj⟩
    · simp [results, Tryz.results125, go_sem, r0, r1, r2, g0]
    · (repeat' first | with_reducible (first | apply bz0 | assumption | apply bz1 | apply bz2 | apply bz3 | apply bz4 | apply bz5) | (simp <;> omega))
    · (repeat' first | with_reducible (first | apply bz0 | assumption | apply bz1 | apply bz2 | apply bz3 | apply bz4 | apply bz5) | (simp <;> omega))
end Go.Proofs.YtekieoamelahkaaGreat

/- checkParts; the function of checkCorners. -/
namespace Go.Proofs.YtekieoamelahkaaGreat
open Go.RowKit

theorem u_map : Tryz.prog.underlying 128 = some (.map 9 4) := by kernel_rfl
theorem u_str : Tryz.prog.underlying 9 = some .string := by kernel_rfl
theorem z_bool (w : World) : (zeroValue 4).run Tryz.prog w = .ok (.bool false) w := by kernel_rfl
theorem look_set {b : Nat} {ns : List ByteArray} (W : World) (h : SetAt W b ns) (k : ByteArray) : (Instr.lookup 128 (.map (some b)) (.string k) false).run Tryz.prog W = .ok (.bool (hasName ns k)) W :=
 h.look u_map u_str (z_bool W) k
theorem put_set {b : Nat} {ns : List ByteArray} (W : World) (h : SetAt W b ns) (k : ByteArray) (hk : hasName ns k = false) : (Instr.mapUpdate 128 (.map (some b)) (.string k) (.bool true)).run Tryz.prog W = .ok () (W.putObj b (putMap W b k)) :=
 h.run_put u_map u_str hk

def partsE (H : Hal) (ms : List ByteArray) : Int :=
 if hasName ms H.floor = false then 6 else if hasName ms H.ceil = false then 6 else if H.cors.length < 3 then 10 else if H.wals.length ≠ H.cors.length then 10 else if 12 < H.wals.length then 8 else 0

theorem checkParts_sur {w : World} {b M F T : Nat} {H : Hal} {ms fs ts : List ByteArray} (hS : SurAt w b H M F T) (hN : Names w M F T ms fs ts) : Calls Tryz.prog 70 #[.pointer (some ⟨b, 0, none⟩)] w (RetX w (.agg #[.int .i64 0, .int .i64 0, .int .i64 (partsE H ms)])) := by
 have HE : Hid (partsE H ms = if hasName ms H.floor = false then 6 else if hasName ms H.ceil = false then 6 else if H.cors.length < 3 then 10 else if H.wals.length ≠ H.cors.length then 10 else if 12 < H.wals.length then 8 else 0) := rfl
 obtain ⟨⟨v4, v5, v6, v7, v8, v9, v10, hR⟩, hm, _, _⟩ := hS
 obtain ⟨A, c, rfl, hS5⟩ := slc_form hR.hal.cors
 obtain ⟨A', c', rfl, hS6⟩ := slc_form hR.hal.wals
 have l5 := hS5.1
 have l6 := hS6.1
 have h2 := hR.c2
 have h3 := hR.c3
 have h5 := hR.c5
 have h6 := hR.c6
 have hb := hR.has
 have hM := hN.m
 have hMh : w.Has M := hM.has
 clear hR hS5 hS6 hN
 generalize partsE H ms = E at *
 generalize H.floor = fl at *
 generalize H.ceil = ce at *
 generalize H.cors.length = nc at *
 generalize H.wals.length = nw at *
 have nb : b ≠ w.heap.size := Nat.ne_of_lt hb
 have HLF := look_set (b := M) (ns := ms)
 have HW := whole_any
 cases q0 : hasName ms fl
 · rw [q0] at HE
   simp only [if_true] at HE
   have hE := HE.out
   subst hE
   clear HE
   go_enter Tryz.func70, Tryz.ntmps70
   go_wp2
   (refine tmX (by kernel_rfl) (by kernel_rfl) ?_); (repeat (first | (refine tmS rfl ?_; simp only [Act.put, List.setIfInBounds_toArray, List.set_cons_succ, List.set_cons_zero]) | (refine tmP rfl rfl rfl (fun K hK => ?_); go_big_quiet_op; refine hK _ ?_; clear hK K) | (refine tmE rfl rfl (fun K hK => ?_); go_big_op; (first | fail | skip); (refine hK _ _ rfl (ext_of_below (by (repeat' first | with_reducible (first | apply bz0 | assumption | apply bz1 | apply bz2 | apply bz3 | apply bz4 | apply bz5) | (simp <;> omega)))) ?_; clear hK K)))); (refine tmN ?_)
   go_wp2_with (go_at_call 124; refine (whole_any _ _).mono ?_; rintro e w' ⟨rfl, x2, rfl⟩); refine bodyPost_ret ?_ rfl (retX rfl ?_); (simp [results, Tryz.results70, go_sem]); (repeat' first | with_reducible (first | apply bz0 | assumption | apply bz1 | apply bz2 | apply bz3 | apply bz4 | apply bz5) | (simp <;> omega))
 rw [q0] at HE
 simp only [Bool.true_eq_false, if_false] at HE
 cases q1 : hasName ms ce
 · rw [q1] at HE
   simp only [if_true] at HE
   have hE := HE.out
   subst hE
   clear HE
   go_enter Tryz.func70, Tryz.ntmps70
   go_wp2
   (refine tmX (by kernel_rfl) (by kernel_rfl) ?_); (repeat (first | (refine tmS rfl ?_; simp only [Act.put, List.setIfInBounds_toArray, List.set_cons_succ, List.set_cons_zero]) | (refine tmP rfl rfl rfl (fun K hK => ?_); go_big_quiet_op; refine hK _ ?_; clear hK K) | (refine tmE rfl rfl (fun K hK => ?_); go_big_op; (first | fail | skip); (refine hK _ _ rfl (ext_of_below (by (repeat' first | with_reducible (first | apply bz0 | assumption | apply bz1 | apply bz2 | apply bz3 | apply bz4 | apply bz5) | (simp <;> omega)))) ?_; clear hK K)))); (refine tmN ?_)
   go_wp2_with (go_at_call 124; refine (whole_any _ _).mono ?_; rintro e w' ⟨rfl, x2, rfl⟩); refine bodyPost_ret ?_ rfl (retX rfl ?_); (simp [results, Tryz.results70, go_sem]); (repeat' first | with_reducible (first | apply bz0 | assumption | apply bz1 | apply bz2 | apply bz3 | apply bz4 | apply bz5) | (simp <;> omega))
 rw [q1] at HE
 simp only [Bool.true_eq_false, if_false] at HE
 cases q2 : decide ((nc : Int) < 3) with
 | true =>
  have hE := HE.out
  rw [if_pos (by simp at q2; omega)] at hE
  subst hE
  clear HE
  go_enter Tryz.func70, Tryz.ntmps70
  go_wp2
  (refine tmX (by kernel_rfl) (by kernel_rfl) ?_); (repeat (first | (refine tmS rfl ?_; simp only [Act.put, List.setIfInBounds_toArray, List.set_cons_succ, List.set_cons_zero]) | (refine tmP rfl rfl rfl (fun K hK => ?_); go_big_quiet_op; refine hK _ ?_; clear hK K) | (refine tmE rfl rfl (fun K hK => ?_); go_big_op; (first | fail | skip); (refine hK _ _ rfl (ext_of_below (by (repeat' first | with_reducible (first | apply bz0 | assumption | apply bz1 | apply bz2 | apply bz3 | apply bz4 | apply bz5) | (simp <;> omega)))) ?_; clear hK K)))); (refine tmN ?_)
  go_wp2
  (refine tmX (by kernel_rfl) (by kernel_rfl) ?_); (repeat (first | (refine tmS rfl ?_; simp only [Act.put, List.setIfInBounds_toArray, List.set_cons_succ, List.set_cons_zero]) | (refine tmP rfl rfl rfl (fun K hK => ?_); go_big_quiet_op; refine hK _ ?_; clear hK K) | (refine tmE rfl rfl (fun K hK => ?_); go_big_op; (first | fail | skip); (refine hK _ _ rfl (ext_of_below (by (repeat' first | with_reducible (first | apply bz0 | assumption | apply bz1 | apply bz2 | apply bz3 | apply bz4 | apply bz5) | (simp <;> omega)))) ?_; clear hK K)))); (refine tmN ?_)
  go_wp2_with (go_at_call 124; refine (whole_any _ _).mono ?_; rintro e w' ⟨rfl, x2, rfl⟩); refine bodyPost_ret ?_ rfl (retX rfl ?_); (simp [results, Tryz.results70, go_sem]); (repeat' first | with_reducible (first | apply bz0 | assumption | apply bz1 | apply bz2 | apply bz3 | apply bz4 | apply bz5) | (simp <;> omega))
 | false =>
  cases q3 : ((nw : Int) != (nc : Int)) with
  | true =>
   have hE := HE.out
   rw [if_neg (by simp at q2; omega), if_pos (by simp at q3; omega)] at hE
   subst hE
   clear HE
   go_enter Tryz.func70, Tryz.ntmps70
   go_wp2
   (refine tmX (by kernel_rfl) (by kernel_rfl) ?_); (repeat (first | (refine tmS rfl ?_; simp only [Act.put, List.setIfInBounds_toArray, List.set_cons_succ, List.set_cons_zero]) | (refine tmP rfl rfl rfl (fun K hK => ?_); go_big_quiet_op; refine hK _ ?_; clear hK K) | (refine tmE rfl rfl (fun K hK => ?_); go_big_op; (first | fail | skip); (refine hK _ _ rfl (ext_of_below (by (repeat' first | with_reducible (first | apply bz0 | assumption | apply bz1 | apply bz2 | apply bz3 | apply bz4 | apply bz5) | (simp <;> omega)))) ?_; clear hK K)))); (refine tmN ?_)
   go_wp2
   (refine tmX (by kernel_rfl) (by kernel_rfl) ?_); (repeat (first | (refine tmS rfl ?_; simp only [Act.put, List.setIfInBounds_toArray, List.set_cons_succ, List.set_cons_zero]) | (refine tmP rfl rfl rfl (fun K hK => ?_); go_big_quiet_op; refine hK _ ?_; clear hK K) | (refine tmE rfl rfl (fun K hK => ?_); go_big_op; (first | fail | skip); (refine hK _ _ rfl (ext_of_below (by (repeat' first | with_reducible (first | apply bz0 | assumption | apply bz1 | apply bz2 | apply bz3 | apply bz4 | apply bz5) | (simp <;> omega)))) ?_; clear hK K)))); (refine tmN ?_)
   go_wp2_with (go_at_call 124; refine (whole_any _ _).mono ?_; rintro e w' ⟨rfl, x2, rfl⟩); refine bodyPost_ret ?_ rfl (retX rfl ?_); (simp [results, Tryz.results70, go_sem]); (repeat' first | with_reducible (first | apply bz0 | assumption | apply bz1 | apply bz2 | apply bz3 | apply bz4 | apply bz5) | (simp <;> omega))
  | false =>
   have q4 : ((nw : Int) == (nc : Int)) = true := by simp at q3 ⊢; omega
   have hE0 := HE.out
   rw [if_neg (by simp at q2; omega), if_neg (by simp at q3; omega)] at hE0
   cases q5 : decide ((12 : Int) < (nw : Int)) with
   | true =>
    rw [if_pos (by simp at q5; omega)] at hE0
    subst hE0
    clear HE
    go_enter Tryz.func70, Tryz.ntmps70
    go_wp2
    (refine tmX (by kernel_rfl) (by kernel_rfl) ?_); (repeat (first | (refine tmS rfl ?_; simp only [Act.put, List.setIfInBounds_toArray, List.set_cons_succ, List.set_cons_zero]) | (refine tmP rfl rfl rfl (fun K hK => ?_); go_big_quiet_op; refine hK _ ?_; clear hK K) | (refine tmE rfl rfl (fun K hK => ?_); go_big_op; (first | fail | skip); (refine hK _ _ rfl (ext_of_below (by (repeat' first | with_reducible (first | apply bz0 | assumption | apply bz1 | apply bz2 | apply bz3 | apply bz4 | apply bz5) | (simp <;> omega)))) ?_; clear hK K)))); (refine tmN ?_)
    go_wp2
    (refine tmX (by kernel_rfl) (by kernel_rfl) ?_); (repeat (first | (refine tmS rfl ?_; simp only [Act.put, List.setIfInBounds_toArray, List.set_cons_succ, List.set_cons_zero]) | (refine tmP rfl rfl rfl (fun K hK => ?_); go_big_quiet_op; refine hK _ ?_; clear hK K) | (refine tmE rfl rfl (fun K hK => ?_); go_big_op; (first | fail | skip); (refine hK _ _ rfl (ext_of_below (by (repeat' first | with_reducible (first | apply bz0 | assumption | apply bz1 | apply bz2 | apply bz3 | apply bz4 | apply bz5) | (simp <;> omega)))) ?_; clear hK K)))); (refine tmN ?_)
    go_wp2_with (go_at_call 124; refine (whole_any _ _).mono ?_; rintro e w' ⟨rfl, x2, rfl⟩); refine bodyPost_ret ?_ rfl (retX rfl ?_); (simp [results, Tryz.results70, go_sem]); (repeat' first | with_reducible (first | apply bz0 | assumption | apply bz1 | apply bz2 | apply bz3 | apply bz4 | apply bz5) | (simp <;> omega))
   | false =>
    rw [if_neg (by simp at q5; omega)] at hE0
    subst hE0
    clear HE
    go_enter Tryz.func70, Tryz.ntmps70
    go_wp2
    (refine tmX (by kernel_rfl) (by kernel_rfl) ?_); (repeat (first | (refine tmS rfl ?_; simp only [Act.put, List.setIfInBounds_toArray, List.set_cons_succ, List.set_cons_zero]) | (refine tmP rfl rfl rfl (fun K hK => ?_); go_big_quiet_op; refine hK _ ?_; clear hK K) | (refine tmE rfl rfl (fun K hK => ?_); go_big_op; (first | fail | skip); (refine hK _ _ rfl (ext_of_below (by (repeat' first | with_reducible (first | apply bz0 | assumption | apply bz1 | apply bz2 | apply bz3 | apply bz4 | apply bz5) | (simp <;> omega)))) ?_; clear hK K)))); (refine tmN ?_)
    go_wp2
    (refine tmX (by kernel_rfl) (by kernel_rfl) ?_); (repeat (first | (refine tmS rfl ?_; simp only [Act.put, List.setIfInBounds_toArray, List.set_cons_succ, List.set_cons_zero]) | (refine tmP rfl rfl rfl (fun K hK => ?_); go_big_quiet_op; refine hK _ ?_; clear hK K) | (refine tmE rfl rfl (fun K hK => ?_); go_big_op; (first | fail | skip); (refine hK _ _ rfl (ext_of_below (by (repeat' first | with_reducible (first | apply bz0 | assumption | apply bz1 | apply bz2 | apply bz3 | apply bz4 | apply bz5) | (simp <;> omega)))) ?_; clear hK K)))); (refine tmN ?_)
    go_wp2_with (go_at_call 124; refine (whole_any _ _).mono ?_; rintro e w' ⟨rfl, x2, rfl⟩); refine bodyPost_ret ?_ rfl (retX rfl ?_); (simp [results, Tryz.results70, go_sem]); (repeat' first | with_reducible (first | apply bz0 | assumption | apply bz1 | apply bz2 | apply bz3 | apply bz4 | apply bz5) | (simp <;> omega))
end Go.Proofs.YtekieoamelahkaaGreat

/- checkCorners. -/
namespace Go.Proofs.YtekieoamelahkaaGreat
open Go.RowKit

theorem slc2 {W : World} {B : Nat} {x y : Int} (h0 : W.cell? ⟨B, 0, none⟩ = some (.int .i64 x)) (h1 : W.cell? ⟨B, 1, none⟩ = some (.int .i64 y)) : SlcAt encInt W (.slice (some ⟨B, 0, none⟩) 2 2) [x, y] := by
 refine ⟨by simp, _, _, rfl, fun _ => ⟨B, 0, rfl, has_of_cell h0, fun i v hi j hj => ?_⟩⟩
 have hj0 : j = 0 := by have : j < 1 := hj; omega
 subst hj0
 rcases i with _ | _ | i
 · simp at hi; subst hi; exact ⟨_, h0, rfl⟩
 · simp at hi; subst hi; exact ⟨_, h1, rfl⟩
 · simp at hi
theorem beyond2P {x y : Int} (h : beyondB 5000 [x, y] = false) : (-5000 ≤ x ∧ x ≤ 5000) ∧ (-5000 ≤ y ∧ y ≤ 5000) := by
 simp [beyondB, outB] at h
 omega
def cornE (H : Hal) (i : Nat) : Int := if beyondB 5000 [(corAt H.cors i).x, (corAt H.cors i).y] then 2 else 0
theorem cornE_ok {H : Hal} (h : firstBad (cornE H) H.cors.length = none) : CorsIn H := by
 intro k hk
 unfold firstBad at h
 rw [List.find?_eq_none] at h
 have := h k (by simpa using hk)
 simp [cornE] at this
 exact beyond2P this

theorem corn1 {w : World} {b c M F T : Nat} {H : Hal} (hS : SurAt w b H M F T) (hc : w.cell? ⟨c, 0, none⟩ = some (.pointer (some ⟨b, 0, none⟩))) (i : Nat) (hi : i < H.cors.length) :
 Calls Tryz.prog 128 #[.int .i64 i, .pointer (some ⟨c, 0, none⟩)] w (RetX w (.int .i64 (cornE H i))) := by
 have HE : Hid (cornE H i = if beyondB 5000 [(corAt H.cors i).x, (corAt H.cors i).y] then 2 else 0) := rfl
 obtain ⟨⟨v4, v5, v6, v7, v8, v9, v10, hR⟩, hm, _, _⟩ := hS
 obtain ⟨A, c5, rfl, hS5⟩ := slc_form hR.hal.cors
 obtain ⟨g, o, rfl, hg, hcs⟩ := cor_at hS5 hi
 have l5 := hS5.1
 obtain ⟨k0, k1⟩ := hcs i hi
 have h5 := hR.c5
 have hb := hR.has
 have hch := has_of_cell hc
 clear hR hS5 hcs hm
 generalize (corAt H.cors i).x = x at *
 generalize (corAt H.cors i).y = y at *
 generalize H.cors.length = n at *
 have HY := hidden (fun (W : World) (B : Nat) (h0 : W.cell? ⟨B, 0, none⟩ = some (.int .i64 x)) (h1 : W.cell? ⟨B, 1, none⟩ = some (.int .i64 y)) => beyond_any 5000 (by omega) [x, y] (some ⟨B, 0, none⟩) 2 W (slc2 h0 h1))
 cases q : beyondB 5000 [x, y]
 all_goals
  rw [q] at HE HY
  go_enter Tryz.func128, Tryz.ntmps128
  go_wp2
  (refine tmX (by kernel_rfl) (by kernel_rfl) ?_); (repeat (first | (refine tmS rfl ?_; simp only [Act.put, List.setIfInBounds_toArray, List.set_cons_succ, List.set_cons_zero]) | (refine tmP rfl rfl rfl (fun K hK => ?_); go_big_quiet_op; refine hK _ ?_; clear hK K) | (refine tmE rfl rfl (fun K hK => ?_); go_big_op; (first | (go_at_call 105; refine (HY.out _ _ (by simp [go_sem]) (by simp [go_sem])).mono ?_; rintro e w' ⟨rfl, x1, rfl⟩) | skip); (refine hK _ _ rfl (ext_of_below (by (repeat' first | with_reducible (first | apply bz0 | assumption | apply bz1 | apply bz2 | apply bz3 | apply bz4 | apply bz5) | (simp <;> omega)))) ?_; clear hK K)))); (refine tmN ?_)
  go_wp2
  go_ret
  refine retX_int (by rw [HE.out]; simp) ?_
  (repeat' first | with_reducible (first | apply bz0 | assumption | apply bz1 | apply bz2 | apply bz3 | apply bz4 | apply bz5) | (simp <;> omega))
end Go.Proofs.YtekieoamelahkaaGreat
