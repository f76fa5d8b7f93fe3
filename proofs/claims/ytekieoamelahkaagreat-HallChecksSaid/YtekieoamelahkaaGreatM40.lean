/- Lists of texts; Texts. -/
import Derived.Test.YtekieoamelahkaaGreatM25
import Derived.Test.YtekieoamelahkaaGreatM22
import Derived.Test.YtekieoamelahkaaGreatM39
set_option maxRecDepth 100000
set_option maxHeartbeats 1000000
set_option linter.unusedVariables false
set_option linter.unusedSimpArgs false
namespace Go.Proofs.YtekieoamelahkaaGreat
open Go.RowKit Go.Shelf

def encStr : Enc ByteArray := { size := 1, at_ := fun _ n _ v => v = .string n, keep := fun _ h => h }
def strAt (l : List ByteArray) (i : Nat) : ByteArray := (l[i]?).getD .empty
theorem str_at {w : World} {A : Option Addr} {n c : Nat} {xs : List ByteArray} (h : SlcAt encStr w (.slice A n c) xs) {i : Nat} (hi : i < xs.length) :
 ∃ g o, A = some ⟨g, o, none⟩ ∧ w.Has g ∧ ∀ k, k < xs.length → w.cell? ⟨g, o + k, none⟩ = some (.string (strAt xs k)) := by
 obtain ⟨g, o, hA, hg, hc⟩ := slc_at h hi
 refine ⟨g, o, hA, hg, fun k hk => ?_⟩
 have h1 := hc k xs[k] (List.getElem?_eq_getElem hk)
 obtain ⟨u0, e0, q0⟩ := h1 0 (by decide)
 have q : strAt xs k = xs[k] := by unfold strAt; rw [List.getElem?_eq_getElem hk]; rfl
 rw [q]
 simp only [encStr] at e0 q0
 subst q0
 simpa using e0
theorem info_str : (Tryz.prog.info? 9).map (fun i => (i.zero, i.size, i.bytes)) = some (some (.string .empty), 1, 16) := by kernel_rfl
theorem u_strs : Tryz.prog.underlying 37 = some (.slice 9) := by kernel_rfl
theorem own_str {w : World} {base : Nat} {e : TypeId} {v : Value} {xs : List ByteArray} (h : w.ownsRow base e 1 v xs.length (xs.map Value.string)) (hl : xs.length ≤ 1000000) : SlcAt encStr w v xs := by
 refine own_flat (E := encStr) (f := fun x _ => .string x) (fun _ _ _ _ => rfl) (base := base) (e := e) ?_ hl
 have : flat (fun (x : ByteArray) (_ : Nat) => Value.string x) encStr.size xs = xs.map Value.string := by
  unfold flat
  induction xs with
  | nil => rfl
  | cons x xs ih =>
   rw [List.flatMap_cons, List.map_cons]
   show [Value.string x] ++ _ = _
   rw [show List.flatMap (fun x => List.map (fun _ => Value.string x) (List.range encStr.size)) xs = List.map Value.string xs from by
    clear h hl ih
    induction xs with
    | nil => rfl
    | cons y ys ih => rw [List.flatMap_cons, ih]; rfl]
   rfl
 rw [this]
 exact h
theorem strs_no {xs ys : List ByteArray} {k : Nat} (hl : xs.length = ys.length) (h : (strAt xs k).toList ≠ (strAt ys k).toList) : decide (xs = ys) = false := by
 apply decide_eq_false
 rintro rfl
 exact h rfl
theorem strs_yes {xs ys : List ByteArray} (hl : xs.length = ys.length) (h : ∀ k, k < xs.length → (strAt xs k).toList = (strAt ys k).toList) : decide (xs = ys) = true := by
 apply decide_eq_true
 apply List.ext_getElem hl
 intro k h1 h2
 have := h k h1
 unfold strAt at this
 rw [List.getElem?_eq_getElem h1, List.getElem?_eq_getElem h2] at this
 simp only [Option.getD_some] at this
 have e := nm_eq xs[k] ys[k]
 rw [this] at e
 rw [beq_self_eq_true] at e
 have e2 : (ys[k].data == xs[k].data) = true := e.symm
 exact ByteArray.ext (eq_of_beq e2).symm
def surfN (H : Hal) : List ByteArray := H.wals.map (·.name) ++ [floorN, ceilN] ++ H.cans.map (·.name)
theorem take_names {α : Type} (f : α → ByteArray) (l : List α) (k : Nat) (h : k < l.length) : (l.take (k + 1)).map f = (l.take k).map f ++ [f (l[k])] := by
 rw [List.take_add_one, List.getElem?_eq_getElem h, List.map_append]
 rfl

theorem Texts_any (xs ys : List ByteArray) (A A' : Option Addr) (c c' : Nat) (w : World) (hX : SlcAt encStr w (.slice A xs.length c) xs) (hY : SlcAt encStr w (.slice A' ys.length c') ys) :
 Calls Tryz.prog 21 #[.slice A xs.length c, .slice A' ys.length c'] w (RetX w (.bool (decide (xs = ys)))) := by
 have hl := hX.1
 have hl' := hY.1
 refine (callsIn_wide (n := 10)).1 ?_
 refine callsIn_of_wp Tryz.func21 rfl trivial ?_ rfl
 simp only [Tryz.ntmps21, nt, Nat.reduceAdd, Nat.reduceSub]
 by_cases hn : xs.length = ys.length
 · have q1 : ((xs.length : Int) != (ys.length : Int)) = false := by simp [hn]
   gi_wp2
   gi_loopw [5] (fun i wr => ∃ k : Nat, i = .int .i64 k ∧ k ≤ xs.length ∧ Below w.heap.size w wr ∧ ∀ j, j < k → (strAt xs j).toList = (strAt ys j).toList) (fun i _ => xs.length - (intOf i).toNat)
   case atStart => exact ⟨0, rfl, Nat.zero_le _, Below.refl _ _, fun j hj => absurd hj (Nat.not_lt_zero j)⟩
   case round =>
    obtain ⟨k, rfl, hk, hB, hno⟩ := hrel
    have hgs := hB.size
    rcases Nat.lt_or_ge k xs.length with hlt | hge
    · obtain ⟨g, o, rfl, hg, hcs⟩ := str_at (hX.below hB) hlt
      obtain ⟨g', o', rfl, hg', hcs'⟩ := str_at (hY.below hB) (show k < ys.length by omega)
      have k0 := hcs k hlt
      have k1 := hcs' k (by omega)
      have hst := hidden (fun h => strs_no (xs := xs) (ys := ys) (k := k) hn h)
      have hgo : Hid ((strAt xs k).toList = (strAt ys k).toList → ∀ j, j < k + 1 → (strAt xs j).toList = (strAt ys j).toList) := fun he j hj => by
       rcases Nat.lt_or_ge j k with h | h
       · exact hno j h
       · obtain rfl : j = k := by omega
         exact he
      clear hcs hcs' hX hY hno
      generalize strAt xs k = a at *
      generalize strAt ys k = b at *
      generalize xs.length = N at *
      generalize ys.length = M at *
      subst hn
      cases q : (a.toList == b.toList) with
      | false =>
       have hz := hidden (hst.out (by simpa using q))
       gi_wp2
       refine wpIn_wide.2 ?_
       (refine tmX (by kernel_rfl) (by kernel_rfl) ?_); (repeat (first | (refine tmS rfl ?_; simp only [Act.put, List.setIfInBounds_toArray, List.set_cons_succ, List.set_cons_zero]) | (refine tmP rfl rfl rfl (fun K hK => ?_); go_big_quiet_op; refine hK _ ?_; clear hK K) | (refine tmE rfl rfl (fun K hK => ?_); go_big_op; (first | fail | skip); (refine hK _ _ rfl (ext_of_below (by (repeat' first | with_reducible (first | apply bz0 | assumption | apply bz1 | apply bz2 | apply bz3 | apply bz4 | apply bz5) | (simp <;> omega)))) ?_; clear hK K)))); (refine tmN ?_)
       gi_wp2
       refine bodyPost_ret (v := .bool false) (by simp [results, Tryz.results21, go_sem]) rfl (retX (by rw [hz.out]) (hB.trans (by (repeat' first | with_reducible (first | apply bz0 | assumption | apply bz1 | apply bz2 | apply bz3 | apply bz4 | apply bz5) | (simp <;> omega)))))
      | true =>
       have hz := hidden (hgo.out (by simpa using q))
       gi_wp2
       refine wpIn_wide.2 ?_
       (refine tmX (by kernel_rfl) (by kernel_rfl) ?_); (repeat (first | (refine tmS rfl ?_; simp only [Act.put, List.setIfInBounds_toArray, List.set_cons_succ, List.set_cons_zero]) | (refine tmP rfl rfl rfl (fun K hK => ?_); go_big_quiet_op; refine hK _ ?_; clear hK K) | (refine tmE rfl rfl (fun K hK => ?_); go_big_op; (first | fail | skip); (refine hK _ _ rfl (ext_of_below (by (repeat' first | with_reducible (first | apply bz0 | assumption | apply bz1 | apply bz2 | apply bz3 | apply bz4 | apply bz5) | (simp <;> omega)))) ?_; clear hK K)))); (refine tmN ?_)
       gi_wp2
       exact ⟨⟨k + 1, by simp, by omega, hB.trans ((show Below wr.heap.size wr _ by (repeat' first | with_reducible (first | apply bz0 | assumption | apply bz1 | apply bz2 | apply bz3 | apply bz4 | apply bz5) | (simp <;> omega))).lower hB.size), hz.out⟩, by simp [intOf]; omega⟩
    · obtain rfl : k = xs.length := by omega
      have hz := hidden (strs_yes hn hno)
      gi_wp2
      refine bodyPost_ret (v := .bool true) (by simp [results, Tryz.results21, go_sem]) rfl (retX (by rw [hz.out]) hB)
 · have q1 : ((xs.length : Int) != (ys.length : Int)) = true := by simp; omega
   have hz : Hid (decide (xs = ys) = false) := decide_eq_false (fun h => hn (by rw [h]))
   generalize xs.length = n at *
   generalize ys.length = m at *
   gi_wp2
   refine bodyPost_ret (v := .bool false) (by simp [results, Tryz.results21, go_sem]) rfl (retX (by rw [hz.out]) ?_)
   (repeat' first | with_reducible (first | apply bz0 | assumption | apply bz1 | apply bz2 | apply bz3 | apply bz4 | apply bz5) | (simp <;> omega))
end Go.Proofs.YtekieoamelahkaaGreat

/- The names of the surfaces: the reference. -/
namespace Go.Proofs.YtekieoamelahkaaGreat
open Go.RowKit Go.Shelf
attribute [local go_sem] Oper.semAt_some

set_option maxRecDepth 100000 in set_option maxHeartbeats 4000000 in
theorem refSurfaces_any {w : World} {H : Hal} {v4 v5 v6 v7 v8 : Value} (hV : HalVs w v4 v5 v6 v7 v8 H) (hw : H.wals.length ≤ 1000) (hc : H.cans.length ≤ 1000) :
 Calls Tryz.prog 22 #[halV H v4 v5 v6 v7 v8] w (fun e w' => Below w.heap.size w w' ∧ ∃ v, e = .returned v ∧ SlcAt encStr w' v (surfN H)) := by
 obtain ⟨_, g4, g5, g6, g7, g8⟩ := hV
 obtain ⟨A4, c4, rfl, _⟩ := slc_form g4
 obtain ⟨A5, c5, rfl, _⟩ := slc_form g5
 obtain ⟨A6, c6, rfl, hS6⟩ := slc_form g6
 obtain ⟨A7, c7, rfl, hS7⟩ := slc_form g7
 obtain ⟨A8, c8, rfl, _⟩ := slc_form g8
 have l6 := hS6.1
 have l7 := hS7.1
 clear g4 g5 g6 g7 g8
 unfold halV
 obtain ⟨iS, hiS, hzS, haS, hbS⟩ := info_parts info_str
 go_enter Tryz.func22, Tryz.ntmps22
 go_wp2
 generalize hX : World.alloc _ _ = X
 have x6 : X.cell? ⟨w.heap.size, 6, none⟩ = some (.slice A6 H.wals.length c6) := by rw [← hX]; simp [go_sem]
 have x7 : X.cell? ⟨w.heap.size, 7, none⟩ = some (.slice A7 H.cans.length c7) := by rw [← hX]; simp [go_sem]
 have BX : Below w.heap.size w X := by rw [← hX]; (repeat' first | with_reducible (first | apply bz0 | assumption | apply bz1 | apply bz2 | apply bz3 | apply bz4 | apply bz5) | (simp <;> omega))
 have hsX : X.heap.size = w.heap.size + 1 := by rw [← hX]; simp
 have gx := has_of_cell x6
 replace hsX := hidden hsX
 clear hX
 go_loopw [3, 4] (fun l i wr => ∃ k : Nat, k ≤ H.wals.length ∧ i = .int .i64 k ∧ wr.ownsRow X.heap.size 9 1 l k (((H.wals.take k).map (·.name)).map Value.string) ∧ Below X.heap.size X wr) (fun _ i _ => H.wals.length - (intOf i).toNat)
 case atStart => exact ⟨0, Nat.zero_le _, rfl, World.ownsRow_nil _ _ _ _, Below.refl _ _⟩
 case round =>
  obtain ⟨k, hk, rfl, hown, hB⟩ := hrel
  have hBw := BX.trans (hB.lower BX.size)
  have hgs := hB.size
  replace x6 := cell_below hB gx x6
  replace x7 := cell_below hB gx x7
  replace gx := has_of_cell x6
  have hlo := hown.lt
  have hgl : w.heap.size < wr.heap.size := gx
  obtain ⟨Al, cl, rfl⟩ := own_form hown
  rcases Nat.lt_or_ge k H.wals.length with hlt | hge
  · obtain ⟨g, o, rfl, hg, hcs⟩ := wal_at (hS6.below hBw) hlt
    obtain ⟨k0, _, _⟩ := hcs k hlt
    have e1 : (walAt H.wals k).name = (H.wals[k]).name := by unfold walAt; rw [List.getElem?_eq_getElem hlt]; rfl
    have htk := take_names (·.name) H.wals k hlt
    rw [← e1] at htk
    clear hcs e1
    generalize (walAt H.wals k).name = nm at *
    have htk2 : Hid (((H.wals.take (k + 1)).map (·.name)).map Value.string = ((H.wals.take k).map (·.name)).map Value.string ++ [.string nm]) := by unfold Hid; rw [htk, List.map_append]; rfl
    clear htk
    generalize ((H.wals.take k).map (·.name)).map Value.string = L at *
    go_wp2_with (first
     | (at_builtin; refine wpList_append_own _ rfl _ _ 37 rfl X.heap.size 9 iS (.string .empty) 1 16 u_strs hiS hzS haS hbS rfl (by decide) _ _ _ rfl (hown.alloc _) ⟨wr.heap.size, 0, none⟩ 1 1 [.string nm] rfl rfl ?c1 ?c2 ?c3 ?c4 ?c5 ?_))
    case c1 => intro j u hj; (match j, hj with | 0, hj => (simp at hj; subst hj; simp [go_sem, Addr.add]))
    case c2 => intro u hu; simp at hu; first | (subst hu; rfl) | (rcases hu with rfl | rfl <;> rfl)
    case c3 => unfold maxLen; omega
    case c4 => omega
    case c5 => simp; omega
    intro v' w1 hown' hgrow _
    have hB' : Below X.heap.size X w1 := Below.grown (show Below X.heap.size X _ by (repeat' first | with_reducible (first | apply bz0 | assumption | apply bz1 | apply bz2 | apply bz3 | apply bz4 | apply bz5) | (simp <;> omega))) hgrow (by simp; omega) (fun j hj => (hlo j hj).1)
    have hown2 : w1.ownsRow X.heap.size 9 1 v' (k + 1) (((H.wals.take (k + 1)).map (·.name)).map Value.string) := by rw [htk2.out]; exact hown'
    clear hown' hgrow hown hB hBw
    go_wp2
    exact ⟨⟨k + 1, by omega, by simp, hown2, hB'⟩, by simp [intOf]; omega⟩
  · obtain rfl : k = H.wals.length := by omega
    rw [List.take_length] at hown
    have hL3 : Hid ((H.wals.map (·.name) ++ [floorN, ceilN] ++ (H.cans.take 0).map (·.name)).map Value.string = (H.wals.map (·.name)).map Value.string ++ [.string ⟨#[102, 108, 111, 111, 114]⟩, .string ⟨#[99, 101, 105, 108, 105, 110, 103]⟩]) := by unfold Hid; rw [List.take_zero, List.map_nil, List.append_nil, List.map_append]; rfl
    generalize (H.wals.map (·.name)).map Value.string = L at *
    clear hS6
    go_wp2_with (first
     | (at_builtin; refine wpList_append_own _ rfl _ _ 37 rfl X.heap.size 9 iS (.string .empty) 1 16 u_strs hiS hzS haS hbS rfl (by decide) _ _ _ rfl (hown.alloc _) ⟨wr.heap.size, 0, none⟩ 2 2 [.string ⟨#[102, 108, 111, 111, 114]⟩, .string ⟨#[99, 101, 105, 108, 105, 110, 103]⟩] rfl rfl ?c1 ?c2 ?c3 ?c4 ?c5 ?_))
    case c1 => intro j u hj; (match j, hj with | 0, hj => (simp at hj; subst hj; simp [go_sem, Addr.add]) | 1, hj => (simp at hj; subst hj; simp [go_sem, Addr.add]))
    case c2 => intro u hu; simp at hu; first | (subst hu; rfl) | (rcases hu with rfl | rfl <;> rfl)
    case c3 => unfold maxLen; omega
    case c4 => omega
    case c5 => simp; omega
    intro v' w1 hown' hgrow _
    have hB2 : Below X.heap.size X w1 := Below.grown (show Below X.heap.size X _ by (repeat' first | with_reducible (first | apply bz0 | assumption | apply bz1 | apply bz2 | apply bz3 | apply bz4 | apply bz5) | (simp <;> omega))) hgrow (by simp; omega) (fun j hj => (hlo j hj).1)
    have hs2 := hgrow.size
    simp at hs2
    replace x7 : w1.cell? ⟨w.heap.size, 7, none⟩ = some (.slice A7 H.cans.length c7) := (World.cell?_of_block (a := ⟨w.heap.size, 7, none⟩) (hgrow.block w.heap.size (by simp; omega) (fun h => by have := (hlo _ h.symm).1; have := hsX.out; omega))).trans (by simp [go_sem, x7, gx])
    replace gx := has_of_cell x7
    clear hgrow hown hB hBw x6 hlo
    have hown3 : w1.ownsRow X.heap.size 9 1 v' (H.wals.length + 2 + 0) ((H.wals.map (·.name) ++ [floorN, ceilN] ++ (H.cans.take 0).map (·.name)).map Value.string) := by
     rw [hL3.out]
     exact hown'
    clear hown'
    go_wp2
    go_loopw [3, 5] (fun l i wr => ∃ k : Nat, k ≤ H.cans.length ∧ i = .int .i64 k ∧ wr.ownsRow X.heap.size 9 1 l (H.wals.length + 2 + k) ((H.wals.map (·.name) ++ [floorN, ceilN] ++ (H.cans.take k).map (·.name)).map Value.string) ∧ Below X.heap.size X wr ∧ wr.cell? ⟨w.heap.size, 7, none⟩ = some (.slice A7 H.cans.length c7)) (fun _ i _ => H.cans.length - (intOf i).toNat)
    case atStart => exact ⟨0, Nat.zero_le _, rfl, hown3, hB2, x7⟩
    case round =>
     clear x7 gx hB2 hown3
     obtain ⟨k, hk, rfl, hown, hB, x7⟩ := hrel
     have gx := has_of_cell x7
     have hBw := BX.trans (hB.lower BX.size)
     have hgs := hB.size
     have hlo := hown.lt
     have hgl : w.heap.size < wr.heap.size := gx
     obtain ⟨Al, cl, rfl⟩ := own_form hown
     rcases Nat.lt_or_ge k H.cans.length with hlt | hge
     · obtain ⟨g, o, rfl, hg, hcs⟩ := can_at (hS7.below hBw) hlt
       obtain ⟨k0, _⟩ := hcs k hlt
       have e1 : (canAt H.cans k).name = (H.cans[k]).name := by unfold canAt; rw [List.getElem?_eq_getElem hlt]; rfl
       have htk := take_names (·.name) H.cans k hlt
       rw [← e1] at htk
       clear hcs e1
       generalize (canAt H.cans k).name = nm at *
       have htk2 : Hid ((H.wals.map (·.name) ++ [floorN, ceilN] ++ (H.cans.take (k + 1)).map (·.name)).map Value.string = (H.wals.map (·.name) ++ [floorN, ceilN] ++ (H.cans.take k).map (·.name)).map Value.string ++ [.string nm]) := by unfold Hid; rw [htk, ← List.append_assoc, List.map_append]; rfl
       clear htk
       generalize (H.wals.map (·.name) ++ [floorN, ceilN] ++ (H.cans.take k).map (·.name)).map Value.string = L at *
       go_wp2_with (first
        | (at_builtin; refine wpList_append_own _ rfl _ _ 37 rfl X.heap.size 9 iS (.string .empty) 1 16 u_strs hiS hzS haS hbS rfl (by decide) _ _ _ rfl (hown.alloc _) ⟨wr.heap.size, 0, none⟩ 1 1 [.string nm] rfl rfl ?c1 ?c2 ?c3 ?c4 ?c5 ?_))
       case c1 => intro j u hj; (match j, hj with | 0, hj => (simp at hj; subst hj; simp [go_sem, Addr.add]))
       case c2 => intro u hu; simp at hu; first | (subst hu; rfl) | (rcases hu with rfl | rfl <;> rfl)
       case c3 => unfold maxLen; omega
       case c4 => omega
       case c5 => simp; omega
       intro v' w1 hown' hgrow _
       have hB' : Below X.heap.size X w1 := Below.grown (show Below X.heap.size X _ by (repeat' first | with_reducible (first | apply bz0 | assumption | apply bz1 | apply bz2 | apply bz3 | apply bz4 | apply bz5) | (simp <;> omega))) hgrow (by simp; omega) (fun j hj => (hlo j hj).1)
       have hown2 : w1.ownsRow X.heap.size 9 1 v' (H.wals.length + 2 + (k + 1)) ((H.wals.map (·.name) ++ [floorN, ceilN] ++ (H.cans.take (k + 1)).map (·.name)).map Value.string) := by rw [htk2.out]; exact hown'
       replace x7 : w1.cell? ⟨w.heap.size, 7, none⟩ = some (.slice (some ⟨g, o, none⟩) H.cans.length c7) := (World.cell?_of_block (a := ⟨w.heap.size, 7, none⟩) (hgrow.block w.heap.size (by simp; omega) (fun h => by have := (hlo _ h.symm).1; have := hsX.out; omega))).trans (by simp [go_sem, x7, gx])
       clear hown' hgrow hown hB hBw
       go_wp2
       exact ⟨⟨k + 1, by omega, by simp, hown2, hB', x7⟩, by simp [intOf]; omega⟩
     · obtain rfl : k = H.cans.length := by omega
       rw [List.take_length] at hown
       go_wp2
       go_ret
       refine ⟨hBw, _, rfl, ?_⟩
       have hln : (surfN H).length = H.wals.length + 2 + H.cans.length := by unfold surfN; simp <;> omega
       refine own_str (base := X.heap.size) (e := 9) ?_ (by rw [hln]; omega)
       rw [hln]
       exact hown
end Go.Proofs.YtekieoamelahkaaGreat
