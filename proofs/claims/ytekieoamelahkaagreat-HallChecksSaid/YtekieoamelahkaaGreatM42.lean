/- The names of the surfaces: package hall. -/
import Derived.Test.YtekieoamelahkaaGreatM40
import Derived.Test.YtekieoamelahkaaGreatM22
import Derived.Test.YtekieoamelahkaaGreatM41
import Derived.Test.YtekieoamelahkaaGreatM38
set_option linter.unusedVariables false
set_option linter.unusedSimpArgs false
namespace Go.Proofs.YtekieoamelahkaaGreat
open Go.RowKit Go.Shelf
attribute [local go_sem] Oper.semAt_some

set_option maxRecDepth 100000 in set_option maxHeartbeats 4000000 in
theorem Surfaces_bad {w : World} {H : Hal} {v4 v5 v6 v7 v8 : Value} (hV : HalVs w v4 v5 v6 v7 v8 H) (hE : (hallF H).2.2 ≠ 0) :
 Calls Tryz.prog 19 #[halV H v4 v5 v6 v7 v8] w (RetX w (.tuple #[.slice none 0 0, .int .i64 (hallF H).2.2])) := by
 have HC := hidden (fun (W : World) (hW : Below w.heap.size w W) => visit_bad (hV.below hW) hE)
 generalize (hallF H).2.2 = z at *
 have q4 : (z != 0) = true := by simp [hE]
 have q5 : (z == 0) = false := by simp [hE]
 obtain ⟨_, g4, g5, g6, g7, g8⟩ := hV
 obtain ⟨A4, c4, rfl, _⟩ := slc_form g4
 obtain ⟨A5, c5, rfl, _⟩ := slc_form g5
 obtain ⟨A6, c6, rfl, _⟩ := slc_form g6
 obtain ⟨A7, c7, rfl, _⟩ := slc_form g7
 obtain ⟨A8, c8, rfl, _⟩ := slc_form g8
 clear g4 g5 g6 g7 g8
 unfold halV at *
 go_enter Tryz.func19, Tryz.ntmps19
 go_wp2_with (go_at_call 77; refine (HC.out _ (by (repeat' first | with_reducible (first | apply bz0 | assumption | apply bz1 | apply bz2 | apply bz3 | apply bz4 | apply bz5) | (simp <;> omega)))).mono ?_; rintro e w' ⟨rfl, x1, rfl⟩)
 refine bodyPost_ret (v := .tuple #[.slice none 0 0, .int .i64 z]) (by simp [results, Tryz.results19, go_sem]) rfl (retX rfl (by (repeat' first | with_reducible (first | apply bz0 | assumption | apply bz1 | apply bz2 | apply bz3 | apply bz4 | apply bz5) | (simp <;> omega))))
set_option maxRecDepth 100000 in set_option maxHeartbeats 4000000 in
theorem Surfaces_good {w : World} {H : Hal} {v4 v5 v6 v7 v8 : Value} (hV : HalVs w v4 v5 v6 v7 v8 H) (hE : (hallF H).2.2 = 0) (hw : H.wals.length ≤ 1000) (hc : H.cans.length ≤ 1000) :
 Calls Tryz.prog 19 #[halV H v4 v5 v6 v7 v8] w (fun e w' => Below w.heap.size w w' ∧ ∃ v, e = .returned (.tuple #[v, .int .i64 0]) ∧ SlcAt encStr w' v (surfN H)) := by
 have HC := hidden (fun (W : World) (hW : Below w.heap.size w W) => visit_good (hV.below hW) hE)
 clear hE
 obtain ⟨_, g4, g5, g6, g7, g8⟩ := hV
 obtain ⟨A4, c4, rfl, _⟩ := slc_form g4
 obtain ⟨A5, c5, rfl, _⟩ := slc_form g5
 obtain ⟨A6, c6, rfl, hS6⟩ := slc_form g6
 obtain ⟨A7, c7, rfl, hS7⟩ := slc_form g7
 obtain ⟨A8, c8, rfl, _⟩ := slc_form g8
 have l6 := hS6.1
 have l7 := hS7.1
 clear g4 g5 g6 g7 g8
 unfold halV at *
 obtain ⟨iS, hiS, hzS, haS, hbS⟩ := info_parts info_str
 go_enter Tryz.func19, Tryz.ntmps19
 go_wp2_with (go_at_call 77; refine (HC.out _ (by (repeat' first | with_reducible (first | apply bz0 | assumption | apply bz1 | apply bz2 | apply bz3 | apply bz4 | apply bz5) | (simp <;> omega)))).mono ?_; rintro e X ⟨hB1, b, hb1, rfl, ⟨_, _, hR1⟩, _⟩; have x6 := hR1.c6; have x7 := hR1.c7)
 have BX : Below w.heap.size w X := (show Below w.heap.size w _ by (repeat' first | with_reducible (first | apply bz0 | assumption | apply bz1 | apply bz2 | apply bz3 | apply bz4 | apply bz5) | (simp <;> omega))).trans (hB1.lower (by simp))
 have gx := has_of_cell x6
 have hsX : Hid (b < X.heap.size) := gx
 clear hR1 HC hB1 hb1
 go_loopw [6, 25] (fun l i wr => ∃ k : Nat, k ≤ H.wals.length ∧ i = .int .i64 k ∧ wr.ownsRow X.heap.size 9 1 l k (((H.wals.take k).map (·.name)).map Value.string) ∧ Below X.heap.size X wr) (fun _ i _ => H.wals.length - (intOf i).toNat)
 case atStart => exact ⟨0, Nat.zero_le _, rfl, World.ownsRow_nil _ _ _ _, Below.refl _ _⟩
 case round =>
  obtain ⟨k, hk, rfl, hown, hB⟩ := hrel
  have hBw := BX.trans (hB.lower BX.size)
  have hgs := hB.size
  replace x6 := cell_below hB gx x6
  replace x7 := cell_below hB gx x7
  replace gx := has_of_cell x6
  have hlo := hown.lt
  have hgl : b < wr.heap.size := gx
  obtain ⟨Al, cl, rfl⟩ := own_form hown
  rcases Nat.lt_or_ge k H.wals.length with hlt | hge
  · obtain ⟨g, o, rfl, hg, hcs⟩ := wal_at (hS6.below hBw) hlt
    obtain ⟨k0, k1, k2⟩ := hcs k hlt
    have e1 : (walAt H.wals k).name = (H.wals[k]).name := by unfold walAt; rw [List.getElem?_eq_getElem hlt]; rfl
    have htk := take_names (·.name) H.wals k hlt
    rw [← e1] at htk
    clear hcs e1
    generalize (walAt H.wals k).name = nm at *
    have htk2 : Hid (((H.wals.take (k + 1)).map (·.name)).map Value.string = ((H.wals.take k).map (·.name)).map Value.string ++ [.string nm]) := by unfold Hid; rw [htk, List.map_append]; rfl
    clear htk
    generalize ((H.wals.take k).map (·.name)).map Value.string = L at *
    go_wp2_with (first
     | (at_builtin; refine wpList_append_own _ rfl _ _ 37 rfl X.heap.size 9 iS (.string .empty) 1 16 u_strs hiS hzS haS hbS rfl (by decide) _ _ _ rfl ((hown.alloc _).alloc _) ⟨wr.heap.size + 1, 0, none⟩ 1 1 [.string nm]  rfl rfl ?c1 ?c2 ?c3 ?c4 ?c5 ?_))
    case c1 => intro j u hj; (match j, hj with | 0, hj => (simp at hj; subst hj; simp [go_sem, Addr.add]))
    case c2 => intro u hu; simp at hu; first | (subst hu; rfl) | (rcases hu with rfl | rfl <;> rfl)
    case c3 => unfold maxLen; omega
    case c4 => omega
    case c5 => simp; omega
    intro v' w1 hown' hgrow _
    have hB' : Below X.heap.size X w1 := Below.grown (show Below X.heap.size X _ by (repeat' first | with_reducible (first | apply bz0 | assumption | apply bz1 | apply bz2 | apply bz3 | apply bz4 | apply bz5) | (simp <;> omega))) hgrow (by simp; omega) (fun j hj => (hlo j hj).1)
    have hown2 : w1.ownsRow X.heap.size 9 1 v' (k + 1) (((H.wals.take (k + 1)).map (·.name)).map Value.string) := by rw [htk2.out]; exact hown'
    clear hown' hgrow hown hB hBw
    go_wp2
    exact ⟨⟨k + 1, by omega, by simp, hown2, hB'⟩, by simp [intOf]; omega⟩
  · obtain rfl : k = H.wals.length := by omega
    rw [List.take_length] at hown
    have hL3 : Hid ((H.wals.map (·.name) ++ [floorN, ceilN] ++ (H.cans.take 0).map (·.name)).map Value.string = (H.wals.map (·.name)).map Value.string ++ [.string ⟨#[102, 108, 111, 111, 114]⟩, .string ⟨#[99, 101, 105, 108, 105, 110, 103]⟩]) := by unfold Hid; rw [List.take_zero, List.map_nil, List.append_nil, List.map_append]; rfl
    generalize (H.wals.map (·.name)).map Value.string = L at *
    clear hS6
    go_wp2_with (first
     | (at_builtin; refine wpList_append_own _ rfl _ _ 37 rfl X.heap.size 9 iS (.string .empty) 1 16 u_strs hiS hzS haS hbS rfl (by decide) _ _ _ rfl (hown.alloc _) ⟨wr.heap.size, 0, none⟩ 2 2 [.string ⟨#[102, 108, 111, 111, 114]⟩, .string ⟨#[99, 101, 105, 108, 105, 110, 103]⟩] rfl rfl ?c1 ?c2 ?c3 ?c4 ?c5 ?_))
    case c1 => intro j u hj; (match j, hj with | 0, hj => (simp at hj; subst hj; simp [go_sem, Addr.add]) | 1, hj => (simp at hj; subst hj; simp [go_sem, Addr.add]))
    case c2 => intro u hu; simp at hu; first | (subst hu; rfl) | (rcases hu with rfl | rfl <;> rfl)
    case c3 => unfold maxLen; omega
    case c4 => omega
    case c5 => simp; omega
    intro v' w1 hown' hgrow _
    have hB2 : Below X.heap.size X w1 := Below.grown (show Below X.heap.size X _ by (repeat' first | with_reducible (first | apply bz0 | assumption | apply bz1 | apply bz2 | apply bz3 | apply bz4 | apply bz5) | (simp <;> omega))) hgrow (by simp; omega) (fun j hj => (hlo j hj).1)
    have hs2 := hgrow.size
    simp at hs2
    replace x7 : w1.cell? ⟨b, 7, none⟩ = some (.slice A7 H.cans.length c7) := (World.cell?_of_block (a := ⟨b, 7, none⟩) (hgrow.block b (by simp; omega) (fun h => by have := (hlo _ h.symm).1; have := hsX.out; omega))).trans (by simp [go_sem, x7, gx])
    replace gx := has_of_cell x7
    clear hgrow hown hB hBw x6 hlo
    have hown3 : w1.ownsRow X.heap.size 9 1 v' (H.wals.length + 2 + 0) ((H.wals.map (·.name) ++ [floorN, ceilN] ++ (H.cans.take 0).map (·.name)).map Value.string) := by
     rw [hL3.out]
     exact hown'
    clear hown'
    go_wp2
    go_loopw [6, 44] (fun l i wr => ∃ k : Nat, k ≤ H.cans.length ∧ i = .int .i64 k ∧ wr.ownsRow X.heap.size 9 1 l (H.wals.length + 2 + k) ((H.wals.map (·.name) ++ [floorN, ceilN] ++ (H.cans.take k).map (·.name)).map Value.string) ∧ Below X.heap.size X wr ∧ wr.cell? ⟨b, 7, none⟩ = some (.slice A7 H.cans.length c7)) (fun _ i _ => H.cans.length - (intOf i).toNat)
    case atStart => exact ⟨0, Nat.zero_le _, rfl, hown3, hB2, x7⟩
    case round =>
     clear x7 gx hB2 hown3
     obtain ⟨k, hk, rfl, hown, hB, x7⟩ := hrel
     have gx := has_of_cell x7
     have hBw := BX.trans (hB.lower BX.size)
     have hgs := hB.size
     have hlo := hown.lt
     have hgl : b < wr.heap.size := gx
     obtain ⟨Al, cl, rfl⟩ := own_form hown
     rcases Nat.lt_or_ge k H.cans.length with hlt | hge
     · obtain ⟨g, o, rfl, hg, hcs⟩ := can_at (hS7.below hBw) hlt
       obtain ⟨k0, k1, k2, k3, k4, k5, A', c', k6, _⟩ := hcs k hlt
       have e1 : (canAt H.cans k).name = (H.cans[k]).name := by unfold canAt; rw [List.getElem?_eq_getElem hlt]; rfl
       have htk := take_names (·.name) H.cans k hlt
       rw [← e1] at htk
       clear hcs e1
       generalize (canAt H.cans k).name = nm at *
       have htk2 : Hid ((H.wals.map (·.name) ++ [floorN, ceilN] ++ (H.cans.take (k + 1)).map (·.name)).map Value.string = (H.wals.map (·.name) ++ [floorN, ceilN] ++ (H.cans.take k).map (·.name)).map Value.string ++ [.string nm]) := by unfold Hid; rw [htk, ← List.append_assoc, List.map_append]; rfl
       clear htk
       generalize (H.wals.map (·.name) ++ [floorN, ceilN] ++ (H.cans.take k).map (·.name)).map Value.string = L at *
       go_wp2_with (first
        | (at_builtin; refine wpList_append_own _ rfl _ _ 37 rfl X.heap.size 9 iS (.string .empty) 1 16 u_strs hiS hzS haS hbS rfl (by decide) _ _ _ rfl ((hown.alloc _).alloc _) ⟨wr.heap.size + 1, 0, none⟩ 1 1 [.string nm]  rfl rfl ?c1 ?c2 ?c3 ?c4 ?c5 ?_))
       case c1 => intro j u hj; (match j, hj with | 0, hj => (simp at hj; subst hj; simp [go_sem, Addr.add]))
       case c2 => intro u hu; simp at hu; first | (subst hu; rfl) | (rcases hu with rfl | rfl <;> rfl)
       case c3 => unfold maxLen; omega
       case c4 => omega
       case c5 => simp; omega
       intro v' w1 hown' hgrow _
       have hB' : Below X.heap.size X w1 := Below.grown (show Below X.heap.size X _ by (repeat' first | with_reducible (first | apply bz0 | assumption | apply bz1 | apply bz2 | apply bz3 | apply bz4 | apply bz5) | (simp <;> omega))) hgrow (by simp; omega) (fun j hj => (hlo j hj).1)
       have hown2 : w1.ownsRow X.heap.size 9 1 v' (H.wals.length + 2 + (k + 1)) ((H.wals.map (·.name) ++ [floorN, ceilN] ++ (H.cans.take (k + 1)).map (·.name)).map Value.string) := by rw [htk2.out]; exact hown'
       replace x7 : w1.cell? ⟨b, 7, none⟩ = some (.slice (some ⟨g, o, none⟩) H.cans.length c7) := (World.cell?_of_block (a := ⟨b, 7, none⟩) (hgrow.block b (by simp; omega) (fun h => by have := (hlo _ h.symm).1; have := hsX.out; omega))).trans (by simp [go_sem, x7, gx])
       clear hown' hgrow hown hB hBw
       go_wp2
       exact ⟨⟨k + 1, by omega, by simp, hown2, hB', x7⟩, by simp [intOf]; omega⟩
     · obtain rfl : k = H.cans.length := by omega
       rw [List.take_length] at hown
       go_wp2
       refine bodyPost_ret (v := .tuple #[.slice Al (H.wals.length + 2 + H.cans.length) cl, .int .i64 0]) (by simp [results, Tryz.results19, go_sem]) rfl ⟨hBw, _, rfl, ?_⟩
       have hln : (surfN H).length = H.wals.length + 2 + H.cans.length := by unfold surfN; simp <;> omega
       refine own_str (base := X.heap.size) (e := 9) ?_ (by rw [hln]; omega)
       rw [hln]
       exact hown
end Go.Proofs.YtekieoamelahkaaGreat

/- Few: which halls are few. -/
namespace Go.Proofs.YtekieoamelahkaaGreat
open Go.RowKit Go.Shelf
attribute [local go_sem] Oper.semAt_some

set_option maxRecDepth 100000 in set_option maxHeartbeats 16000000 in
theorem Few_any {w : World} {H : Hal} {v4 v5 v6 v7 v8 : Value} (hV : HalW w v4 v5 v6 v7 v8 H) : Calls Tryz.prog 16 #[halV H v4 v5 v6 v7 v8] w (RetX w (.bool (fewB H))) := by
 have hn := hidden (few_n (H := H))
 have ht := hidden (few_t (H := H))
 have hfm := hidden (fun (k : Nat) (hk : k < H.mats.length) (h : fewM H k = false) => few_m hk h)
 have hfw := hidden (fun (k : Nat) (hk : k < H.wals.length) (h : fewW H k = false) => few_w hk h)
 have hfc := hidden (fun (k : Nat) (hk : k < H.cans.length) (h : fewC H k = false) => few_c hk h)
 have hfs := hidden (fun (k : Nat) (hk : k < H.seas.length) (h : fewS H k = false) => few_s hk h)
 have hsz := hidden (few_sizes (H := H))
 have hend := hidden (few_end (H := H))
 have hnd : Hid (fewN H = (mostB H.cors.length 8 12 && (mostB H.wals.length 8 12 && (mostB H.mats.length 3 10 && (mostB H.cans.length 3 4 && mostB H.seas.length 3 40))))) := rfl
 have htd : Hid (fewT H = (txtB H.name && (txtB H.floor && txtB H.ceil))) := rfl
 have M1 := hidden (fun (W : World) => most_any (H.cors.length : Int) 8 12 W (by decide))
 have M2 := hidden (fun (W : World) => most_any (H.wals.length : Int) 8 12 W (by decide))
 have M3 := hidden (fun (W : World) => most_any (H.mats.length : Int) 3 10 W (by decide))
 have M4 := hidden (fun (W : World) => most_any (H.cans.length : Int) 3 4 W (by decide))
 have M5 := hidden (fun (W : World) => most_any (H.seas.length : Int) 3 40 W (by decide))
 obtain ⟨g4, g5, g6, g7, g8⟩ := hV
 obtain ⟨A4, c4, rfl, hS4⟩ := slcW_form g4
 obtain ⟨A5, c5, rfl, _⟩ := slcW_form g5
 obtain ⟨A6, c6, rfl, hS6⟩ := slcW_form g6
 obtain ⟨A7, c7, rfl, hS7⟩ := slcW_form g7
 obtain ⟨A8, c8, rfl, hS8⟩ := slcW_form g8
 clear g4 g5 g6 g7 g8
 unfold halV at *
 generalize mostB H.cors.length 8 12 = b1 at *
 generalize mostB H.wals.length 8 12 = b2 at *
 generalize mostB H.mats.length 3 10 = b3 at *
 generalize mostB H.cans.length 3 4 = b4 at *
 generalize mostB H.seas.length 3 40 = b5 at *
 refine (callsIn_wide (n := 10)).1 ?_
 refine callsIn_of_wp Tryz.func16 rfl trivial ?_ rfl
 simp only [Tryz.ntmps16, nt, Nat.reduceAdd, Nat.reduceSub]
 have cs : (b1 = false) ∨ (b1 = true ∧ b2 = false) ∨ (b1 = true ∧ b2 = true ∧ b3 = false) ∨ (b1 = true ∧ b2 = true ∧ b3 = true ∧ b4 = false) ∨ (b1 = true ∧ b2 = true ∧ b3 = true ∧ b4 = true ∧ b5 = false) ∨ (b1 = true ∧ b2 = true ∧ b3 = true ∧ b4 = true ∧ b5 = true) := by cases b1 <;> cases b2 <;> cases b3 <;> cases b4 <;> cases b5 <;> simp
 rcases cs with rfl | ⟨rfl, rfl⟩ | ⟨rfl, rfl, rfl⟩ | ⟨rfl, rfl, rfl, rfl⟩ | ⟨rfl, rfl, rfl, rfl, rfl⟩ | ⟨rfl, rfl, rfl, rfl, rfl⟩
 · have hz : Hid (fewB H = false) := hn.out (by rw [hnd.out]; rfl)
   clear hn ht hfm hfw hfc hfs hsz hend hnd htd hS4 hS6 hS7 hS8
   gi_wp2
   (refine ⟨trivial, ?_⟩; ((with_reducible refine (callsIn_wide.2 (M1.out _)).mono ?_); rintro e w' ⟨rfl, zm0, rfl⟩))
   gi_wp2
   all_goals first | (exfalso; exact undef_ne _ (by assumption)) | skip
   refine ⟨trivial, ?_⟩
   gi_wp2
   all_goals first | (exfalso; exact undef_ne _ (by assumption)) | skip
   refine ⟨trivial, ?_⟩
   gi_wp2
   all_goals first | (exfalso; exact undef_ne _ (by assumption)) | skip
   refine ⟨trivial, ?_⟩
   gi_wp2
   all_goals first | (exfalso; exact undef_ne _ (by assumption)) | skip
   refine ⟨trivial, ?_⟩
   gi_wp2
   all_goals first | (exfalso; exact undef_ne _ (by assumption)) | skip
   refine bodyPost_ret (v := .bool false) (by simp [results, Tryz.results16, go_sem]) rfl (retX (by rw [hz.out]) (by (repeat' first | with_reducible (first | apply bz0 | assumption | apply bz1 | apply bz2 | apply bz3 | apply bz4 | apply bz5) | (simp <;> omega))))
 · have hz : Hid (fewB H = false) := hn.out (by rw [hnd.out]; rfl)
   clear hn ht hfm hfw hfc hfs hsz hend hnd htd hS4 hS6 hS7 hS8
   gi_wp2
   (refine ⟨trivial, ?_⟩; ((with_reducible refine (callsIn_wide.2 (M1.out _)).mono ?_); rintro e w' ⟨rfl, zm0, rfl⟩))
   gi_wp2
   all_goals first | (exfalso; exact undef_ne _ (by assumption)) | skip
   (refine ⟨trivial, ?_⟩; ((with_reducible refine (callsIn_wide.2 (M2.out _)).mono ?_); rintro e w' ⟨rfl, zm1, rfl⟩))
   gi_wp2
   all_goals first | (exfalso; exact undef_ne _ (by assumption)) | skip
   refine ⟨trivial, ?_⟩
   gi_wp2
   all_goals first | (exfalso; exact undef_ne _ (by assumption)) | skip
   refine ⟨trivial, ?_⟩
   gi_wp2
   all_goals first | (exfalso; exact undef_ne _ (by assumption)) | skip
   refine ⟨trivial, ?_⟩
   gi_wp2
   all_goals first | (exfalso; exact undef_ne _ (by assumption)) | skip
   refine bodyPost_ret (v := .bool false) (by simp [results, Tryz.results16, go_sem]) rfl (retX (by rw [hz.out]) (by (repeat' first | with_reducible (first | apply bz0 | assumption | apply bz1 | apply bz2 | apply bz3 | apply bz4 | apply bz5) | (simp <;> omega))))
 · have hz : Hid (fewB H = false) := hn.out (by rw [hnd.out]; rfl)
   clear hn ht hfm hfw hfc hfs hsz hend hnd htd hS4 hS6 hS7 hS8
   gi_wp2
   (refine ⟨trivial, ?_⟩; ((with_reducible refine (callsIn_wide.2 (M1.out _)).mono ?_); rintro e w' ⟨rfl, zm0, rfl⟩))
   gi_wp2
   all_goals first | (exfalso; exact undef_ne _ (by assumption)) | skip
   (refine ⟨trivial, ?_⟩; ((with_reducible refine (callsIn_wide.2 (M2.out _)).mono ?_); rintro e w' ⟨rfl, zm1, rfl⟩))
   gi_wp2
   all_goals first | (exfalso; exact undef_ne _ (by assumption)) | skip
   (refine ⟨trivial, ?_⟩; ((with_reducible refine (callsIn_wide.2 (M3.out _)).mono ?_); rintro e w' ⟨rfl, zm2, rfl⟩))
   gi_wp2
   all_goals first | (exfalso; exact undef_ne _ (by assumption)) | skip
   refine ⟨trivial, ?_⟩
   gi_wp2
   all_goals first | (exfalso; exact undef_ne _ (by assumption)) | skip
   refine ⟨trivial, ?_⟩
   gi_wp2
   all_goals first | (exfalso; exact undef_ne _ (by assumption)) | skip
   refine bodyPost_ret (v := .bool false) (by simp [results, Tryz.results16, go_sem]) rfl (retX (by rw [hz.out]) (by (repeat' first | with_reducible (first | apply bz0 | assumption | apply bz1 | apply bz2 | apply bz3 | apply bz4 | apply bz5) | (simp <;> omega))))
 · have hz : Hid (fewB H = false) := hn.out (by rw [hnd.out]; rfl)
   clear hn ht hfm hfw hfc hfs hsz hend hnd htd hS4 hS6 hS7 hS8
   gi_wp2
   (refine ⟨trivial, ?_⟩; ((with_reducible refine (callsIn_wide.2 (M1.out _)).mono ?_); rintro e w' ⟨rfl, zm0, rfl⟩))
   gi_wp2
   all_goals first | (exfalso; exact undef_ne _ (by assumption)) | skip
   (refine ⟨trivial, ?_⟩; ((with_reducible refine (callsIn_wide.2 (M2.out _)).mono ?_); rintro e w' ⟨rfl, zm1, rfl⟩))
   gi_wp2
   all_goals first | (exfalso; exact undef_ne _ (by assumption)) | skip
   (refine ⟨trivial, ?_⟩; ((with_reducible refine (callsIn_wide.2 (M3.out _)).mono ?_); rintro e w' ⟨rfl, zm2, rfl⟩))
   gi_wp2
   all_goals first | (exfalso; exact undef_ne _ (by assumption)) | skip
   (refine ⟨trivial, ?_⟩; ((with_reducible refine (callsIn_wide.2 (M4.out _)).mono ?_); rintro e w' ⟨rfl, zm3, rfl⟩))
   gi_wp2
   all_goals first | (exfalso; exact undef_ne _ (by assumption)) | skip
   refine ⟨trivial, ?_⟩
   gi_wp2
   all_goals first | (exfalso; exact undef_ne _ (by assumption)) | skip
   refine bodyPost_ret (v := .bool false) (by simp [results, Tryz.results16, go_sem]) rfl (retX (by rw [hz.out]) (by (repeat' first | with_reducible (first | apply bz0 | assumption | apply bz1 | apply bz2 | apply bz3 | apply bz4 | apply bz5) | (simp <;> omega))))
 · have hz : Hid (fewB H = false) := hn.out (by rw [hnd.out]; rfl)
   clear hn ht hfm hfw hfc hfs hsz hend hnd htd hS4 hS6 hS7 hS8
   gi_wp2
   (refine ⟨trivial, ?_⟩; ((with_reducible refine (callsIn_wide.2 (M1.out _)).mono ?_); rintro e w' ⟨rfl, zm0, rfl⟩))
   gi_wp2
   all_goals first | (exfalso; exact undef_ne _ (by assumption)) | skip
   (refine ⟨trivial, ?_⟩; ((with_reducible refine (callsIn_wide.2 (M2.out _)).mono ?_); rintro e w' ⟨rfl, zm1, rfl⟩))
   gi_wp2
   all_goals first | (exfalso; exact undef_ne _ (by assumption)) | skip
   (refine ⟨trivial, ?_⟩; ((with_reducible refine (callsIn_wide.2 (M3.out _)).mono ?_); rintro e w' ⟨rfl, zm2, rfl⟩))
   gi_wp2
   all_goals first | (exfalso; exact undef_ne _ (by assumption)) | skip
   (refine ⟨trivial, ?_⟩; ((with_reducible refine (callsIn_wide.2 (M4.out _)).mono ?_); rintro e w' ⟨rfl, zm3, rfl⟩))
   gi_wp2
   all_goals first | (exfalso; exact undef_ne _ (by assumption)) | skip
   (refine ⟨trivial, ?_⟩; ((with_reducible refine (callsIn_wide.2 (M5.out _)).mono ?_); rintro e w' ⟨rfl, zm4, rfl⟩))
   gi_wp2
   all_goals first | (exfalso; exact undef_ne _ (by assumption)) | skip
   refine bodyPost_ret (v := .bool false) (by simp [results, Tryz.results16, go_sem]) rfl (retX (by rw [hz.out]) (by (repeat' first | with_reducible (first | apply bz0 | assumption | apply bz1 | apply bz2 | apply bz3 | apply bz4 | apply bz5) | (simp <;> omega))))
 · have hN : Hid (fewN H = true) := hnd.out
   obtain ⟨n1, n2, n3, n4, n5⟩ := hsz.out hN.out
   clear hn hnd hsz
   have d1 : txtB H.name = decide ((H.name.size : Int) ≤ 20) := rfl
   have d2 : txtB H.floor = decide ((H.floor.size : Int) ≤ 20) := rfl
   have d3 : txtB H.ceil = decide ((H.ceil.size : Int) ≤ 20) := rfl
   have dn : ∀ n : Int, decide ((20 : Int) < n) = !decide (n ≤ 20) := fun n => by rw [Bool.eq_iff_iff]; simp
   have s1 := dn (H.name.size : Int)
   have s2 := dn (H.floor.size : Int)
   have s3 := dn (H.ceil.size : Int)
   rw [← d1] at s1; rw [← d2] at s2; rw [← d3] at s3
   clear d1 d2 d3 dn
   generalize txtB H.name = t1 at *
   generalize txtB H.floor = t2 at *
   generalize txtB H.ceil = t3 at *
   have ct : (t1 = false) ∨ (t1 = true ∧ t2 = false) ∨ (t1 = true ∧ t2 = true ∧ t3 = false) ∨ (t1 = true ∧ t2 = true ∧ t3 = true) := by cases t1 <;> cases t2 <;> cases t3 <;> simp
   rcases ct with rfl | ⟨rfl, rfl⟩ | ⟨rfl, rfl, rfl⟩ | ⟨rfl, rfl, rfl⟩
   · have hz : Hid (fewB H = false) := ht.out (by rw [htd.out]; rfl)
     clear ht hfm hfw hfc hfs hend htd hS4 hS6 hS7 hS8 hN
     simp only [Bool.not_true, Bool.not_false] at s1 s2 s3
     gi_wp2
     (refine ⟨trivial, ?_⟩; ((with_reducible refine (callsIn_wide.2 (M1.out _)).mono ?_); rintro e w' ⟨rfl, zm0, rfl⟩))
     gi_wp2
     all_goals first | (exfalso; exact undef_ne _ (by assumption)) | skip
     (refine ⟨trivial, ?_⟩; ((with_reducible refine (callsIn_wide.2 (M2.out _)).mono ?_); rintro e w' ⟨rfl, zm1, rfl⟩))
     gi_wp2
     all_goals first | (exfalso; exact undef_ne _ (by assumption)) | skip
     (refine ⟨trivial, ?_⟩; ((with_reducible refine (callsIn_wide.2 (M3.out _)).mono ?_); rintro e w' ⟨rfl, zm2, rfl⟩))
     gi_wp2
     all_goals first | (exfalso; exact undef_ne _ (by assumption)) | skip
     (refine ⟨trivial, ?_⟩; ((with_reducible refine (callsIn_wide.2 (M4.out _)).mono ?_); rintro e w' ⟨rfl, zm3, rfl⟩))
     gi_wp2
     all_goals first | (exfalso; exact undef_ne _ (by assumption)) | skip
     (refine ⟨trivial, ?_⟩; ((with_reducible refine (callsIn_wide.2 (M5.out _)).mono ?_); rintro e w' ⟨rfl, zm4, rfl⟩))
     gi_wp2
     all_goals first | (exfalso; exact undef_ne _ (by assumption)) | skip
     refine bodyPost_ret (v := .bool false) (by simp [results, Tryz.results16, go_sem]) rfl (retX (by rw [hz.out]) (by (repeat' first | with_reducible (first | apply bz0 | assumption | apply bz1 | apply bz2 | apply bz3 | apply bz4 | apply bz5) | (simp <;> omega))))
   · have hz : Hid (fewB H = false) := ht.out (by rw [htd.out]; rfl)
     clear ht hfm hfw hfc hfs hend htd hS4 hS6 hS7 hS8 hN
     simp only [Bool.not_true, Bool.not_false] at s1 s2 s3
     gi_wp2
     (refine ⟨trivial, ?_⟩; ((with_reducible refine (callsIn_wide.2 (M1.out _)).mono ?_); rintro e w' ⟨rfl, zm0, rfl⟩))
     gi_wp2
     all_goals first | (exfalso; exact undef_ne _ (by assumption)) | skip
     (refine ⟨trivial, ?_⟩; ((with_reducible refine (callsIn_wide.2 (M2.out _)).mono ?_); rintro e w' ⟨rfl, zm1, rfl⟩))
     gi_wp2
     all_goals first | (exfalso; exact undef_ne _ (by assumption)) | skip
     (refine ⟨trivial, ?_⟩; ((with_reducible refine (callsIn_wide.2 (M3.out _)).mono ?_); rintro e w' ⟨rfl, zm2, rfl⟩))
     gi_wp2
     all_goals first | (exfalso; exact undef_ne _ (by assumption)) | skip
     (refine ⟨trivial, ?_⟩; ((with_reducible refine (callsIn_wide.2 (M4.out _)).mono ?_); rintro e w' ⟨rfl, zm3, rfl⟩))
     gi_wp2
     all_goals first | (exfalso; exact undef_ne _ (by assumption)) | skip
     (refine ⟨trivial, ?_⟩; ((with_reducible refine (callsIn_wide.2 (M5.out _)).mono ?_); rintro e w' ⟨rfl, zm4, rfl⟩))
     gi_wp2
     all_goals first | (exfalso; exact undef_ne _ (by assumption)) | skip
     refine bodyPost_ret (v := .bool false) (by simp [results, Tryz.results16, go_sem]) rfl (retX (by rw [hz.out]) (by (repeat' first | with_reducible (first | apply bz0 | assumption | apply bz1 | apply bz2 | apply bz3 | apply bz4 | apply bz5) | (simp <;> omega))))
   · have hz : Hid (fewB H = false) := ht.out (by rw [htd.out]; rfl)
     clear ht hfm hfw hfc hfs hend htd hS4 hS6 hS7 hS8 hN
     simp only [Bool.not_true, Bool.not_false] at s1 s2 s3
     gi_wp2
     (refine ⟨trivial, ?_⟩; ((with_reducible refine (callsIn_wide.2 (M1.out _)).mono ?_); rintro e w' ⟨rfl, zm0, rfl⟩))
     gi_wp2
     all_goals first | (exfalso; exact undef_ne _ (by assumption)) | skip
     (refine ⟨trivial, ?_⟩; ((with_reducible refine (callsIn_wide.2 (M2.out _)).mono ?_); rintro e w' ⟨rfl, zm1, rfl⟩))
     gi_wp2
     all_goals first | (exfalso; exact undef_ne _ (by assumption)) | skip
     (refine ⟨trivial, ?_⟩; ((with_reducible refine (callsIn_wide.2 (M3.out _)).mono ?_); rintro e w' ⟨rfl, zm2, rfl⟩))
     gi_wp2
     all_goals first | (exfalso; exact undef_ne _ (by assumption)) | skip
     (refine ⟨trivial, ?_⟩; ((with_reducible refine (callsIn_wide.2 (M4.out _)).mono ?_); rintro e w' ⟨rfl, zm3, rfl⟩))
     gi_wp2
     all_goals first | (exfalso; exact undef_ne _ (by assumption)) | skip
     (refine ⟨trivial, ?_⟩; ((with_reducible refine (callsIn_wide.2 (M5.out _)).mono ?_); rintro e w' ⟨rfl, zm4, rfl⟩))
     gi_wp2
     all_goals first | (exfalso; exact undef_ne _ (by assumption)) | skip
     refine bodyPost_ret (v := .bool false) (by simp [results, Tryz.results16, go_sem]) rfl (retX (by rw [hz.out]) (by (repeat' first | with_reducible (first | apply bz0 | assumption | apply bz1 | apply bz2 | apply bz3 | apply bz4 | apply bz5) | (simp <;> omega))))
   · have hT : Hid (fewT H = true) := htd.out
     clear ht htd
     simp only [Bool.not_true, Bool.not_false] at s1 s2 s3
     gi_wp2
     (refine ⟨trivial, ?_⟩; ((with_reducible refine (callsIn_wide.2 (M1.out _)).mono ?_); rintro e w' ⟨rfl, zm0, rfl⟩))
     gi_wp2
     all_goals first | (exfalso; exact undef_ne _ (by assumption)) | skip
     (refine ⟨trivial, ?_⟩; ((with_reducible refine (callsIn_wide.2 (M2.out _)).mono ?_); rintro e w' ⟨rfl, zm1, rfl⟩))
     gi_wp2
     all_goals first | (exfalso; exact undef_ne _ (by assumption)) | skip
     (refine ⟨trivial, ?_⟩; ((with_reducible refine (callsIn_wide.2 (M3.out _)).mono ?_); rintro e w' ⟨rfl, zm2, rfl⟩))
     gi_wp2
     all_goals first | (exfalso; exact undef_ne _ (by assumption)) | skip
     (refine ⟨trivial, ?_⟩; ((with_reducible refine (callsIn_wide.2 (M4.out _)).mono ?_); rintro e w' ⟨rfl, zm3, rfl⟩))
     gi_wp2
     all_goals first | (exfalso; exact undef_ne _ (by assumption)) | skip
     (refine ⟨trivial, ?_⟩; ((with_reducible refine (callsIn_wide.2 (M5.out _)).mono ?_); rintro e w' ⟨rfl, zm4, rfl⟩))
     gi_wp2
     all_goals first | (exfalso; exact undef_ne _ (by assumption)) | skip
     generalize hX : World.ext _ zm4 = X
     have x0 : X.cell? ⟨w.heap.size, 0, none⟩ = some (.string H.name) := by rw [← hX]; simp [go_sem]
     have x1 : X.cell? ⟨w.heap.size, 1, none⟩ = some (.int .i64 H.height) := by rw [← hX]; simp [go_sem]
     have x2 : X.cell? ⟨w.heap.size, 2, none⟩ = some (.string H.floor) := by rw [← hX]; simp [go_sem]
     have x3 : X.cell? ⟨w.heap.size, 3, none⟩ = some (.string H.ceil) := by rw [← hX]; simp [go_sem]
     have x4 : X.cell? ⟨w.heap.size, 4, none⟩ = some (.slice A4 H.mats.length c4) := by rw [← hX]; simp [go_sem]
     have x5 : X.cell? ⟨w.heap.size, 5, none⟩ = some (.slice A5 H.cors.length c5) := by rw [← hX]; simp [go_sem]
     have x6 : X.cell? ⟨w.heap.size, 6, none⟩ = some (.slice A6 H.wals.length c6) := by rw [← hX]; simp [go_sem]
     have x7 : X.cell? ⟨w.heap.size, 7, none⟩ = some (.slice A7 H.cans.length c7) := by rw [← hX]; simp [go_sem]
     have x8 : X.cell? ⟨w.heap.size, 8, none⟩ = some (.slice A8 H.seas.length c8) := by rw [← hX]; simp [go_sem]
     have BX : Below w.heap.size w X := by rw [← hX]; (repeat' first | with_reducible (first | apply bz0 | assumption | apply bz1 | apply bz2 | apply bz3 | apply bz4 | apply bz5) | (simp <;> omega))
     have gx := has_of_cell x0
     have HX := hidden (fun (W : World) (hW : Below X.heap.size X W) => And.intro (cell_below hW gx x0) (And.intro (cell_below hW gx x1) (And.intro (cell_below hW gx x2) (And.intro (cell_below hW gx x3) (And.intro (cell_below hW gx x4) (And.intro (cell_below hW gx x5) (And.intro (cell_below hW gx x6) (And.intro (cell_below hW gx x7) (cell_below hW gx x8)))))))))
     clear hX x0 x1 x2 x3 x4 x5 x6 x7 x8 gx
     clear M1 M2 M3 M4 M5 s1 s2 s3
     replace hS4 := hS4.few (by omega)
     replace hS6 := hS6.few (by omega)
     replace hS8 := hS8.few (by omega)
     have dn : ∀ n : Int, decide ((20 : Int) < n) = !decide (n ≤ 20) := fun n => by rw [Bool.eq_iff_iff]; simp
     gi_loopw [3] (fun i' wr => ∃ k : Nat, i' = .int .i64 k ∧ k ≤ H.mats.length ∧ Below X.heap.size X wr ∧ ∀ j, j < k → fewM H j = true) (fun i' _ => H.mats.length - (intOf i').toNat)
     case atStart => exact ⟨0, rfl, Nat.zero_le _, Below.refl _ _, fun j hj => absurd hj (Nat.not_lt_zero j)⟩
     case round =>
      obtain ⟨k, rfl, hk, hB, hno⟩ := hrel
      have hBw : Below w.heap.size w wr := BX.trans (hB.lower BX.size)
      have hgs := hBw.size
      obtain ⟨x0, x1, x2, x3, x4, x5, x6, x7, x8⟩ := HX.out _ hB
      have gx := has_of_cell x0
      rcases Nat.lt_or_ge k H.mats.length with hlt | hge
      · obtain ⟨g, o, rfl, hg, hcs⟩ := mat_at (hS4.below hBw) hlt
        have hck := hcs k hlt
        have hst := hidden (hfm.out k hlt)
        have hgo : Hid (fewM H k = true → ∀ j, j < k + 1 → fewM H j = true) := fun he j hj => by
         rcases Nat.lt_or_ge j k with h' | h'
         · exact hno j h'
         · obtain rfl : j = k := by omega
           exact he
        obtain ⟨m0, _, _, _, _, _⟩ := hck
        have hfd : Hid (fewM H k = txtB (matAt H.mats k).name) := rfl
        have s1 : decide ((20 : Int) < ((matAt H.mats k).name.size : Int)) = !txtB (matAt H.mats k).name := dn _
        clear hcs hno hend hN hT hfm hfw hfc hfs hS4 hS6 hS7 hS8 HX dn 
        generalize fewM H k = fk at *
        generalize txtB (matAt H.mats k).name = t1 at *
        have ct : (t1 = false) ∨ (t1 = true) := by cases t1 <;> simp
        rcases ct with rfl | rfl
        · have hz := hidden (hst.out hfd.out)
          simp only [Bool.not_true, Bool.not_false] at s1
          clear hst hgo hfd
          gi_wp2
          all_goals first | (exfalso; exact undef_ne _ (by assumption)) | skip
          refine bodyPost_ret (v := .bool false) (by simp [results, Tryz.results16, go_sem]) rfl (retX (by rw [hz.out]) (hBw.trans ((show Below wr.heap.size wr _ by (repeat' first | with_reducible (first | apply bz0 | assumption | apply bz1 | apply bz2 | apply bz3 | apply bz4 | apply bz5) | (simp <;> omega))).lower hgs)))
        · have hz := hidden (hgo.out hfd.out)
          simp only [Bool.not_true, Bool.not_false] at s1
          clear hst hgo hfd
          gi_wp2
          all_goals first | (exfalso; exact undef_ne _ (by assumption)) | skip
          exact ⟨⟨k + 1, by simp, by omega, hB.trans ((show Below wr.heap.size wr _ by (repeat' first | with_reducible (first | apply bz0 | assumption | apply bz1 | apply bz2 | apply bz3 | apply bz4 | apply bz5) | (simp <;> omega))).lower hB.size), hz.out⟩, by simp [intOf]; omega⟩
      · obtain rfl : k = H.mats.length := by omega
        have P0 := hidden hno
        clear hno hfm hS4
        gi_wp2
        clear x0 x1 x2 x3 x4 x5 x6 x7 x8 gx
        gi_loopw [4] (fun i' wr => ∃ k : Nat, i' = .int .i64 k ∧ k ≤ H.wals.length ∧ Below X.heap.size X wr ∧ ∀ j, j < k → fewW H j = true) (fun i' _ => H.wals.length - (intOf i').toNat)
        case atStart => exact ⟨0, rfl, Nat.zero_le _, hB, fun j hj => absurd hj (Nat.not_lt_zero j)⟩
        case round =>
         clear hB hBw hgs
         obtain ⟨k, rfl, hk, hB, hno⟩ := hrel
         have hBw : Below w.heap.size w wr := BX.trans (hB.lower BX.size)
         have hgs := hBw.size
         obtain ⟨x0, x1, x2, x3, x4, x5, x6, x7, x8⟩ := HX.out _ hB
         have gx := has_of_cell x0
         rcases Nat.lt_or_ge k H.wals.length with hlt | hge
         · obtain ⟨g, o, rfl, hg, hcs⟩ := wal_at (hS6.below hBw) hlt
           have hck := hcs k hlt
           have hst := hidden (hfw.out k hlt)
           have hgo : Hid (fewW H k = true → ∀ j, j < k + 1 → fewW H j = true) := fun he j hj => by
            rcases Nat.lt_or_ge j k with h' | h'
            · exact hno j h'
            · obtain rfl : j = k := by omega
              exact he
           obtain ⟨m0, m1, m2⟩ := hck
           have hfd : Hid (fewW H k = (txtB (walAt H.wals k).name && (txtB (walAt H.wals k).mat && txtB (walAt H.wals k).cur))) := rfl
           have s1 : decide ((20 : Int) < ((walAt H.wals k).name.size : Int)) = !txtB (walAt H.wals k).name := dn _
           have s2 : decide ((20 : Int) < ((walAt H.wals k).mat.size : Int)) = !txtB (walAt H.wals k).mat := dn _
           have s3 : decide ((20 : Int) < ((walAt H.wals k).cur.size : Int)) = !txtB (walAt H.wals k).cur := dn _
           clear hcs hno hend hN hT hfw hfc hfs hS6 hS7 hS8 HX dn P0
           generalize fewW H k = fk at *
           generalize txtB (walAt H.wals k).name = t1 at *
           generalize txtB (walAt H.wals k).mat = t2 at *
           generalize txtB (walAt H.wals k).cur = t3 at *
           have ct : (t1 = false) ∨ (t1 = true ∧ t2 = false) ∨ (t1 = true ∧ t2 = true ∧ t3 = false) ∨ (t1 = true ∧ t2 = true ∧ t3 = true) := by cases t1 <;> cases t2 <;> cases t3 <;> simp
           rcases ct with rfl | ⟨rfl, rfl⟩ | ⟨rfl, rfl, rfl⟩ | ⟨rfl, rfl, rfl⟩
           · have hz := hidden (hst.out hfd.out)
             simp only [Bool.not_true, Bool.not_false] at s1 s2 s3
             clear hst hgo hfd
             gi_wp2
             all_goals first | (exfalso; exact undef_ne _ (by assumption)) | skip
             refine bodyPost_ret (v := .bool false) (by simp [results, Tryz.results16, go_sem]) rfl (retX (by rw [hz.out]) (hBw.trans ((show Below wr.heap.size wr _ by (repeat' first | with_reducible (first | apply bz0 | assumption | apply bz1 | apply bz2 | apply bz3 | apply bz4 | apply bz5) | (simp <;> omega))).lower hgs)))
           · have hz := hidden (hst.out hfd.out)
             simp only [Bool.not_true, Bool.not_false] at s1 s2 s3
             clear hst hgo hfd
             gi_wp2
             all_goals first | (exfalso; exact undef_ne _ (by assumption)) | skip
             refine bodyPost_ret (v := .bool false) (by simp [results, Tryz.results16, go_sem]) rfl (retX (by rw [hz.out]) (hBw.trans ((show Below wr.heap.size wr _ by (repeat' first | with_reducible (first | apply bz0 | assumption | apply bz1 | apply bz2 | apply bz3 | apply bz4 | apply bz5) | (simp <;> omega))).lower hgs)))
           · have hz := hidden (hst.out hfd.out)
             simp only [Bool.not_true, Bool.not_false] at s1 s2 s3
             clear hst hgo hfd
             gi_wp2
             all_goals first | (exfalso; exact undef_ne _ (by assumption)) | skip
             refine bodyPost_ret (v := .bool false) (by simp [results, Tryz.results16, go_sem]) rfl (retX (by rw [hz.out]) (hBw.trans ((show Below wr.heap.size wr _ by (repeat' first | with_reducible (first | apply bz0 | assumption | apply bz1 | apply bz2 | apply bz3 | apply bz4 | apply bz5) | (simp <;> omega))).lower hgs)))
           · have hz := hidden (hgo.out hfd.out)
             simp only [Bool.not_true, Bool.not_false] at s1 s2 s3
             clear hst hgo hfd
             gi_wp2
             all_goals first | (exfalso; exact undef_ne _ (by assumption)) | skip
             exact ⟨⟨k + 1, by simp, by omega, hB.trans ((show Below wr.heap.size wr _ by (repeat' first | with_reducible (first | apply bz0 | assumption | apply bz1 | apply bz2 | apply bz3 | apply bz4 | apply bz5) | (simp <;> omega))).lower hB.size), hz.out⟩, by simp [intOf]; omega⟩
         · obtain rfl : k = H.wals.length := by omega
           have P1 := hidden hno
           clear hno hfw hS6
           gi_wp2
           clear x0 x1 x2 x3 x4 x5 x6 x7 x8 gx
           gi_loopw [5] (fun i' wr => ∃ k : Nat, i' = .int .i64 k ∧ k ≤ H.cans.length ∧ Below X.heap.size X wr ∧ ∀ j, j < k → fewC H j = true) (fun i' _ => H.cans.length - (intOf i').toNat)
           case atStart => exact ⟨0, rfl, Nat.zero_le _, hB, fun j hj => absurd hj (Nat.not_lt_zero j)⟩
           case round =>
            clear hB hBw hgs
            obtain ⟨k, rfl, hk, hB, hno⟩ := hrel
            have hBw : Below w.heap.size w wr := BX.trans (hB.lower BX.size)
            have hgs := hBw.size
            obtain ⟨x0, x1, x2, x3, x4, x5, x6, x7, x8⟩ := HX.out _ hB
            have gx := has_of_cell x0
            rcases Nat.lt_or_ge k H.cans.length with hlt | hge
            · obtain ⟨g, o, rfl, hg, hcs⟩ := canW_at (hS7.below hBw) hlt
              have hck := hcs k hlt
              have hst := hidden (hfc.out k hlt)
              have hgo : Hid (fewC H k = true → ∀ j, j < k + 1 → fewC H j = true) := fun he j hj => by
               rcases Nat.lt_or_ge j k with h' | h'
               · exact hno j h'
               · obtain rfl : j = k := by omega
                 exact he
              obtain ⟨m0, m1, A', c', m6⟩ := hck
              have hfd : Hid (fewC H k = (txtB (canAt H.cans k).name && (txtB (canAt H.cans k).mat && decide (((canAt H.cans k).hs.length : Int) ≤ 6)))) := rfl
              have s1 : decide ((20 : Int) < ((canAt H.cans k).name.size : Int)) = !txtB (canAt H.cans k).name := dn _
              have s2 : decide ((20 : Int) < ((canAt H.cans k).mat.size : Int)) = !txtB (canAt H.cans k).mat := dn _
              have s3 : decide ((6 : Int) < ((canAt H.cans k).hs.length : Int)) = !decide (((canAt H.cans k).hs.length : Int) ≤ 6) := by rw [Bool.eq_iff_iff]; simp
              clear hcs hno hend hN hT hfc hfs hS7 hS8 HX dn P0 P1
              generalize fewC H k = fk at *
              generalize txtB (canAt H.cans k).name = t1 at *
              generalize txtB (canAt H.cans k).mat = t2 at *
              generalize decide (((canAt H.cans k).hs.length : Int) ≤ 6) = t3 at *
              have ct : (t1 = false) ∨ (t1 = true ∧ t2 = false) ∨ (t1 = true ∧ t2 = true ∧ t3 = false) ∨ (t1 = true ∧ t2 = true ∧ t3 = true) := by cases t1 <;> cases t2 <;> cases t3 <;> simp
              rcases ct with rfl | ⟨rfl, rfl⟩ | ⟨rfl, rfl, rfl⟩ | ⟨rfl, rfl, rfl⟩
              · have hz := hidden (hst.out hfd.out)
                simp only [Bool.not_true, Bool.not_false] at s1 s2 s3
                clear hst hgo hfd
                gi_wp2
                all_goals first | (exfalso; exact undef_ne _ (by assumption)) | skip
                refine bodyPost_ret (v := .bool false) (by simp [results, Tryz.results16, go_sem]) rfl (retX (by rw [hz.out]) (hBw.trans ((show Below wr.heap.size wr _ by (repeat' first | with_reducible (first | apply bz0 | assumption | apply bz1 | apply bz2 | apply bz3 | apply bz4 | apply bz5) | (simp <;> omega))).lower hgs)))
              · have hz := hidden (hst.out hfd.out)
                simp only [Bool.not_true, Bool.not_false] at s1 s2 s3
                clear hst hgo hfd
                gi_wp2
                all_goals first | (exfalso; exact undef_ne _ (by assumption)) | skip
                refine bodyPost_ret (v := .bool false) (by simp [results, Tryz.results16, go_sem]) rfl (retX (by rw [hz.out]) (hBw.trans ((show Below wr.heap.size wr _ by (repeat' first | with_reducible (first | apply bz0 | assumption | apply bz1 | apply bz2 | apply bz3 | apply bz4 | apply bz5) | (simp <;> omega))).lower hgs)))
              · have hz := hidden (hst.out hfd.out)
                simp only [Bool.not_true, Bool.not_false] at s1 s2 s3
                clear hst hgo hfd
                gi_wp2
                all_goals first | (exfalso; exact undef_ne _ (by assumption)) | skip
                refine bodyPost_ret (v := .bool false) (by simp [results, Tryz.results16, go_sem]) rfl (retX (by rw [hz.out]) (hBw.trans ((show Below wr.heap.size wr _ by (repeat' first | with_reducible (first | apply bz0 | assumption | apply bz1 | apply bz2 | apply bz3 | apply bz4 | apply bz5) | (simp <;> omega))).lower hgs)))
              · have hz := hidden (hgo.out hfd.out)
                simp only [Bool.not_true, Bool.not_false] at s1 s2 s3
                clear hst hgo hfd
                gi_wp2
                all_goals first | (exfalso; exact undef_ne _ (by assumption)) | skip
                exact ⟨⟨k + 1, by simp, by omega, hB.trans ((show Below wr.heap.size wr _ by (repeat' first | with_reducible (first | apply bz0 | assumption | apply bz1 | apply bz2 | apply bz3 | apply bz4 | apply bz5) | (simp <;> omega))).lower hB.size), hz.out⟩, by simp [intOf]; omega⟩
            · obtain rfl : k = H.cans.length := by omega
              have P2 := hidden hno
              clear hno hfc hS7
              gi_wp2
              clear x0 x1 x2 x3 x4 x5 x6 x7 x8 gx
              gi_loopw [6] (fun i' wr => ∃ k : Nat, i' = .int .i64 k ∧ k ≤ H.seas.length ∧ Below X.heap.size X wr ∧ ∀ j, j < k → fewS H j = true) (fun i' _ => H.seas.length - (intOf i').toNat)
              case atStart => exact ⟨0, rfl, Nat.zero_le _, hB, fun j hj => absurd hj (Nat.not_lt_zero j)⟩
              case round =>
               clear hB hBw hgs
               obtain ⟨k, rfl, hk, hB, hno⟩ := hrel
               have hBw : Below w.heap.size w wr := BX.trans (hB.lower BX.size)
               have hgs := hBw.size
               obtain ⟨x0, x1, x2, x3, x4, x5, x6, x7, x8⟩ := HX.out _ hB
               have gx := has_of_cell x0
               rcases Nat.lt_or_ge k H.seas.length with hlt | hge
               · obtain ⟨g, o, rfl, hg, hcs⟩ := sea_at (hS8.below hBw) hlt
                 have hck := hcs k hlt
                 have hst := hidden (hfs.out k hlt)
                 have hgo : Hid (fewS H k = true → ∀ j, j < k + 1 → fewS H j = true) := fun he j hj => by
                  rcases Nat.lt_or_ge j k with h' | h'
                  · exact hno j h'
                  · obtain rfl : j = k := by omega
                    exact he
                 obtain ⟨m0, _, _, _⟩ := hck
                 have hfd : Hid (fewS H k = txtB (seaAt H.seas k).name) := rfl
                 have s1 : decide ((20 : Int) < ((seaAt H.seas k).name.size : Int)) = !txtB (seaAt H.seas k).name := dn _
                 clear hcs hno hend hN hT hfs hS8 HX dn P0 P1 P2
                 generalize fewS H k = fk at *
                 generalize txtB (seaAt H.seas k).name = t1 at *
                 have ct : (t1 = false) ∨ (t1 = true) := by cases t1 <;> simp
                 rcases ct with rfl | rfl
                 · have hz := hidden (hst.out hfd.out)
                   simp only [Bool.not_true, Bool.not_false] at s1
                   clear hst hgo hfd
                   gi_wp2
                   all_goals first | (exfalso; exact undef_ne _ (by assumption)) | skip
                   refine bodyPost_ret (v := .bool false) (by simp [results, Tryz.results16, go_sem]) rfl (retX (by rw [hz.out]) (hBw.trans ((show Below wr.heap.size wr _ by (repeat' first | with_reducible (first | apply bz0 | assumption | apply bz1 | apply bz2 | apply bz3 | apply bz4 | apply bz5) | (simp <;> omega))).lower hgs)))
                 · have hz := hidden (hgo.out hfd.out)
                   simp only [Bool.not_true, Bool.not_false] at s1
                   clear hst hgo hfd
                   gi_wp2
                   all_goals first | (exfalso; exact undef_ne _ (by assumption)) | skip
                   exact ⟨⟨k + 1, by simp, by omega, hB.trans ((show Below wr.heap.size wr _ by (repeat' first | with_reducible (first | apply bz0 | assumption | apply bz1 | apply bz2 | apply bz3 | apply bz4 | apply bz5) | (simp <;> omega))).lower hB.size), hz.out⟩, by simp [intOf]; omega⟩
               · obtain rfl : k = H.seas.length := by omega
                 have hz : Hid (fewB H = true) := hend.out hN.out hT.out P0.out P1.out P2.out hno
                 clear hno hend hN hT P0 P1 P2 HX hS8
                 gi_wp2
                 refine bodyPost_ret (v := .bool true) (by simp [results, Tryz.results16, go_sem]) rfl (retX (by rw [hz.out]) hBw)
end Go.Proofs.YtekieoamelahkaaGreat
