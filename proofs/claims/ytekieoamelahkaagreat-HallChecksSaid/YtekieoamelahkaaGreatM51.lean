/- The reference's check whether a plan is simple. -/
import Derived.Test.YtekieoamelahkaaGreatM47
import Derived.Test.YtekieoamelahkaaGreatM48
import Derived.Test.YtekieoamelahkaaGreatM01
import Derived.Test.YtekieoamelahkaaGreatM49
import Derived.Test.YtekieoamelahkaaGreatM50
import Derived.Test.YtekieoamelahkaaGreatM45
import Derived.Test.YtekieoamelahkaaGreatM44
import Derived.Test.YtekieoamelahkaaGreatM37
set_option linter.unusedVariables false
set_option linter.unusedSimpArgs false
namespace Go.Proofs.YtekieoamelahkaaGreat
open Go.RowKit Go.Shelf
attribute [local go_sem] Oper.semAt_some

theorem viaW {P : Program} {code : Code} {K : Act → World → Prop} {Q : Exit → Act → World → Prop} {fr : Act} {V : World} (C : Act → World → Prop)
 (h1 : (∀ a W, C a W → K a W) → code.wp P (Exit.then K Q) fr V) (h2 : ∀ a W, C a W → K a W) : code.wp P (Exit.then K Q) fr V := h1 h2

set_option maxRecDepth 100000 in set_option maxHeartbeats 8000000 in
theorem simple_ref {w : World} {H : Hal} {v4 v5 v6 v7 v8 : Value} (hV : HalVs w v4 v5 v6 v7 v8 H) (hC : CorsIn H) (hL : LinesOk H) (hN : H.wals.length = H.cors.length) (h3 : 3 ≤ H.cors.length) :
 Calls Tryz.prog 83 #[halV H v4 v5 v6 v7 v8] w (RetX w (.bool (refSimpleB H))) := by
 have HN := hidden (fun (W : World) (hW : Below w.heap.size w W) (i : Nat) (hi : i < H.cors.length) => LineOf_any (hV.below hW) hC i hi)
 have HT := hidden (fun (W : World) (i k : Nat) (hi : i < H.cors.length) (hk : k < H.cors.length) => touch_any (lnX H i) (lnY H i) (lnDX H i) (lnDY H i) (lnX H k) (lnY H k) (lnDX H k) (lnDY H k) W (hL i hi) (hL k hk) (ln_bd hC hi).1 (ln_bd hC hi).2.1 (ln_bd hC hk).1 (ln_bd hC hk).2.1)
 have HS := hidden (fun (W : World) (i m : Nat) (hi : i < H.cors.length) (hm : m < H.cors.length) => Has_line (lnX H i) (lnY H i) (lnDX H i) (lnDY H i) W (hL i hi) (lnX H m) (lnY H m) 0 1 (ln_bd hC hi).1 (ln_bd hC hi).2.1 (by have := ln_bd hC hm; omega) (by have := ln_bd hC hm; omega) (by decide))
 have HE := hidden (fun (W : World) (i : Nat) (hi : i < H.cors.length) => ends_any (lnX H i) (lnY H i) (lnDX H i) (lnDY H i) W (by have := ln_bd hC hi; omega) (by have := ln_bd hC hi; omega) (by have := hL i hi; unfold LineOk at this; omega) (by have := hL i hi; unfold LineOk at this; omega))
 clear hC hL
 have hl := hV.cors.1
 obtain ⟨_, g4, g5, g6, g7, g8⟩ := hV
 have l6 := g6.1
 obtain ⟨A4, c4, rfl, _⟩ := slc_form g4
 obtain ⟨A5, c5, rfl, _⟩ := slc_form g5
 obtain ⟨A6, c6, rfl, _⟩ := slc_form g6
 obtain ⟨A7, c7, rfl, _⟩ := slc_form g7
 obtain ⟨A8, c8, rfl, _⟩ := slc_form g8
 clear g4 g5 g6 g7 g8
 rw [hN] at l6
 unfold halV at *
 rw [hN] at *
 clear hN
 refine (callsIn_wide (n := 10)).1 ?_
 refine callsIn_of_wp Tryz.func83 rfl trivial ?_ rfl
 simp only [Tryz.ntmps83, nt, Nat.reduceAdd, Nat.reduceSub]
 gi_wp2
 generalize hX : World.alloc _ _ = X
 have x0 : X.cell? ⟨w.heap.size, 0, none⟩ = some (.string H.name) := by rw [← hX]; simp [go_sem]
 have x1 : X.cell? ⟨w.heap.size, 1, none⟩ = some (.int .i64 H.height) := by rw [← hX]; simp [go_sem]
 have x2 : X.cell? ⟨w.heap.size, 2, none⟩ = some (.string H.floor) := by rw [← hX]; simp [go_sem]
 have x3 : X.cell? ⟨w.heap.size, 3, none⟩ = some (.string H.ceil) := by rw [← hX]; simp [go_sem]
 have x4 : X.cell? ⟨w.heap.size, 4, none⟩ = some (.slice A4 H.mats.length c4) := by rw [← hX]; simp [go_sem]
 have x5 : X.cell? ⟨w.heap.size, 5, none⟩ = some (.slice A5 H.cors.length c5) := by rw [← hX]; simp [go_sem]
 have x6 : X.cell? ⟨w.heap.size, 6, none⟩ = some (.slice A6 H.cors.length c6) := by rw [← hX]; simp [go_sem]
 have x7 : X.cell? ⟨w.heap.size, 7, none⟩ = some (.slice A7 H.cans.length c7) := by rw [← hX]; simp [go_sem]
 have x8 : X.cell? ⟨w.heap.size, 8, none⟩ = some (.slice A8 H.seas.length c8) := by rw [← hX]; simp [go_sem]
 have BX : Below w.heap.size w X := by rw [← hX]; (repeat' first | with_reducible (first | apply bz0 | assumption | apply bz1 | apply bz2 | apply bz3 | apply bz4 | apply bz5) | (simp <;> omega))
 have gx := has_of_cell x0
 clear hX
 generalize hn : H.cors.length = n at *
 have wn : IntKind.i64.wrap ((n : Int) - 1) = (n : Int) - 1 := IntWalk.i64_in _ (by omega)
 gi_loopw [4] (fun i wr => ∃ k : Nat, i = .int .i64 k ∧ k ≤ n ∧ Below X.heap.size X wr ∧ ∀ p, p < k → ∀ q, p < q → q < n → pairB n (lnHs H) (lnT H) p q = false) (fun i _ => n - (intOf i).toNat)
 case atStart => exact ⟨0, rfl, Nat.zero_le _, Below.refl _ _, fun j hj => absurd hj (Nat.not_lt_zero j)⟩
 case round =>
  obtain ⟨i, rfl, hi, hB, hno⟩ := hrel
  rcases Nat.lt_or_ge i n with hlt | hge
  · have wi : IntKind.i64.wrap ((i : Int) + 1) = (i : Int) + 1 := IntWalk.i64_in _ (by omega)
    gi_wp2
    gi_loopw [5] (fun k wr => ∃ q : Nat, k = .int .i64 q ∧ i < q ∧ q ≤ n ∧ Below X.heap.size X wr ∧ ∀ j, i < j → j < q → pairB n (lnHs H) (lnT H) i j = false) (fun k _ => n - (intOf k).toNat)
    case atStart => exact ⟨i + 1, by simp, by omega, by omega, by assumption, fun j h1 h2 => by omega⟩
    case round =>
     obtain ⟨k, rfl, hik, hk, hB2, hno2⟩ := hrel
     rename_i W0 _ _ _ _ _ _ _
     have hBw : Below w.heap.size w _ := BX.trans (hB2.lower BX.size)
     have hgs := hBw.size
     replace x0 := cell_below hB2 gx x0
     replace x1 := cell_below hB2 gx x1
     replace x2 := cell_below hB2 gx x2
     replace x3 := cell_below hB2 gx x3
     replace x4 := cell_below hB2 gx x4
     replace x5 := cell_below hB2 gx x5
     replace x6 := cell_below hB2 gx x6
     replace x7 := cell_below hB2 gx x7
     replace x8 := cell_below hB2 gx x8
     replace gx := has_of_cell x0
     rcases Nat.lt_or_ge k n with hlk | hgk
     · have HNi := hidden (fun (W : World) (hW : Below w.heap.size w W) => HN.out W hW i hlt)
       have HNk := hidden (fun (W : World) (hW : Below w.heap.size w W) => HN.out W hW k hlk)
       gi_wp2
       refine wpIn_wide.2 ?_
       have HTk := hidden (fun (W : World) => HT.out W i k hlt hlk)
       have HE1 := hidden (fun (W : World) => HE.out W i hlt)
       have HE2 := hidden (fun (W : World) => HE.out W k hlk)
       have H1 := hidden (fun (W : World) => HS.out W k i hlk hlt)
       have H2 := hidden (fun (W : World) => HS.out W i (nxt n k) hlt (nxt_lt hlk))
       have H3 := hidden (fun (W : World) => HS.out W k (nxt n i) hlk (nxt_lt hlt))
       have H4 := hidden (fun (W : World) => HS.out W i k hlt hlk)
       have n1 : lnX H (nxt n i) = lnX H i + lnDX H i := by rw [← hn]; exact ln_nx H i
       have n2 : lnY H (nxt n i) = lnY H i + lnDY H i := by rw [← hn]; exact ln_ny H i
       have n3 : lnX H (nxt n k) = lnX H k + lnDX H k := by rw [← hn]; exact ln_nx H k
       have n4 : lnY H (nxt n k) = lnY H k + lnDY H k := by rw [← hn]; exact ln_ny H k
       change Hid (∀ W, Calls _ _ _ _ (RetX W (.bool (lnT H i k)))) at HTk
       change Hid (∀ W, Calls _ _ _ _ (RetX W (.bool (lnHs H k i)))) at H1
       change Hid (∀ W, Calls _ _ _ _ (RetX W (.bool (lnHs H i (nxt n k))))) at H2
       change Hid (∀ W, Calls _ _ _ _ (RetX W (.bool (lnHs H k (nxt n i))))) at H3
       change Hid (∀ W, Calls _ _ _ _ (RetX W (.bool (lnHs H i k)))) at H4
       rw [n3, n4] at H2
       rw [n1, n2] at H3
       have HP : Hid (pairB n (lnHs H) (lnT H) i k = if k = i + 1 then (lnHs H k i || lnHs H i (nxt n k)) || (decide (i = 0 ∧ k + 1 = n) && (lnHs H k (nxt n i) || lnHs H i k)) else if i = 0 ∧ k + 1 = n then lnHs H k (nxt n i) || lnHs H i k else lnT H i k) := rfl
       have hst : Hid (pairB n (lnHs H) (lnT H) i k = true → refSimpleB H = false) := fun h => by
        subst hn
        exact refSimple_stop hlt hlk hik h
       have hgo : Hid (pairB n (lnHs H) (lnT H) i k = false → ∀ j, i < j → j < k + 1 → pairB n (lnHs H) (lnT H) i j = false) := fun he j h1 h2 => by
        rcases Nat.lt_or_ge j k with h' | h'
        · exact hno2 j h1 h'
        · obtain rfl : j = k := by omega
          exact he
       have hHK := hidden hno
       clear HN HT HS HE hno hno2 n1 n2 n3 n4
       generalize pairB n (lnHs H) (lnT H) i k = pb at *
       generalize lnT H i k = t at *
       generalize lnHs H k i = b1 at *
       generalize lnHs H i (nxt n k) = b2 at *
       generalize lnHs H k (nxt n i) = b3 at *
       generalize lnHs H i k = b4 at *
       refine viaW (fun a W => ∃ p q, ∃ u2 u8 u9 u10 u11 u12 u13 : Value, ∃ rest : List Value, a = { tmps := List.toArray (.agg #[.string H.name, .int .i64 H.height, .string H.floor, .string H.ceil, .slice A4 H.mats.length c4, .slice A5 n c5, .slice A6 n c6, .slice A7 H.cans.length c7, .slice A8 H.seas.length c8] :: .pointer (some ⟨w.heap.size, 0, none⟩) :: u2 :: .int .i64 (n : Int) :: .int .i64 (i : Int) :: .int .i64 (k : Int) :: .pointer (some ⟨p, 0, none⟩) :: .pointer (some ⟨q, 0, none⟩) :: u8 :: u9 :: u10 :: u11 :: u12 :: u13 :: .pointer (some ⟨w.heap.size, 6, none⟩) :: .slice A6 n c6 :: .int .i64 (n : Int) :: .int .i64 (i : Int) :: .int .i64 (n : Int) :: .bool true :: u20 :: u21 :: .int .i64 (i : Int) :: .int .i64 ((i : Int) + 1) :: rest), defers := [] } ∧ rest.length = 68 ∧ Below wr.heap.size wr W ∧ Four (lnX H i) (lnY H i) (lnDX H i) (lnDY H i) p W ∧ Four (lnX H k) (lnY H k) (lnDX H k) (lnDY H k) q W) (fun HK => ?_) ?_
       · skip
         (refine wp_region_tree (by kernel_rfl) ?_)
         (refine tree_pure 0 rfl (by kernel_rfl) (by kernel_rfl) (by kernel_rfl) rfl rfl rfl (fun K hK => ?_)); go_big_quiet_op; refine hK _ ?_; clear hK K
         (refine tree_pure 1 rfl (by kernel_rfl) (by kernel_rfl) (by kernel_rfl) rfl rfl rfl (fun K hK => ?_)); go_big_quiet_op; refine hK _ ?_; clear hK K
         (refine tree_pure 3 rfl (by kernel_rfl) (by kernel_rfl) (by kernel_rfl) rfl rfl rfl (fun K hK => ?_)); go_big_quiet_op; refine hK _ ?_; clear hK K
         (refine tree_pure 4 rfl (by kernel_rfl) (by kernel_rfl) (by kernel_rfl) rfl rfl rfl (fun K hK => ?_)); go_big_quiet_op; refine hK _ ?_; clear hK K
         refine tree_all [2, 6, 7] (by kernel_rfl) (by decide) ?_
         intro i hi
         simp only [List.mem_cons, List.not_mem_nil, or_false] at hi
         rcases hi with rfl | rfl | rfl
         · (refine tree_eff 2 rfl rfl rfl (fun K hK => ?_)); go_big_op; (first | (go_at_call 97; first | ((with_reducible refine (HNi.out _ ?hk).mono ?_); (case hk => (repeat' first | with_reducible (first | apply bz0 | assumption | apply bz1 | apply bz2 | apply bz3 | apply bz4 | apply bz5) | (simp <;> omega))); rintro e w' ⟨rfl, z1, rfl⟩) | ((with_reducible refine (HNk.out _ ?hk).mono ?_); (case hk => (repeat' first | with_reducible (first | apply bz0 | assumption | apply bz1 | apply bz2 | apply bz3 | apply bz4 | apply bz5) | (simp <;> omega))); rintro e w' ⟨rfl, z2, rfl⟩)) | skip); (refine hK _ _ rfl (ext_of_below (by (repeat' first | with_reducible (first | apply bz0 | assumption | apply bz1 | apply bz2 | apply bz3 | apply bz4 | apply bz5) | (simp <;> omega)))) ?_; clear hK K)
           refine tree_all [5, 6, 7] (by kernel_rfl) (by decide) ?_
           intro i hi
           simp only [List.mem_cons, List.not_mem_nil, or_false] at hi
           rcases hi with rfl | rfl | rfl
           · (refine tree_eff 5 rfl rfl rfl (fun K hK => ?_)); go_big_op; (first | (go_at_call 97; first | ((with_reducible refine (HNi.out _ ?hk).mono ?_); (case hk => (repeat' first | with_reducible (first | apply bz0 | assumption | apply bz1 | apply bz2 | apply bz3 | apply bz4 | apply bz5) | (simp <;> omega))); rintro e w' ⟨rfl, z1, rfl⟩) | ((with_reducible refine (HNk.out _ ?hk).mono ?_); (case hk => (repeat' first | with_reducible (first | apply bz0 | assumption | apply bz1 | apply bz2 | apply bz3 | apply bz4 | apply bz5) | (simp <;> omega))); rintro e w' ⟨rfl, z2, rfl⟩)) | skip); (refine hK _ _ rfl (ext_of_below (by (repeat' first | with_reducible (first | apply bz0 | assumption | apply bz1 | apply bz2 | apply bz3 | apply bz4 | apply bz5) | (simp <;> omega)))) ?_; clear hK K)
             refine tree_all [6, 7] (by kernel_rfl) (by decide) ?_
             intro i hi
             simp only [List.mem_cons, List.not_mem_nil, or_false] at hi
             rcases hi with rfl | rfl
             · (refine tree_eff 6 rfl rfl rfl (fun K hK => ?_)); go_big_op; (refine hK _ _ rfl (ext_of_below (by (repeat' first | with_reducible (first | apply bz0 | assumption | apply bz1 | apply bz2 | apply bz3 | apply bz4 | apply bz5) | (simp <;> omega)))) ?_; clear hK K)
               refine tree_all [7] (by kernel_rfl) (by decide) ?_
               intro i hi
               simp only [List.mem_cons, List.not_mem_nil, or_false] at hi
               subst hi
               (refine tree_eff 7 rfl rfl rfl (fun K hK => ?_)); go_big_op; (refine hK _ _ rfl (ext_of_below (by (repeat' first | with_reducible (first | apply bz0 | assumption | apply bz1 | apply bz2 | apply bz3 | apply bz4 | apply bz5) | (simp <;> omega)))) ?_; clear hK K)
               refine tree_all [8] (by kernel_rfl) (by decide) ?_
               intro i hi
               simp only [List.mem_cons, List.not_mem_nil, or_false] at hi
               subst hi
               (refine tree_eff 8 rfl rfl rfl (fun K hK => ?_)); go_big_op; (refine hK _ _ rfl (ext_of_below (by (repeat' first | with_reducible (first | apply bz0 | assumption | apply bz1 | apply bz2 | apply bz3 | apply bz4 | apply bz5) | (simp <;> omega)))) ?_; clear hK K)
               refine tree_all [9] (by kernel_rfl) (by decide) ?_
               intro i hi
               simp only [List.mem_cons, List.not_mem_nil, or_false] at hi
               subst hi
               (refine tree_eff 9 rfl rfl rfl (fun K hK => ?_)); go_big_op; (refine hK _ _ rfl (ext_of_below (by (repeat' first | with_reducible (first | apply bz0 | assumption | apply bz1 | apply bz2 | apply bz3 | apply bz4 | apply bz5) | (simp <;> omega)))) ?_; clear hK K)
               refine tree_done (by kernel_rfl) ?_
               (exact HK _ _ ⟨_, _, _, _, _, _, _, _, _, _, rfl, rfl, (by (repeat' first | with_reducible (first | apply bz0 | assumption | apply bz1 | apply bz2 | apply bz3 | apply bz4 | apply bz5) | (simp <;> omega))), (by constructor <;> simp [go_sem]), (by constructor <;> simp [go_sem])⟩)
             · (refine tree_eff 7 rfl rfl rfl (fun K hK => ?_)); go_big_op; (refine hK _ _ rfl (ext_of_below (by (repeat' first | with_reducible (first | apply bz0 | assumption | apply bz1 | apply bz2 | apply bz3 | apply bz4 | apply bz5) | (simp <;> omega)))) ?_; clear hK K)
               refine tree_all [6] (by kernel_rfl) (by decide) ?_
               intro i hi
               simp only [List.mem_cons, List.not_mem_nil, or_false] at hi
               subst hi
               (refine tree_eff 6 rfl rfl rfl (fun K hK => ?_)); go_big_op; (refine hK _ _ rfl (ext_of_below (by (repeat' first | with_reducible (first | apply bz0 | assumption | apply bz1 | apply bz2 | apply bz3 | apply bz4 | apply bz5) | (simp <;> omega)))) ?_; clear hK K)
               refine tree_all [8] (by kernel_rfl) (by decide) ?_
               intro i hi
               simp only [List.mem_cons, List.not_mem_nil, or_false] at hi
               subst hi
               (refine tree_eff 8 rfl rfl rfl (fun K hK => ?_)); go_big_op; (refine hK _ _ rfl (ext_of_below (by (repeat' first | with_reducible (first | apply bz0 | assumption | apply bz1 | apply bz2 | apply bz3 | apply bz4 | apply bz5) | (simp <;> omega)))) ?_; clear hK K)
               refine tree_all [9] (by kernel_rfl) (by decide) ?_
               intro i hi
               simp only [List.mem_cons, List.not_mem_nil, or_false] at hi
               subst hi
               (refine tree_eff 9 rfl rfl rfl (fun K hK => ?_)); go_big_op; (refine hK _ _ rfl (ext_of_below (by (repeat' first | with_reducible (first | apply bz0 | assumption | apply bz1 | apply bz2 | apply bz3 | apply bz4 | apply bz5) | (simp <;> omega)))) ?_; clear hK K)
               refine tree_done (by kernel_rfl) ?_
               (exact HK _ _ ⟨_, _, _, _, _, _, _, _, _, _, rfl, rfl, (by (repeat' first | with_reducible (first | apply bz0 | assumption | apply bz1 | apply bz2 | apply bz3 | apply bz4 | apply bz5) | (simp <;> omega))), (by constructor <;> simp [go_sem]), (by constructor <;> simp [go_sem])⟩)
           · (refine tree_eff 6 rfl rfl rfl (fun K hK => ?_)); go_big_op; (refine hK _ _ rfl (ext_of_below (by (repeat' first | with_reducible (first | apply bz0 | assumption | apply bz1 | apply bz2 | apply bz3 | apply bz4 | apply bz5) | (simp <;> omega)))) ?_; clear hK K)
             refine tree_all [5, 7] (by kernel_rfl) (by decide) ?_
             intro i hi
             simp only [List.mem_cons, List.not_mem_nil, or_false] at hi
             rcases hi with rfl | rfl
             · (refine tree_eff 5 rfl rfl rfl (fun K hK => ?_)); go_big_op; (first | (go_at_call 97; first | ((with_reducible refine (HNi.out _ ?hk).mono ?_); (case hk => (repeat' first | with_reducible (first | apply bz0 | assumption | apply bz1 | apply bz2 | apply bz3 | apply bz4 | apply bz5) | (simp <;> omega))); rintro e w' ⟨rfl, z1, rfl⟩) | ((with_reducible refine (HNk.out _ ?hk).mono ?_); (case hk => (repeat' first | with_reducible (first | apply bz0 | assumption | apply bz1 | apply bz2 | apply bz3 | apply bz4 | apply bz5) | (simp <;> omega))); rintro e w' ⟨rfl, z2, rfl⟩)) | skip); (refine hK _ _ rfl (ext_of_below (by (repeat' first | with_reducible (first | apply bz0 | assumption | apply bz1 | apply bz2 | apply bz3 | apply bz4 | apply bz5) | (simp <;> omega)))) ?_; clear hK K)
               refine tree_all [7] (by kernel_rfl) (by decide) ?_
               intro i hi
               simp only [List.mem_cons, List.not_mem_nil, or_false] at hi
               subst hi
               (refine tree_eff 7 rfl rfl rfl (fun K hK => ?_)); go_big_op; (refine hK _ _ rfl (ext_of_below (by (repeat' first | with_reducible (first | apply bz0 | assumption | apply bz1 | apply bz2 | apply bz3 | apply bz4 | apply bz5) | (simp <;> omega)))) ?_; clear hK K)
               refine tree_all [8] (by kernel_rfl) (by decide) ?_
               intro i hi
               simp only [List.mem_cons, List.not_mem_nil, or_false] at hi
               subst hi
               (refine tree_eff 8 rfl rfl rfl (fun K hK => ?_)); go_big_op; (refine hK _ _ rfl (ext_of_below (by (repeat' first | with_reducible (first | apply bz0 | assumption | apply bz1 | apply bz2 | apply bz3 | apply bz4 | apply bz5) | (simp <;> omega)))) ?_; clear hK K)
               refine tree_all [9] (by kernel_rfl) (by decide) ?_
               intro i hi
               simp only [List.mem_cons, List.not_mem_nil, or_false] at hi
               subst hi
               (refine tree_eff 9 rfl rfl rfl (fun K hK => ?_)); go_big_op; (refine hK _ _ rfl (ext_of_below (by (repeat' first | with_reducible (first | apply bz0 | assumption | apply bz1 | apply bz2 | apply bz3 | apply bz4 | apply bz5) | (simp <;> omega)))) ?_; clear hK K)
               refine tree_done (by kernel_rfl) ?_
               (exact HK _ _ ⟨_, _, _, _, _, _, _, _, _, _, rfl, rfl, (by (repeat' first | with_reducible (first | apply bz0 | assumption | apply bz1 | apply bz2 | apply bz3 | apply bz4 | apply bz5) | (simp <;> omega))), (by constructor <;> simp [go_sem]), (by constructor <;> simp [go_sem])⟩)
             · (refine tree_eff 7 rfl rfl rfl (fun K hK => ?_)); go_big_op; (refine hK _ _ rfl (ext_of_below (by (repeat' first | with_reducible (first | apply bz0 | assumption | apply bz1 | apply bz2 | apply bz3 | apply bz4 | apply bz5) | (simp <;> omega)))) ?_; clear hK K)
               refine tree_all [5] (by kernel_rfl) (by decide) ?_
               intro i hi
               simp only [List.mem_cons, List.not_mem_nil, or_false] at hi
               subst hi
               (refine tree_eff 5 rfl rfl rfl (fun K hK => ?_)); go_big_op; (first | (go_at_call 97; first | ((with_reducible refine (HNi.out _ ?hk).mono ?_); (case hk => (repeat' first | with_reducible (first | apply bz0 | assumption | apply bz1 | apply bz2 | apply bz3 | apply bz4 | apply bz5) | (simp <;> omega))); rintro e w' ⟨rfl, z1, rfl⟩) | ((with_reducible refine (HNk.out _ ?hk).mono ?_); (case hk => (repeat' first | with_reducible (first | apply bz0 | assumption | apply bz1 | apply bz2 | apply bz3 | apply bz4 | apply bz5) | (simp <;> omega))); rintro e w' ⟨rfl, z2, rfl⟩)) | skip); (refine hK _ _ rfl (ext_of_below (by (repeat' first | with_reducible (first | apply bz0 | assumption | apply bz1 | apply bz2 | apply bz3 | apply bz4 | apply bz5) | (simp <;> omega)))) ?_; clear hK K)
               refine tree_all [8] (by kernel_rfl) (by decide) ?_
               intro i hi
               simp only [List.mem_cons, List.not_mem_nil, or_false] at hi
               subst hi
               (refine tree_eff 8 rfl rfl rfl (fun K hK => ?_)); go_big_op; (refine hK _ _ rfl (ext_of_below (by (repeat' first | with_reducible (first | apply bz0 | assumption | apply bz1 | apply bz2 | apply bz3 | apply bz4 | apply bz5) | (simp <;> omega)))) ?_; clear hK K)
               refine tree_all [9] (by kernel_rfl) (by decide) ?_
               intro i hi
               simp only [List.mem_cons, List.not_mem_nil, or_false] at hi
               subst hi
               (refine tree_eff 9 rfl rfl rfl (fun K hK => ?_)); go_big_op; (refine hK _ _ rfl (ext_of_below (by (repeat' first | with_reducible (first | apply bz0 | assumption | apply bz1 | apply bz2 | apply bz3 | apply bz4 | apply bz5) | (simp <;> omega)))) ?_; clear hK K)
               refine tree_done (by kernel_rfl) ?_
               (exact HK _ _ ⟨_, _, _, _, _, _, _, _, _, _, rfl, rfl, (by (repeat' first | with_reducible (first | apply bz0 | assumption | apply bz1 | apply bz2 | apply bz3 | apply bz4 | apply bz5) | (simp <;> omega))), (by constructor <;> simp [go_sem]), (by constructor <;> simp [go_sem])⟩)
           · (refine tree_eff 7 rfl rfl rfl (fun K hK => ?_)); go_big_op; (refine hK _ _ rfl (ext_of_below (by (repeat' first | with_reducible (first | apply bz0 | assumption | apply bz1 | apply bz2 | apply bz3 | apply bz4 | apply bz5) | (simp <;> omega)))) ?_; clear hK K)
             refine tree_all [5, 6] (by kernel_rfl) (by decide) ?_
             intro i hi
             simp only [List.mem_cons, List.not_mem_nil, or_false] at hi
             rcases hi with rfl | rfl
             · (refine tree_eff 5 rfl rfl rfl (fun K hK => ?_)); go_big_op; (first | (go_at_call 97; first | ((with_reducible refine (HNi.out _ ?hk).mono ?_); (case hk => (repeat' first | with_reducible (first | apply bz0 | assumption | apply bz1 | apply bz2 | apply bz3 | apply bz4 | apply bz5) | (simp <;> omega))); rintro e w' ⟨rfl, z1, rfl⟩) | ((with_reducible refine (HNk.out _ ?hk).mono ?_); (case hk => (repeat' first | with_reducible (first | apply bz0 | assumption | apply bz1 | apply bz2 | apply bz3 | apply bz4 | apply bz5) | (simp <;> omega))); rintro e w' ⟨rfl, z2, rfl⟩)) | skip); (refine hK _ _ rfl (ext_of_below (by (repeat' first | with_reducible (first | apply bz0 | assumption | apply bz1 | apply bz2 | apply bz3 | apply bz4 | apply bz5) | (simp <;> omega)))) ?_; clear hK K)
               refine tree_all [6] (by kernel_rfl) (by decide) ?_
               intro i hi
               simp only [List.mem_cons, List.not_mem_nil, or_false] at hi
               subst hi
               (refine tree_eff 6 rfl rfl rfl (fun K hK => ?_)); go_big_op; (refine hK _ _ rfl (ext_of_below (by (repeat' first | with_reducible (first | apply bz0 | assumption | apply bz1 | apply bz2 | apply bz3 | apply bz4 | apply bz5) | (simp <;> omega)))) ?_; clear hK K)
               refine tree_all [8] (by kernel_rfl) (by decide) ?_
               intro i hi
               simp only [List.mem_cons, List.not_mem_nil, or_false] at hi
               subst hi
               (refine tree_eff 8 rfl rfl rfl (fun K hK => ?_)); go_big_op; (refine hK _ _ rfl (ext_of_below (by (repeat' first | with_reducible (first | apply bz0 | assumption | apply bz1 | apply bz2 | apply bz3 | apply bz4 | apply bz5) | (simp <;> omega)))) ?_; clear hK K)
               refine tree_all [9] (by kernel_rfl) (by decide) ?_
               intro i hi
               simp only [List.mem_cons, List.not_mem_nil, or_false] at hi
               subst hi
               (refine tree_eff 9 rfl rfl rfl (fun K hK => ?_)); go_big_op; (refine hK _ _ rfl (ext_of_below (by (repeat' first | with_reducible (first | apply bz0 | assumption | apply bz1 | apply bz2 | apply bz3 | apply bz4 | apply bz5) | (simp <;> omega)))) ?_; clear hK K)
               refine tree_done (by kernel_rfl) ?_
               (exact HK _ _ ⟨_, _, _, _, _, _, _, _, _, _, rfl, rfl, (by (repeat' first | with_reducible (first | apply bz0 | assumption | apply bz1 | apply bz2 | apply bz3 | apply bz4 | apply bz5) | (simp <;> omega))), (by constructor <;> simp [go_sem]), (by constructor <;> simp [go_sem])⟩)
             · (refine tree_eff 6 rfl rfl rfl (fun K hK => ?_)); go_big_op; (refine hK _ _ rfl (ext_of_below (by (repeat' first | with_reducible (first | apply bz0 | assumption | apply bz1 | apply bz2 | apply bz3 | apply bz4 | apply bz5) | (simp <;> omega)))) ?_; clear hK K)
               refine tree_all [5] (by kernel_rfl) (by decide) ?_
               intro i hi
               simp only [List.mem_cons, List.not_mem_nil, or_false] at hi
               subst hi
               (refine tree_eff 5 rfl rfl rfl (fun K hK => ?_)); go_big_op; (first | (go_at_call 97; first | ((with_reducible refine (HNi.out _ ?hk).mono ?_); (case hk => (repeat' first | with_reducible (first | apply bz0 | assumption | apply bz1 | apply bz2 | apply bz3 | apply bz4 | apply bz5) | (simp <;> omega))); rintro e w' ⟨rfl, z1, rfl⟩) | ((with_reducible refine (HNk.out _ ?hk).mono ?_); (case hk => (repeat' first | with_reducible (first | apply bz0 | assumption | apply bz1 | apply bz2 | apply bz3 | apply bz4 | apply bz5) | (simp <;> omega))); rintro e w' ⟨rfl, z2, rfl⟩)) | skip); (refine hK _ _ rfl (ext_of_below (by (repeat' first | with_reducible (first | apply bz0 | assumption | apply bz1 | apply bz2 | apply bz3 | apply bz4 | apply bz5) | (simp <;> omega)))) ?_; clear hK K)
               refine tree_all [8] (by kernel_rfl) (by decide) ?_
               intro i hi
               simp only [List.mem_cons, List.not_mem_nil, or_false] at hi
               subst hi
               (refine tree_eff 8 rfl rfl rfl (fun K hK => ?_)); go_big_op; (refine hK _ _ rfl (ext_of_below (by (repeat' first | with_reducible (first | apply bz0 | assumption | apply bz1 | apply bz2 | apply bz3 | apply bz4 | apply bz5) | (simp <;> omega)))) ?_; clear hK K)
               refine tree_all [9] (by kernel_rfl) (by decide) ?_
               intro i hi
               simp only [List.mem_cons, List.not_mem_nil, or_false] at hi
               subst hi
               (refine tree_eff 9 rfl rfl rfl (fun K hK => ?_)); go_big_op; (refine hK _ _ rfl (ext_of_below (by (repeat' first | with_reducible (first | apply bz0 | assumption | apply bz1 | apply bz2 | apply bz3 | apply bz4 | apply bz5) | (simp <;> omega)))) ?_; clear hK K)
               refine tree_done (by kernel_rfl) ?_
               (exact HK _ _ ⟨_, _, _, _, _, _, _, _, _, _, rfl, rfl, (by (repeat' first | with_reducible (first | apply bz0 | assumption | apply bz1 | apply bz2 | apply bz3 | apply bz4 | apply bz5) | (simp <;> omega))), (by constructor <;> simp [go_sem]), (by constructor <;> simp [go_sem])⟩)
         · (refine tree_eff 6 rfl rfl rfl (fun K hK => ?_)); go_big_op; (refine hK _ _ rfl (ext_of_below (by (repeat' first | with_reducible (first | apply bz0 | assumption | apply bz1 | apply bz2 | apply bz3 | apply bz4 | apply bz5) | (simp <;> omega)))) ?_; clear hK K)
           refine tree_all [2, 7] (by kernel_rfl) (by decide) ?_
           intro i hi
           simp only [List.mem_cons, List.not_mem_nil, or_false] at hi
           rcases hi with rfl | rfl
           · (refine tree_eff 2 rfl rfl rfl (fun K hK => ?_)); go_big_op; (first | (go_at_call 97; first | ((with_reducible refine (HNi.out _ ?hk).mono ?_); (case hk => (repeat' first | with_reducible (first | apply bz0 | assumption | apply bz1 | apply bz2 | apply bz3 | apply bz4 | apply bz5) | (simp <;> omega))); rintro e w' ⟨rfl, z1, rfl⟩) | ((with_reducible refine (HNk.out _ ?hk).mono ?_); (case hk => (repeat' first | with_reducible (first | apply bz0 | assumption | apply bz1 | apply bz2 | apply bz3 | apply bz4 | apply bz5) | (simp <;> omega))); rintro e w' ⟨rfl, z2, rfl⟩)) | skip); (refine hK _ _ rfl (ext_of_below (by (repeat' first | with_reducible (first | apply bz0 | assumption | apply bz1 | apply bz2 | apply bz3 | apply bz4 | apply bz5) | (simp <;> omega)))) ?_; clear hK K)
             refine tree_all [5, 7] (by kernel_rfl) (by decide) ?_
             intro i hi
             simp only [List.mem_cons, List.not_mem_nil, or_false] at hi
             rcases hi with rfl | rfl
             · (refine tree_eff 5 rfl rfl rfl (fun K hK => ?_)); go_big_op; (first | (go_at_call 97; first | ((with_reducible refine (HNi.out _ ?hk).mono ?_); (case hk => (repeat' first | with_reducible (first | apply bz0 | assumption | apply bz1 | apply bz2 | apply bz3 | apply bz4 | apply bz5) | (simp <;> omega))); rintro e w' ⟨rfl, z1, rfl⟩) | ((with_reducible refine (HNk.out _ ?hk).mono ?_); (case hk => (repeat' first | with_reducible (first | apply bz0 | assumption | apply bz1 | apply bz2 | apply bz3 | apply bz4 | apply bz5) | (simp <;> omega))); rintro e w' ⟨rfl, z2, rfl⟩)) | skip); (refine hK _ _ rfl (ext_of_below (by (repeat' first | with_reducible (first | apply bz0 | assumption | apply bz1 | apply bz2 | apply bz3 | apply bz4 | apply bz5) | (simp <;> omega)))) ?_; clear hK K)
               refine tree_all [7] (by kernel_rfl) (by decide) ?_
               intro i hi
               simp only [List.mem_cons, List.not_mem_nil, or_false] at hi
               subst hi
               (refine tree_eff 7 rfl rfl rfl (fun K hK => ?_)); go_big_op; (refine hK _ _ rfl (ext_of_below (by (repeat' first | with_reducible (first | apply bz0 | assumption | apply bz1 | apply bz2 | apply bz3 | apply bz4 | apply bz5) | (simp <;> omega)))) ?_; clear hK K)
               refine tree_all [8] (by kernel_rfl) (by decide) ?_
               intro i hi
               simp only [List.mem_cons, List.not_mem_nil, or_false] at hi
               subst hi
               (refine tree_eff 8 rfl rfl rfl (fun K hK => ?_)); go_big_op; (refine hK _ _ rfl (ext_of_below (by (repeat' first | with_reducible (first | apply bz0 | assumption | apply bz1 | apply bz2 | apply bz3 | apply bz4 | apply bz5) | (simp <;> omega)))) ?_; clear hK K)
               refine tree_all [9] (by kernel_rfl) (by decide) ?_
               intro i hi
               simp only [List.mem_cons, List.not_mem_nil, or_false] at hi
               subst hi
               (refine tree_eff 9 rfl rfl rfl (fun K hK => ?_)); go_big_op; (refine hK _ _ rfl (ext_of_below (by (repeat' first | with_reducible (first | apply bz0 | assumption | apply bz1 | apply bz2 | apply bz3 | apply bz4 | apply bz5) | (simp <;> omega)))) ?_; clear hK K)
               refine tree_done (by kernel_rfl) ?_
               (exact HK _ _ ⟨_, _, _, _, _, _, _, _, _, _, rfl, rfl, (by (repeat' first | with_reducible (first | apply bz0 | assumption | apply bz1 | apply bz2 | apply bz3 | apply bz4 | apply bz5) | (simp <;> omega))), (by constructor <;> simp [go_sem]), (by constructor <;> simp [go_sem])⟩)
             · (refine tree_eff 7 rfl rfl rfl (fun K hK => ?_)); go_big_op; (refine hK _ _ rfl (ext_of_below (by (repeat' first | with_reducible (first | apply bz0 | assumption | apply bz1 | apply bz2 | apply bz3 | apply bz4 | apply bz5) | (simp <;> omega)))) ?_; clear hK K)
               refine tree_all [5] (by kernel_rfl) (by decide) ?_
               intro i hi
               simp only [List.mem_cons, List.not_mem_nil, or_false] at hi
               subst hi
               (refine tree_eff 5 rfl rfl rfl (fun K hK => ?_)); go_big_op; (first | (go_at_call 97; first | ((with_reducible refine (HNi.out _ ?hk).mono ?_); (case hk => (repeat' first | with_reducible (first | apply bz0 | assumption | apply bz1 | apply bz2 | apply bz3 | apply bz4 | apply bz5) | (simp <;> omega))); rintro e w' ⟨rfl, z1, rfl⟩) | ((with_reducible refine (HNk.out _ ?hk).mono ?_); (case hk => (repeat' first | with_reducible (first | apply bz0 | assumption | apply bz1 | apply bz2 | apply bz3 | apply bz4 | apply bz5) | (simp <;> omega))); rintro e w' ⟨rfl, z2, rfl⟩)) | skip); (refine hK _ _ rfl (ext_of_below (by (repeat' first | with_reducible (first | apply bz0 | assumption | apply bz1 | apply bz2 | apply bz3 | apply bz4 | apply bz5) | (simp <;> omega)))) ?_; clear hK K)
               refine tree_all [8] (by kernel_rfl) (by decide) ?_
               intro i hi
               simp only [List.mem_cons, List.not_mem_nil, or_false] at hi
               subst hi
               (refine tree_eff 8 rfl rfl rfl (fun K hK => ?_)); go_big_op; (refine hK _ _ rfl (ext_of_below (by (repeat' first | with_reducible (first | apply bz0 | assumption | apply bz1 | apply bz2 | apply bz3 | apply bz4 | apply bz5) | (simp <;> omega)))) ?_; clear hK K)
               refine tree_all [9] (by kernel_rfl) (by decide) ?_
               intro i hi
               simp only [List.mem_cons, List.not_mem_nil, or_false] at hi
               subst hi
               (refine tree_eff 9 rfl rfl rfl (fun K hK => ?_)); go_big_op; (refine hK _ _ rfl (ext_of_below (by (repeat' first | with_reducible (first | apply bz0 | assumption | apply bz1 | apply bz2 | apply bz3 | apply bz4 | apply bz5) | (simp <;> omega)))) ?_; clear hK K)
               refine tree_done (by kernel_rfl) ?_
               (exact HK _ _ ⟨_, _, _, _, _, _, _, _, _, _, rfl, rfl, (by (repeat' first | with_reducible (first | apply bz0 | assumption | apply bz1 | apply bz2 | apply bz3 | apply bz4 | apply bz5) | (simp <;> omega))), (by constructor <;> simp [go_sem]), (by constructor <;> simp [go_sem])⟩)
           · (refine tree_eff 7 rfl rfl rfl (fun K hK => ?_)); go_big_op; (refine hK _ _ rfl (ext_of_below (by (repeat' first | with_reducible (first | apply bz0 | assumption | apply bz1 | apply bz2 | apply bz3 | apply bz4 | apply bz5) | (simp <;> omega)))) ?_; clear hK K)
             refine tree_all [2] (by kernel_rfl) (by decide) ?_
             intro i hi
             simp only [List.mem_cons, List.not_mem_nil, or_false] at hi
             subst hi
             (refine tree_eff 2 rfl rfl rfl (fun K hK => ?_)); go_big_op; (first | (go_at_call 97; first | ((with_reducible refine (HNi.out _ ?hk).mono ?_); (case hk => (repeat' first | with_reducible (first | apply bz0 | assumption | apply bz1 | apply bz2 | apply bz3 | apply bz4 | apply bz5) | (simp <;> omega))); rintro e w' ⟨rfl, z1, rfl⟩) | ((with_reducible refine (HNk.out _ ?hk).mono ?_); (case hk => (repeat' first | with_reducible (first | apply bz0 | assumption | apply bz1 | apply bz2 | apply bz3 | apply bz4 | apply bz5) | (simp <;> omega))); rintro e w' ⟨rfl, z2, rfl⟩)) | skip); (refine hK _ _ rfl (ext_of_below (by (repeat' first | with_reducible (first | apply bz0 | assumption | apply bz1 | apply bz2 | apply bz3 | apply bz4 | apply bz5) | (simp <;> omega)))) ?_; clear hK K)
             refine tree_all [5] (by kernel_rfl) (by decide) ?_
             intro i hi
             simp only [List.mem_cons, List.not_mem_nil, or_false] at hi
             subst hi
             (refine tree_eff 5 rfl rfl rfl (fun K hK => ?_)); go_big_op; (first | (go_at_call 97; first | ((with_reducible refine (HNi.out _ ?hk).mono ?_); (case hk => (repeat' first | with_reducible (first | apply bz0 | assumption | apply bz1 | apply bz2 | apply bz3 | apply bz4 | apply bz5) | (simp <;> omega))); rintro e w' ⟨rfl, z1, rfl⟩) | ((with_reducible refine (HNk.out _ ?hk).mono ?_); (case hk => (repeat' first | with_reducible (first | apply bz0 | assumption | apply bz1 | apply bz2 | apply bz3 | apply bz4 | apply bz5) | (simp <;> omega))); rintro e w' ⟨rfl, z2, rfl⟩)) | skip); (refine hK _ _ rfl (ext_of_below (by (repeat' first | with_reducible (first | apply bz0 | assumption | apply bz1 | apply bz2 | apply bz3 | apply bz4 | apply bz5) | (simp <;> omega)))) ?_; clear hK K)
             refine tree_all [8] (by kernel_rfl) (by decide) ?_
             intro i hi
             simp only [List.mem_cons, List.not_mem_nil, or_false] at hi
             subst hi
             (refine tree_eff 8 rfl rfl rfl (fun K hK => ?_)); go_big_op; (refine hK _ _ rfl (ext_of_below (by (repeat' first | with_reducible (first | apply bz0 | assumption | apply bz1 | apply bz2 | apply bz3 | apply bz4 | apply bz5) | (simp <;> omega)))) ?_; clear hK K)
             refine tree_all [9] (by kernel_rfl) (by decide) ?_
             intro i hi
             simp only [List.mem_cons, List.not_mem_nil, or_false] at hi
             subst hi
             (refine tree_eff 9 rfl rfl rfl (fun K hK => ?_)); go_big_op; (refine hK _ _ rfl (ext_of_below (by (repeat' first | with_reducible (first | apply bz0 | assumption | apply bz1 | apply bz2 | apply bz3 | apply bz4 | apply bz5) | (simp <;> omega)))) ?_; clear hK K)
             refine tree_done (by kernel_rfl) ?_
             (exact HK _ _ ⟨_, _, _, _, _, _, _, _, _, _, rfl, rfl, (by (repeat' first | with_reducible (first | apply bz0 | assumption | apply bz1 | apply bz2 | apply bz3 | apply bz4 | apply bz5) | (simp <;> omega))), (by constructor <;> simp [go_sem]), (by constructor <;> simp [go_sem])⟩)
         · (refine tree_eff 7 rfl rfl rfl (fun K hK => ?_)); go_big_op; (refine hK _ _ rfl (ext_of_below (by (repeat' first | with_reducible (first | apply bz0 | assumption | apply bz1 | apply bz2 | apply bz3 | apply bz4 | apply bz5) | (simp <;> omega)))) ?_; clear hK K)
           refine tree_all [2, 6] (by kernel_rfl) (by decide) ?_
           intro i hi
           simp only [List.mem_cons, List.not_mem_nil, or_false] at hi
           rcases hi with rfl | rfl
           · (refine tree_eff 2 rfl rfl rfl (fun K hK => ?_)); go_big_op; (first | (go_at_call 97; first | ((with_reducible refine (HNi.out _ ?hk).mono ?_); (case hk => (repeat' first | with_reducible (first | apply bz0 | assumption | apply bz1 | apply bz2 | apply bz3 | apply bz4 | apply bz5) | (simp <;> omega))); rintro e w' ⟨rfl, z1, rfl⟩) | ((with_reducible refine (HNk.out _ ?hk).mono ?_); (case hk => (repeat' first | with_reducible (first | apply bz0 | assumption | apply bz1 | apply bz2 | apply bz3 | apply bz4 | apply bz5) | (simp <;> omega))); rintro e w' ⟨rfl, z2, rfl⟩)) | skip); (refine hK _ _ rfl (ext_of_below (by (repeat' first | with_reducible (first | apply bz0 | assumption | apply bz1 | apply bz2 | apply bz3 | apply bz4 | apply bz5) | (simp <;> omega)))) ?_; clear hK K)
             refine tree_all [5, 6] (by kernel_rfl) (by decide) ?_
             intro i hi
             simp only [List.mem_cons, List.not_mem_nil, or_false] at hi
             rcases hi with rfl | rfl
             · (refine tree_eff 5 rfl rfl rfl (fun K hK => ?_)); go_big_op; (first | (go_at_call 97; first | ((with_reducible refine (HNi.out _ ?hk).mono ?_); (case hk => (repeat' first | with_reducible (first | apply bz0 | assumption | apply bz1 | apply bz2 | apply bz3 | apply bz4 | apply bz5) | (simp <;> omega))); rintro e w' ⟨rfl, z1, rfl⟩) | ((with_reducible refine (HNk.out _ ?hk).mono ?_); (case hk => (repeat' first | with_reducible (first | apply bz0 | assumption | apply bz1 | apply bz2 | apply bz3 | apply bz4 | apply bz5) | (simp <;> omega))); rintro e w' ⟨rfl, z2, rfl⟩)) | skip); (refine hK _ _ rfl (ext_of_below (by (repeat' first | with_reducible (first | apply bz0 | assumption | apply bz1 | apply bz2 | apply bz3 | apply bz4 | apply bz5) | (simp <;> omega)))) ?_; clear hK K)
               refine tree_all [6] (by kernel_rfl) (by decide) ?_
               intro i hi
               simp only [List.mem_cons, List.not_mem_nil, or_false] at hi
               subst hi
               (refine tree_eff 6 rfl rfl rfl (fun K hK => ?_)); go_big_op; (refine hK _ _ rfl (ext_of_below (by (repeat' first | with_reducible (first | apply bz0 | assumption | apply bz1 | apply bz2 | apply bz3 | apply bz4 | apply bz5) | (simp <;> omega)))) ?_; clear hK K)
               refine tree_all [8] (by kernel_rfl) (by decide) ?_
               intro i hi
               simp only [List.mem_cons, List.not_mem_nil, or_false] at hi
               subst hi
               (refine tree_eff 8 rfl rfl rfl (fun K hK => ?_)); go_big_op; (refine hK _ _ rfl (ext_of_below (by (repeat' first | with_reducible (first | apply bz0 | assumption | apply bz1 | apply bz2 | apply bz3 | apply bz4 | apply bz5) | (simp <;> omega)))) ?_; clear hK K)
               refine tree_all [9] (by kernel_rfl) (by decide) ?_
               intro i hi
               simp only [List.mem_cons, List.not_mem_nil, or_false] at hi
               subst hi
               (refine tree_eff 9 rfl rfl rfl (fun K hK => ?_)); go_big_op; (refine hK _ _ rfl (ext_of_below (by (repeat' first | with_reducible (first | apply bz0 | assumption | apply bz1 | apply bz2 | apply bz3 | apply bz4 | apply bz5) | (simp <;> omega)))) ?_; clear hK K)
               refine tree_done (by kernel_rfl) ?_
               (exact HK _ _ ⟨_, _, _, _, _, _, _, _, _, _, rfl, rfl, (by (repeat' first | with_reducible (first | apply bz0 | assumption | apply bz1 | apply bz2 | apply bz3 | apply bz4 | apply bz5) | (simp <;> omega))), (by constructor <;> simp [go_sem]), (by constructor <;> simp [go_sem])⟩)
             · (refine tree_eff 6 rfl rfl rfl (fun K hK => ?_)); go_big_op; (refine hK _ _ rfl (ext_of_below (by (repeat' first | with_reducible (first | apply bz0 | assumption | apply bz1 | apply bz2 | apply bz3 | apply bz4 | apply bz5) | (simp <;> omega)))) ?_; clear hK K)
               refine tree_all [5] (by kernel_rfl) (by decide) ?_
               intro i hi
               simp only [List.mem_cons, List.not_mem_nil, or_false] at hi
               subst hi
               (refine tree_eff 5 rfl rfl rfl (fun K hK => ?_)); go_big_op; (first | (go_at_call 97; first | ((with_reducible refine (HNi.out _ ?hk).mono ?_); (case hk => (repeat' first | with_reducible (first | apply bz0 | assumption | apply bz1 | apply bz2 | apply bz3 | apply bz4 | apply bz5) | (simp <;> omega))); rintro e w' ⟨rfl, z1, rfl⟩) | ((with_reducible refine (HNk.out _ ?hk).mono ?_); (case hk => (repeat' first | with_reducible (first | apply bz0 | assumption | apply bz1 | apply bz2 | apply bz3 | apply bz4 | apply bz5) | (simp <;> omega))); rintro e w' ⟨rfl, z2, rfl⟩)) | skip); (refine hK _ _ rfl (ext_of_below (by (repeat' first | with_reducible (first | apply bz0 | assumption | apply bz1 | apply bz2 | apply bz3 | apply bz4 | apply bz5) | (simp <;> omega)))) ?_; clear hK K)
               refine tree_all [8] (by kernel_rfl) (by decide) ?_
               intro i hi
               simp only [List.mem_cons, List.not_mem_nil, or_false] at hi
               subst hi
               (refine tree_eff 8 rfl rfl rfl (fun K hK => ?_)); go_big_op; (refine hK _ _ rfl (ext_of_below (by (repeat' first | with_reducible (first | apply bz0 | assumption | apply bz1 | apply bz2 | apply bz3 | apply bz4 | apply bz5) | (simp <;> omega)))) ?_; clear hK K)
               refine tree_all [9] (by kernel_rfl) (by decide) ?_
               intro i hi
               simp only [List.mem_cons, List.not_mem_nil, or_false] at hi
               subst hi
               (refine tree_eff 9 rfl rfl rfl (fun K hK => ?_)); go_big_op; (refine hK _ _ rfl (ext_of_below (by (repeat' first | with_reducible (first | apply bz0 | assumption | apply bz1 | apply bz2 | apply bz3 | apply bz4 | apply bz5) | (simp <;> omega)))) ?_; clear hK K)
               refine tree_done (by kernel_rfl) ?_
               (exact HK _ _ ⟨_, _, _, _, _, _, _, _, _, _, rfl, rfl, (by (repeat' first | with_reducible (first | apply bz0 | assumption | apply bz1 | apply bz2 | apply bz3 | apply bz4 | apply bz5) | (simp <;> omega))), (by constructor <;> simp [go_sem]), (by constructor <;> simp [go_sem])⟩)
           · (refine tree_eff 6 rfl rfl rfl (fun K hK => ?_)); go_big_op; (refine hK _ _ rfl (ext_of_below (by (repeat' first | with_reducible (first | apply bz0 | assumption | apply bz1 | apply bz2 | apply bz3 | apply bz4 | apply bz5) | (simp <;> omega)))) ?_; clear hK K)
             refine tree_all [2] (by kernel_rfl) (by decide) ?_
             intro i hi
             simp only [List.mem_cons, List.not_mem_nil, or_false] at hi
             subst hi
             (refine tree_eff 2 rfl rfl rfl (fun K hK => ?_)); go_big_op; (first | (go_at_call 97; first | ((with_reducible refine (HNi.out _ ?hk).mono ?_); (case hk => (repeat' first | with_reducible (first | apply bz0 | assumption | apply bz1 | apply bz2 | apply bz3 | apply bz4 | apply bz5) | (simp <;> omega))); rintro e w' ⟨rfl, z1, rfl⟩) | ((with_reducible refine (HNk.out _ ?hk).mono ?_); (case hk => (repeat' first | with_reducible (first | apply bz0 | assumption | apply bz1 | apply bz2 | apply bz3 | apply bz4 | apply bz5) | (simp <;> omega))); rintro e w' ⟨rfl, z2, rfl⟩)) | skip); (refine hK _ _ rfl (ext_of_below (by (repeat' first | with_reducible (first | apply bz0 | assumption | apply bz1 | apply bz2 | apply bz3 | apply bz4 | apply bz5) | (simp <;> omega)))) ?_; clear hK K)
             refine tree_all [5] (by kernel_rfl) (by decide) ?_
             intro i hi
             simp only [List.mem_cons, List.not_mem_nil, or_false] at hi
             subst hi
             (refine tree_eff 5 rfl rfl rfl (fun K hK => ?_)); go_big_op; (first | (go_at_call 97; first | ((with_reducible refine (HNi.out _ ?hk).mono ?_); (case hk => (repeat' first | with_reducible (first | apply bz0 | assumption | apply bz1 | apply bz2 | apply bz3 | apply bz4 | apply bz5) | (simp <;> omega))); rintro e w' ⟨rfl, z1, rfl⟩) | ((with_reducible refine (HNk.out _ ?hk).mono ?_); (case hk => (repeat' first | with_reducible (first | apply bz0 | assumption | apply bz1 | apply bz2 | apply bz3 | apply bz4 | apply bz5) | (simp <;> omega))); rintro e w' ⟨rfl, z2, rfl⟩)) | skip); (refine hK _ _ rfl (ext_of_below (by (repeat' first | with_reducible (first | apply bz0 | assumption | apply bz1 | apply bz2 | apply bz3 | apply bz4 | apply bz5) | (simp <;> omega)))) ?_; clear hK K)
             refine tree_all [8] (by kernel_rfl) (by decide) ?_
             intro i hi
             simp only [List.mem_cons, List.not_mem_nil, or_false] at hi
             subst hi
             (refine tree_eff 8 rfl rfl rfl (fun K hK => ?_)); go_big_op; (refine hK _ _ rfl (ext_of_below (by (repeat' first | with_reducible (first | apply bz0 | assumption | apply bz1 | apply bz2 | apply bz3 | apply bz4 | apply bz5) | (simp <;> omega)))) ?_; clear hK K)
             refine tree_all [9] (by kernel_rfl) (by decide) ?_
             intro i hi
             simp only [List.mem_cons, List.not_mem_nil, or_false] at hi
             subst hi
             (refine tree_eff 9 rfl rfl rfl (fun K hK => ?_)); go_big_op; (refine hK _ _ rfl (ext_of_below (by (repeat' first | with_reducible (first | apply bz0 | assumption | apply bz1 | apply bz2 | apply bz3 | apply bz4 | apply bz5) | (simp <;> omega)))) ?_; clear hK K)
             refine tree_done (by kernel_rfl) ?_
             (exact HK _ _ ⟨_, _, _, _, _, _, _, _, _, _, rfl, rfl, (by (repeat' first | with_reducible (first | apply bz0 | assumption | apply bz1 | apply bz2 | apply bz3 | apply bz4 | apply bz5) | (simp <;> omega))), (by constructor <;> simp [go_sem]), (by constructor <;> simp [go_sem])⟩)
       · rintro _ W ⟨p, q, v2, v8, v9, v10, v11, v12, v13, rest, rfl, hlen, hBW, f1, f2⟩
         obtain ⟨v24, v25, v26, v27, v28, v29, v30, v31, v32, v33, v34, v35, v36, v37, v38, v39, v40, v41, v42, v43, v44, v45, v46, v47, v48, v49, v50, v51, v52, v53, v54, v55, v56, v57, v58, v59, v60, v61, v62, v63, v64, v65, v66, v67, v68, v69, v70, v71, v72, v73, v74, v75, v76, v77, v78, v79, v80, v81, v82, v83, v84, v85, v86, v87, v88, v89, v90, v91, rfl⟩ := list68 hlen
         obtain ⟨f10, f11, f12, f13⟩ := f1
         obtain ⟨f20, f21, f22, f23⟩ := f2
         have gp := has_of_cell f10
         have gq := has_of_cell f20
         have hgW := hBW.size
         clear HNi HNk x0 x1 x2 x3 x4 x5 x6 x7 x8
         have cs : (k = i + 1 ∧ i = 0) ∨ (k = i + 1 ∧ i ≠ 0) ∨ (k ≠ i + 1 ∧ i = 0 ∧ k + 1 = n) ∨ (k ≠ i + 1 ∧ i = 0 ∧ k + 1 ≠ n) ∨ (k ≠ i + 1 ∧ i ≠ 0) := by omega
         rcases cs with ⟨d1, d2⟩ | ⟨d1, d2⟩ | ⟨d1, d2, d3⟩ | ⟨d1, d2, d3⟩ | ⟨d1, d2⟩
         · have g1 : ((k : Int) == (i : Int) + 1) = true := by simp; omega
           have g2 : ((i : Int) == 0) = true := by simp; omega
           have g3 : ((k : Int) == (n : Int) - 1) = false := by simp; omega
           have hP := HP.out
           rw [if_pos d1, show decide (i = 0 ∧ k + 1 = n) = false from decide_eq_false (by omega)] at hP
           clear HP d1 d2 HTk H3 H4
           cases b1 with
           | true =>
            have hz := hidden (hst.out (by rw [hP]; simp))
            clear hP hst hgo
            gi_wp2
            refine ⟨trivial, ?_⟩
            gi_wp2
            (refine ⟨trivial, ?_⟩; ((with_reducible refine (callsIn_wide.2 (HE1.out _)).mono ?_); rintro e w' ⟨rfl, yHE1, rfl⟩)); gi_wp2; (refine ⟨trivial, ?_⟩; ((with_reducible refine (callsIn_wide.2 (HE2.out _)).mono ?_); rintro e w' ⟨rfl, yHE2, rfl⟩)); gi_wp2
            (refine ⟨trivial, ?_⟩; ((with_reducible refine (callsIn_wide.2 (H1.out _)).mono ?_); rintro e w' ⟨rfl, yH1, rfl⟩))
            gi_wp2
            all_goals first | (exfalso; exact undef_ne _ (by assumption)) | skip
            refine ⟨trivial, ?_⟩
            gi_wp2
            all_goals first | (exfalso; exact undef_ne _ (by assumption)) | skip
            refine ⟨trivial, ?_⟩
            gi_wp2
            all_goals first | (exfalso; exact undef_ne _ (by assumption)) | skip
            refine ⟨trivial, ?_⟩
            gi_wp2
            all_goals first | (exfalso; exact undef_ne _ (by assumption)) | skip
            refine bodyPost_ret (v := .bool false) (by simp [results, Tryz.results83, go_sem]) rfl (retX (by rw [hz.out]) (hBw.trans ((show Below wr.heap.size wr _ by (repeat' first | with_reducible (first | apply bz0 | assumption | apply bz1 | apply bz2 | apply bz3 | apply bz4 | apply bz5) | (simp <;> omega))).lower hgs)))
           | false =>
            cases b2 with
            | true =>
             have hz := hidden (hst.out (by rw [hP]; simp))
             clear hP hst hgo
             gi_wp2
             refine ⟨trivial, ?_⟩
             gi_wp2
             (refine ⟨trivial, ?_⟩; ((with_reducible refine (callsIn_wide.2 (HE1.out _)).mono ?_); rintro e w' ⟨rfl, yHE1, rfl⟩)); gi_wp2; (refine ⟨trivial, ?_⟩; ((with_reducible refine (callsIn_wide.2 (HE2.out _)).mono ?_); rintro e w' ⟨rfl, yHE2, rfl⟩)); gi_wp2
             (refine ⟨trivial, ?_⟩; ((with_reducible refine (callsIn_wide.2 (H1.out _)).mono ?_); rintro e w' ⟨rfl, yH1, rfl⟩))
             gi_wp2
             all_goals first | (exfalso; exact undef_ne _ (by assumption)) | skip
             (refine ⟨trivial, ?_⟩; ((with_reducible refine (callsIn_wide.2 (H2.out _)).mono ?_); rintro e w' ⟨rfl, yH2, rfl⟩))
             gi_wp2
             all_goals first | (exfalso; exact undef_ne _ (by assumption)) | skip
             refine ⟨trivial, ?_⟩
             gi_wp2
             all_goals first | (exfalso; exact undef_ne _ (by assumption)) | skip
             refine ⟨trivial, ?_⟩
             gi_wp2
             all_goals first | (exfalso; exact undef_ne _ (by assumption)) | skip
             refine bodyPost_ret (v := .bool false) (by simp [results, Tryz.results83, go_sem]) rfl (retX (by rw [hz.out]) (hBw.trans ((show Below wr.heap.size wr _ by (repeat' first | with_reducible (first | apply bz0 | assumption | apply bz1 | apply bz2 | apply bz3 | apply bz4 | apply bz5) | (simp <;> omega))).lower hgs)))
            | false =>
             have hz := hidden (hgo.out (by rw [hP]; simp))
             clear hP hst hgo
             gi_wp2
             refine ⟨trivial, ?_⟩
             gi_wp2
             (refine ⟨trivial, ?_⟩; ((with_reducible refine (callsIn_wide.2 (HE1.out _)).mono ?_); rintro e w' ⟨rfl, yHE1, rfl⟩)); gi_wp2; (refine ⟨trivial, ?_⟩; ((with_reducible refine (callsIn_wide.2 (HE2.out _)).mono ?_); rintro e w' ⟨rfl, yHE2, rfl⟩)); gi_wp2
             (refine ⟨trivial, ?_⟩; ((with_reducible refine (callsIn_wide.2 (H1.out _)).mono ?_); rintro e w' ⟨rfl, yH1, rfl⟩))
             gi_wp2
             all_goals first | (exfalso; exact undef_ne _ (by assumption)) | skip
             (refine ⟨trivial, ?_⟩; ((with_reducible refine (callsIn_wide.2 (H2.out _)).mono ?_); rintro e w' ⟨rfl, yH2, rfl⟩))
             gi_wp2
             all_goals first | (exfalso; exact undef_ne _ (by assumption)) | skip
             refine ⟨trivial, ?_⟩
             gi_wp2
             all_goals first | (exfalso; exact undef_ne _ (by assumption)) | skip
             refine ⟨trivial, ?_⟩
             gi_wp2
             all_goals first | (exfalso; exact undef_ne _ (by assumption)) | skip
             exact ⟨⟨k + 1, by simp, by omega, by omega, hB2.trans ((show Below wr.heap.size wr _ by (repeat' first | with_reducible (first | apply bz0 | assumption | apply bz1 | apply bz2 | apply bz3 | apply bz4 | apply bz5) | (simp <;> omega))).lower hB2.size), hz.out⟩, by simp [intOf]; omega⟩
         · have g1 : ((k : Int) == (i : Int) + 1) = true := by simp; omega
           have g2 : ((i : Int) == 0) = false := by simp; omega
           have hP := HP.out
           rw [if_pos d1, show decide (i = 0 ∧ k + 1 = n) = false from decide_eq_false (by omega)] at hP
           clear HP d1 d2 HTk H3 H4
           cases b1 with
           | true =>
            have hz := hidden (hst.out (by rw [hP]; simp))
            clear hP hst hgo
            gi_wp2
            refine ⟨trivial, ?_⟩
            gi_wp2
            (refine ⟨trivial, ?_⟩; ((with_reducible refine (callsIn_wide.2 (HE1.out _)).mono ?_); rintro e w' ⟨rfl, yHE1, rfl⟩)); gi_wp2; (refine ⟨trivial, ?_⟩; ((with_reducible refine (callsIn_wide.2 (HE2.out _)).mono ?_); rintro e w' ⟨rfl, yHE2, rfl⟩)); gi_wp2
            (refine ⟨trivial, ?_⟩; ((with_reducible refine (callsIn_wide.2 (H1.out _)).mono ?_); rintro e w' ⟨rfl, yH1, rfl⟩))
            gi_wp2
            all_goals first | (exfalso; exact undef_ne _ (by assumption)) | skip
            refine ⟨trivial, ?_⟩
            gi_wp2
            all_goals first | (exfalso; exact undef_ne _ (by assumption)) | skip
            refine ⟨trivial, ?_⟩
            gi_wp2
            all_goals first | (exfalso; exact undef_ne _ (by assumption)) | skip
            refine ⟨trivial, ?_⟩
            gi_wp2
            all_goals first | (exfalso; exact undef_ne _ (by assumption)) | skip
            refine bodyPost_ret (v := .bool false) (by simp [results, Tryz.results83, go_sem]) rfl (retX (by rw [hz.out]) (hBw.trans ((show Below wr.heap.size wr _ by (repeat' first | with_reducible (first | apply bz0 | assumption | apply bz1 | apply bz2 | apply bz3 | apply bz4 | apply bz5) | (simp <;> omega))).lower hgs)))
           | false =>
            cases b2 with
            | true =>
             have hz := hidden (hst.out (by rw [hP]; simp))
             clear hP hst hgo
             gi_wp2
             refine ⟨trivial, ?_⟩
             gi_wp2
             (refine ⟨trivial, ?_⟩; ((with_reducible refine (callsIn_wide.2 (HE1.out _)).mono ?_); rintro e w' ⟨rfl, yHE1, rfl⟩)); gi_wp2; (refine ⟨trivial, ?_⟩; ((with_reducible refine (callsIn_wide.2 (HE2.out _)).mono ?_); rintro e w' ⟨rfl, yHE2, rfl⟩)); gi_wp2
             (refine ⟨trivial, ?_⟩; ((with_reducible refine (callsIn_wide.2 (H1.out _)).mono ?_); rintro e w' ⟨rfl, yH1, rfl⟩))
             gi_wp2
             all_goals first | (exfalso; exact undef_ne _ (by assumption)) | skip
             (refine ⟨trivial, ?_⟩; ((with_reducible refine (callsIn_wide.2 (H2.out _)).mono ?_); rintro e w' ⟨rfl, yH2, rfl⟩))
             gi_wp2
             all_goals first | (exfalso; exact undef_ne _ (by assumption)) | skip
             refine ⟨trivial, ?_⟩
             gi_wp2
             all_goals first | (exfalso; exact undef_ne _ (by assumption)) | skip
             refine ⟨trivial, ?_⟩
             gi_wp2
             all_goals first | (exfalso; exact undef_ne _ (by assumption)) | skip
             refine bodyPost_ret (v := .bool false) (by simp [results, Tryz.results83, go_sem]) rfl (retX (by rw [hz.out]) (hBw.trans ((show Below wr.heap.size wr _ by (repeat' first | with_reducible (first | apply bz0 | assumption | apply bz1 | apply bz2 | apply bz3 | apply bz4 | apply bz5) | (simp <;> omega))).lower hgs)))
            | false =>
             have hz := hidden (hgo.out (by rw [hP]; simp))
             clear hP hst hgo
             gi_wp2
             refine ⟨trivial, ?_⟩
             gi_wp2
             (refine ⟨trivial, ?_⟩; ((with_reducible refine (callsIn_wide.2 (HE1.out _)).mono ?_); rintro e w' ⟨rfl, yHE1, rfl⟩)); gi_wp2; (refine ⟨trivial, ?_⟩; ((with_reducible refine (callsIn_wide.2 (HE2.out _)).mono ?_); rintro e w' ⟨rfl, yHE2, rfl⟩)); gi_wp2
             (refine ⟨trivial, ?_⟩; ((with_reducible refine (callsIn_wide.2 (H1.out _)).mono ?_); rintro e w' ⟨rfl, yH1, rfl⟩))
             gi_wp2
             all_goals first | (exfalso; exact undef_ne _ (by assumption)) | skip
             (refine ⟨trivial, ?_⟩; ((with_reducible refine (callsIn_wide.2 (H2.out _)).mono ?_); rintro e w' ⟨rfl, yH2, rfl⟩))
             gi_wp2
             all_goals first | (exfalso; exact undef_ne _ (by assumption)) | skip
             refine ⟨trivial, ?_⟩
             gi_wp2
             all_goals first | (exfalso; exact undef_ne _ (by assumption)) | skip
             refine ⟨trivial, ?_⟩
             gi_wp2
             all_goals first | (exfalso; exact undef_ne _ (by assumption)) | skip
             exact ⟨⟨k + 1, by simp, by omega, by omega, hB2.trans ((show Below wr.heap.size wr _ by (repeat' first | with_reducible (first | apply bz0 | assumption | apply bz1 | apply bz2 | apply bz3 | apply bz4 | apply bz5) | (simp <;> omega))).lower hB2.size), hz.out⟩, by simp [intOf]; omega⟩
         · have g1 : ((k : Int) == (i : Int) + 1) = false := by simp; omega
           have g2 : ((i : Int) == 0) = true := by simp; omega
           have g3 : ((k : Int) == (n : Int) - 1) = true := by simp; omega
           have hP := HP.out
           rw [if_neg d1, if_pos ⟨d2, d3⟩] at hP
           clear HP d1 d2 d3 HTk H1 H2
           cases b3 with
           | true =>
            have hz := hidden (hst.out (by rw [hP]; simp))
            clear hP hst hgo
            gi_wp2
            refine ⟨trivial, ?_⟩
            gi_wp2
            (refine ⟨trivial, ?_⟩; ((with_reducible refine (callsIn_wide.2 (HE1.out _)).mono ?_); rintro e w' ⟨rfl, yHE1, rfl⟩)); gi_wp2; (refine ⟨trivial, ?_⟩; ((with_reducible refine (callsIn_wide.2 (HE2.out _)).mono ?_); rintro e w' ⟨rfl, yHE2, rfl⟩)); gi_wp2
            all_goals first | (exfalso; exact undef_ne _ (by assumption)) | skip
            refine ⟨trivial, ?_⟩
            gi_wp2
            all_goals first | (exfalso; exact undef_ne _ (by assumption)) | skip
            refine ⟨trivial, ?_⟩
            gi_wp2
            all_goals first | (exfalso; exact undef_ne _ (by assumption)) | skip
            (refine ⟨trivial, ?_⟩; ((with_reducible refine (callsIn_wide.2 (H3.out _)).mono ?_); rintro e w' ⟨rfl, yH3, rfl⟩))
            gi_wp2
            all_goals first | (exfalso; exact undef_ne _ (by assumption)) | skip
            refine ⟨trivial, ?_⟩
            gi_wp2
            all_goals first | (exfalso; exact undef_ne _ (by assumption)) | skip
            refine bodyPost_ret (v := .bool false) (by simp [results, Tryz.results83, go_sem]) rfl (retX (by rw [hz.out]) (hBw.trans ((show Below wr.heap.size wr _ by (repeat' first | with_reducible (first | apply bz0 | assumption | apply bz1 | apply bz2 | apply bz3 | apply bz4 | apply bz5) | (simp <;> omega))).lower hgs)))
           | false =>
            cases b4 with
            | true =>
             have hz := hidden (hst.out (by rw [hP]; simp))
             clear hP hst hgo
             gi_wp2
             refine ⟨trivial, ?_⟩
             gi_wp2
             (refine ⟨trivial, ?_⟩; ((with_reducible refine (callsIn_wide.2 (HE1.out _)).mono ?_); rintro e w' ⟨rfl, yHE1, rfl⟩)); gi_wp2; (refine ⟨trivial, ?_⟩; ((with_reducible refine (callsIn_wide.2 (HE2.out _)).mono ?_); rintro e w' ⟨rfl, yHE2, rfl⟩)); gi_wp2
             all_goals first | (exfalso; exact undef_ne _ (by assumption)) | skip
             refine ⟨trivial, ?_⟩
             gi_wp2
             all_goals first | (exfalso; exact undef_ne _ (by assumption)) | skip
             refine ⟨trivial, ?_⟩
             gi_wp2
             all_goals first | (exfalso; exact undef_ne _ (by assumption)) | skip
             (refine ⟨trivial, ?_⟩; ((with_reducible refine (callsIn_wide.2 (H3.out _)).mono ?_); rintro e w' ⟨rfl, yH3, rfl⟩))
             gi_wp2
             all_goals first | (exfalso; exact undef_ne _ (by assumption)) | skip
             (refine ⟨trivial, ?_⟩; ((with_reducible refine (callsIn_wide.2 (H4.out _)).mono ?_); rintro e w' ⟨rfl, yH4, rfl⟩))
             gi_wp2
             all_goals first | (exfalso; exact undef_ne _ (by assumption)) | skip
             refine bodyPost_ret (v := .bool false) (by simp [results, Tryz.results83, go_sem]) rfl (retX (by rw [hz.out]) (hBw.trans ((show Below wr.heap.size wr _ by (repeat' first | with_reducible (first | apply bz0 | assumption | apply bz1 | apply bz2 | apply bz3 | apply bz4 | apply bz5) | (simp <;> omega))).lower hgs)))
            | false =>
             have hz := hidden (hgo.out (by rw [hP]; simp))
             clear hP hst hgo
             gi_wp2
             refine ⟨trivial, ?_⟩
             gi_wp2
             (refine ⟨trivial, ?_⟩; ((with_reducible refine (callsIn_wide.2 (HE1.out _)).mono ?_); rintro e w' ⟨rfl, yHE1, rfl⟩)); gi_wp2; (refine ⟨trivial, ?_⟩; ((with_reducible refine (callsIn_wide.2 (HE2.out _)).mono ?_); rintro e w' ⟨rfl, yHE2, rfl⟩)); gi_wp2
             all_goals first | (exfalso; exact undef_ne _ (by assumption)) | skip
             refine ⟨trivial, ?_⟩
             gi_wp2
             all_goals first | (exfalso; exact undef_ne _ (by assumption)) | skip
             refine ⟨trivial, ?_⟩
             gi_wp2
             all_goals first | (exfalso; exact undef_ne _ (by assumption)) | skip
             (refine ⟨trivial, ?_⟩; ((with_reducible refine (callsIn_wide.2 (H3.out _)).mono ?_); rintro e w' ⟨rfl, yH3, rfl⟩))
             gi_wp2
             all_goals first | (exfalso; exact undef_ne _ (by assumption)) | skip
             (refine ⟨trivial, ?_⟩; ((with_reducible refine (callsIn_wide.2 (H4.out _)).mono ?_); rintro e w' ⟨rfl, yH4, rfl⟩))
             gi_wp2
             all_goals first | (exfalso; exact undef_ne _ (by assumption)) | skip
             exact ⟨⟨k + 1, by simp, by omega, by omega, hB2.trans ((show Below wr.heap.size wr _ by (repeat' first | with_reducible (first | apply bz0 | assumption | apply bz1 | apply bz2 | apply bz3 | apply bz4 | apply bz5) | (simp <;> omega))).lower hB2.size), hz.out⟩, by simp [intOf]; omega⟩
         · have g1 : ((k : Int) == (i : Int) + 1) = false := by simp; omega
           have g2 : ((i : Int) == 0) = true := by simp; omega
           have g3 : ((k : Int) == (n : Int) - 1) = false := by simp; omega
           have hP := HP.out
           rw [if_neg d1, if_neg (by omega)] at hP
           clear HP d1 d2 d3 H1 H2 H3 H4
           cases t with
           | true =>
            have hz := hidden (hst.out (by rw [hP]))
            clear hP hst hgo
            gi_wp2
            (refine ⟨trivial, ?_⟩; ((with_reducible refine (callsIn_wide.2 (HTk.out _)).mono ?_); rintro e w' ⟨rfl, yHTk, rfl⟩))
            gi_wp2
            refine bodyPost_ret (v := .bool false) (by simp [results, Tryz.results83, go_sem]) rfl (retX (by rw [hz.out]) (hBw.trans ((show Below wr.heap.size wr _ by (repeat' first | with_reducible (first | apply bz0 | assumption | apply bz1 | apply bz2 | apply bz3 | apply bz4 | apply bz5) | (simp <;> omega))).lower hgs)))
           | false =>
            have hz := hidden (hgo.out (by rw [hP]))
            clear hP hst hgo
            gi_wp2
            (refine ⟨trivial, ?_⟩; ((with_reducible refine (callsIn_wide.2 (HTk.out _)).mono ?_); rintro e w' ⟨rfl, yHTk, rfl⟩))
            gi_wp2
            (refine ⟨trivial, ?_⟩; ((with_reducible refine (callsIn_wide.2 (HE1.out _)).mono ?_); rintro e w' ⟨rfl, yHE1, rfl⟩)); gi_wp2; (refine ⟨trivial, ?_⟩; ((with_reducible refine (callsIn_wide.2 (HE2.out _)).mono ?_); rintro e w' ⟨rfl, yHE2, rfl⟩)); gi_wp2
            all_goals first | (exfalso; exact undef_ne _ (by assumption)) | skip
            refine ⟨trivial, ?_⟩
            gi_wp2
            all_goals first | (exfalso; exact undef_ne _ (by assumption)) | skip
            refine ⟨trivial, ?_⟩
            gi_wp2
            all_goals first | (exfalso; exact undef_ne _ (by assumption)) | skip
            refine ⟨trivial, ?_⟩
            gi_wp2
            all_goals first | (exfalso; exact undef_ne _ (by assumption)) | skip
            refine ⟨trivial, ?_⟩
            gi_wp2
            all_goals first | (exfalso; exact undef_ne _ (by assumption)) | skip
            exact ⟨⟨k + 1, by simp, by omega, by omega, hB2.trans ((show Below wr.heap.size wr _ by (repeat' first | with_reducible (first | apply bz0 | assumption | apply bz1 | apply bz2 | apply bz3 | apply bz4 | apply bz5) | (simp <;> omega))).lower hB2.size), hz.out⟩, by simp [intOf]; omega⟩
         · have g1 : ((k : Int) == (i : Int) + 1) = false := by simp; omega
           have g2 : ((i : Int) == 0) = false := by simp; omega
           have hP := HP.out
           rw [if_neg d1, if_neg (by omega)] at hP
           clear HP d1 d2 H1 H2 H3 H4
           cases t with
           | true =>
            have hz := hidden (hst.out (by rw [hP]))
            clear hP hst hgo
            gi_wp2
            (refine ⟨trivial, ?_⟩; ((with_reducible refine (callsIn_wide.2 (HTk.out _)).mono ?_); rintro e w' ⟨rfl, yHTk, rfl⟩))
            gi_wp2
            refine bodyPost_ret (v := .bool false) (by simp [results, Tryz.results83, go_sem]) rfl (retX (by rw [hz.out]) (hBw.trans ((show Below wr.heap.size wr _ by (repeat' first | with_reducible (first | apply bz0 | assumption | apply bz1 | apply bz2 | apply bz3 | apply bz4 | apply bz5) | (simp <;> omega))).lower hgs)))
           | false =>
            have hz := hidden (hgo.out (by rw [hP]))
            clear hP hst hgo
            gi_wp2
            (refine ⟨trivial, ?_⟩; ((with_reducible refine (callsIn_wide.2 (HTk.out _)).mono ?_); rintro e w' ⟨rfl, yHTk, rfl⟩))
            gi_wp2
            (refine ⟨trivial, ?_⟩; ((with_reducible refine (callsIn_wide.2 (HE1.out _)).mono ?_); rintro e w' ⟨rfl, yHE1, rfl⟩)); gi_wp2; (refine ⟨trivial, ?_⟩; ((with_reducible refine (callsIn_wide.2 (HE2.out _)).mono ?_); rintro e w' ⟨rfl, yHE2, rfl⟩)); gi_wp2
            all_goals first | (exfalso; exact undef_ne _ (by assumption)) | skip
            refine ⟨trivial, ?_⟩
            gi_wp2
            all_goals first | (exfalso; exact undef_ne _ (by assumption)) | skip
            refine ⟨trivial, ?_⟩
            gi_wp2
            all_goals first | (exfalso; exact undef_ne _ (by assumption)) | skip
            refine ⟨trivial, ?_⟩
            gi_wp2
            all_goals first | (exfalso; exact undef_ne _ (by assumption)) | skip
            refine ⟨trivial, ?_⟩
            gi_wp2
            all_goals first | (exfalso; exact undef_ne _ (by assumption)) | skip
            exact ⟨⟨k + 1, by simp, by omega, by omega, hB2.trans ((show Below wr.heap.size wr _ by (repeat' first | with_reducible (first | apply bz0 | assumption | apply bz1 | apply bz2 | apply bz3 | apply bz4 | apply bz5) | (simp <;> omega))).lower hB2.size), hz.out⟩, by simp [intOf]; omega⟩
     · obtain rfl : k = n := by omega
       clear HN HT HS HE
       have hno3 : ∀ p, p < i + 1 → ∀ q, p < q → q < k → pairB k (lnHs H) (lnT H) p q = false := fun p hp q h1 h2 => by
        rcases Nat.lt_or_ge p i with h' | h'
        · exact hno p h' q h1 h2
        · obtain rfl : p = i := by omega
          exact hno2 q h1 h2
       have hz := hidden hno3
       clear hno hno2 hno3
       gi_wp2
       exact ⟨⟨i + 1, by simp, by omega, hB2, hz.out⟩, by simp [intOf]; omega⟩
  · obtain rfl : i = n := by omega
    have hz : Hid (refSimpleB H = true) := by
     refine refSimple_end fun a ha b hab hb => ?_
     rw [hn]
     exact hno a (by omega) b hab (by omega)
    have hBw : Below w.heap.size w _ := BX.trans (hB.lower BX.size)
    clear HN HT HS HE hno
    gi_wp2
    refine bodyPost_ret (v := .bool true) (by simp [results, Tryz.results83, go_sem]) rfl (retX (by rw [hz.out]) hBw)
end Go.Proofs.YtekieoamelahkaaGreat

/- The reference's CheckHall. -/
namespace Go.Proofs.YtekieoamelahkaaGreat
open Go.RowKit Go.Shelf
attribute [local go_sem] Oper.semAt_some

set_option maxRecDepth 100000 in set_option maxHeartbeats 32000000 in
theorem refCheckHall_any {w : World} {H : Hal} {v4 v5 v6 v7 v8 : Value} (hV : HalVs w v4 v5 v6 v7 v8 H) : Calls Tryz.prog 20 #[halV H v4 v5 v6 v7 v8] w (RetX w (markV (hallF H))) := by
 have HNm := hidden (fun (nm : ByteArray) (h : nm.size ≤ 1000000) (W : World) => refIsName_any nm h W)
 have HWi := hidden (fun (n lo hi : Int) (W : World) => Within_any n lo hi W)
 have HM := hidden (fun (nm : ByteArray) (W : World) (hW : Below w.heap.size w W) => refMaterial_any (hV.below hW) nm)
 have HPl := hidden (fun (x : Int) (W : World) => isPlace_any x W)
 have HWr := hidden (fun (l n e : Int) (W : World) => wrong_any l n e W)
 have HWa := hidden (fun (hC : CorsIn H) (hN : H.wals.length = H.cors.length) (i : Nat) (hi : i < H.wals.length) (W : World) (hW : Below w.heap.size w W) => wallErr_any (hV.below hW) hC hN i hi)
 have HSi := hidden (fun (hC : CorsIn H) (hL : LinesOk H) (hN : H.wals.length = H.cors.length) (h3 : 3 ≤ H.cors.length) (W : World) (hW : Below w.heap.size w W) => simple_ref (hV.below hW) hC hL hN h3)
 have HTw := hidden (fun (hC : CorsIn H) (hn : H.cors.length ≤ 1000) (W : World) (hW : Below w.heap.size w W) => refTwiceArea_any (hV.below hW) hC hn)
 have HCa := hidden (fun (hC : CorsIn H) (hL : LinesOk H) (hN : H.wals.length = H.cors.length) (hh : 2 ≤ H.height ∧ H.height ≤ 5000) (i : Nat) (hi : i < H.cans.length) (W : World) (hW : Below w.heap.size w W) => canopyErr_any (hV.below hW) hC hL hN hh i hi)
 have HSe := hidden (fun (hC : CorsIn H) (hL : LinesOk H) (hN : H.wals.length = H.cors.length) (hh : -5000 ≤ H.height ∧ H.height ≤ 5000) (i : Nat) (hi : i < H.seas.length) (W : World) (hW : Below w.heap.size w W) => seatErr_any (hV.below hW) hC hL hN hh i hi)
 have hSz := hV.sized
 have hk0 := hidden (ok0 H)
 obtain ⟨_, g4, g5, g6, g7, g8⟩ := hV
 obtain ⟨A4, c4, rfl, hS4⟩ := slc_form g4
 obtain ⟨A5, c5, rfl, hS5⟩ := slc_form g5
 obtain ⟨A6, c6, rfl, hS6⟩ := slc_form g6
 obtain ⟨A7, c7, rfl, hS7⟩ := slc_form g7
 obtain ⟨A8, c8, rfl, hS8⟩ := slc_form g8
 have l4 := hS4.1
 have l5 := hS5.1
 have l6 := hS6.1
 have l7 := hS7.1
 have l8 := hS8.1
 clear g4 g5 g6 g7 g8 hS6 hS7 hS8
 unfold halV at *
 have HN1 := hidden (fun (W : World) => HNm.out H.name hSz.name W)
 have HW1 := hidden (fun (W : World) => HWi.out H.height 2 5000 W)
 refine (callsIn_wide (n := 10)).1 ?_
 refine callsIn_of_wp Tryz.func20 rfl trivial ?_ rfl
 simp only [Tryz.ntmps20, nt, Nat.reduceAdd, Nat.reduceSub]
 cases p0 : nameB H.name with
 | false =>
  have hz : Hid (hallF H = (0, 0, 4)) := ok_stop (by decide) hk0.out (by rw [flt0, itself_name p0]) (by decide)
  rw [p0] at HN1
  gi_wp2
  (refine ⟨trivial, ?_⟩; ((with_reducible refine (callsIn_wide.2 (HN1.out _)).mono ?_); rintro e w' ⟨rfl, z1, rfl⟩))
  gi_wp2
  (refine ⟨trivial, ?_⟩; ((with_reducible refine (callsIn_wide.2 (HWr.out 0 0 4 _)).mono ?_); rintro e w' ⟨rfl, zw, rfl⟩))
  gi_wp2
  refine bodyPost_ret (v := .tuple #[.agg #[.int .i64 0, .int .i64 0], .int .i64 4]) (by simp [results, Tryz.results20, go_sem]) rfl (retX (by rw [hz.out]; rfl) (by (repeat' first | with_reducible (first | apply bz0 | assumption | apply bz1 | apply bz2 | apply bz3 | apply bz4 | apply bz5) | (simp <;> omega))))
 | true =>
  rw [p0] at HN1
  cases p1 : wiB H.height 2 5000 with
  | false =>
   have hz : Hid (hallF H = (0, 0, 2)) := ok_stop (by decide) hk0.out (by rw [flt0, itself_range p0 p1]) (by decide)
   rw [p1] at HW1
   gi_wp2
   (refine ⟨trivial, ?_⟩; ((with_reducible refine (callsIn_wide.2 (HN1.out _)).mono ?_); rintro e w' ⟨rfl, z1, rfl⟩))
   gi_wp2
   (refine ⟨trivial, ?_⟩; ((with_reducible refine (callsIn_wide.2 (HW1.out _)).mono ?_); rintro e w' ⟨rfl, z2, rfl⟩))
   gi_wp2
   (refine ⟨trivial, ?_⟩; ((with_reducible refine (callsIn_wide.2 (HWr.out 0 0 2 _)).mono ?_); rintro e w' ⟨rfl, zw, rfl⟩))
   gi_wp2
   refine bodyPost_ret (v := .tuple #[.agg #[.int .i64 0, .int .i64 0], .int .i64 2]) (by simp [results, Tryz.results20, go_sem]) rfl (retX (by rw [hz.out]; rfl) (by (repeat' first | with_reducible (first | apply bz0 | assumption | apply bz1 | apply bz2 | apply bz3 | apply bz4 | apply bz5) | (simp <;> omega))))
  | true =>
   rw [p1] at HW1
   obtain ⟨hi0, hh1, hh2⟩ := itself_in p0 p1
   have hk1 := hidden (okS hk0.out (by rw [flt0]; exact hi0))
   clear hk0 hi0
   cases q1 : decide ((10 : Int) < (H.mats.length : Int)) with
   | true =>
    have hz : Hid (hallF H = (0, 0, 8)) := ok_stop (by decide) hk1.out (by rw [flt1]; unfold matsF; rw [if_pos (by simp at q1; omega)]) (by decide)
    gi_wp2
    (refine ⟨trivial, ?_⟩; ((with_reducible refine (callsIn_wide.2 (HN1.out _)).mono ?_); rintro e w' ⟨rfl, z1, rfl⟩))
    gi_wp2
    (refine ⟨trivial, ?_⟩; ((with_reducible refine (callsIn_wide.2 (HW1.out _)).mono ?_); rintro e w' ⟨rfl, z2, rfl⟩))
    gi_wp2
    (refine ⟨trivial, ?_⟩; ((with_reducible refine (callsIn_wide.2 (HWr.out 0 0 8 _)).mono ?_); rintro e w' ⟨rfl, zw, rfl⟩))
    gi_wp2
    refine bodyPost_ret (v := .tuple #[.agg #[.int .i64 0, .int .i64 0], .int .i64 8]) (by simp [results, Tryz.results20, go_sem]) rfl (retX (by rw [hz.out]; rfl) (by (repeat' first | with_reducible (first | apply bz0 | assumption | apply bz1 | apply bz2 | apply bz3 | apply bz4 | apply bz5) | (simp <;> omega))))
   | false =>
    have hm10 : ¬ 10 < H.mats.length := by simp at q1; omega
    gi_wp2
    (refine ⟨trivial, ?_⟩; ((with_reducible refine (callsIn_wide.2 (HN1.out _)).mono ?_); rintro e w' ⟨rfl, z1, rfl⟩))
    gi_wp2
    (refine ⟨trivial, ?_⟩; ((with_reducible refine (callsIn_wide.2 (HW1.out _)).mono ?_); rintro e w' ⟨rfl, z2, rfl⟩))
    gi_wp2
    generalize hX : World.ext _ z2 = X
    have x0 : X.cell? ⟨w.heap.size, 0, none⟩ = some (.string H.name) := by rw [← hX]; simp [go_sem]
    have x1 : X.cell? ⟨w.heap.size, 1, none⟩ = some (.int .i64 H.height) := by rw [← hX]; simp [go_sem]
    have x2 : X.cell? ⟨w.heap.size, 2, none⟩ = some (.string H.floor) := by rw [← hX]; simp [go_sem]
    have x3 : X.cell? ⟨w.heap.size, 3, none⟩ = some (.string H.ceil) := by rw [← hX]; simp [go_sem]
    have x4 : X.cell? ⟨w.heap.size, 4, none⟩ = some (.slice A4 H.mats.length c4) := by rw [← hX]; simp [go_sem]
    have x5 : X.cell? ⟨w.heap.size, 5, none⟩ = some (.slice A5 H.cors.length c5) := by rw [← hX]; simp [go_sem]
    have x6 : X.cell? ⟨w.heap.size, 6, none⟩ = some (.slice A6 H.wals.length c6) := by rw [← hX]; simp [go_sem]
    have x7 : X.cell? ⟨w.heap.size, 7, none⟩ = some (.slice A7 H.cans.length c7) := by rw [← hX]; simp [go_sem]
    have x8 : X.cell? ⟨w.heap.size, 8, none⟩ = some (.slice A8 H.seas.length c8) := by rw [← hX]; simp [go_sem]
    have r0 : X.cell? ⟨w.heap.size + 1, 0, none⟩ = some (.int .i64 0) := by rw [← hX]; simp [go_sem]
    have r1 : X.cell? ⟨w.heap.size + 1, 1, none⟩ = some (.int .i64 0) := by rw [← hX]; simp [go_sem]
    have rf : ∀ i, X.frozen? ⟨w.heap.size + 1, i, none⟩ = false := by intro i; rw [← hX]; simp [go_sem]
    have BX : Below w.heap.size w X := by rw [← hX]; (repeat' first | with_reducible (first | apply bz0 | assumption | apply bz1 | apply bz2 | apply bz3 | apply bz4 | apply bz5) | (simp <;> omega))
    have gx := has_of_cell x0
    have gr := has_of_cell r0
    have HX := hidden (fun (W : World) (hW : Below X.heap.size X W) => And.intro (cell_below hW gx x0) (And.intro (cell_below hW gx x1) (And.intro (cell_below hW gx x2) (And.intro (cell_below hW gx x3) (And.intro (cell_below hW gx x4) (And.intro (cell_below hW gx x5) (And.intro (cell_below hW gx x6) (And.intro (cell_below hW gx x7) (And.intro (cell_below hW gx x8) (And.intro (cell_below hW gr r0) (And.intro (cell_below hW gr r1) (fun i => (World.frozen?_of_block (w := X) (hW.block (w.heap.size + 1) gr)).trans (rf i)))))))))))))
    clear hX x0 x1 x2 x3 x4 x5 x6 x7 x8 r0 r1 rf gx gr
    clear HN1 HW1 q1
    gi_loopw [4] (fun i' wr => ∃ k : Nat, i' = .int .i64 k ∧ k ≤ H.mats.length ∧ Below X.heap.size X wr ∧ ∀ j, j < k → matE H j = 0) (fun i' _ => H.mats.length - (intOf i').toNat)
    case atStart => exact ⟨0, rfl, Nat.zero_le _, Below.refl _ _, fun j hj => absurd hj (Nat.not_lt_zero j)⟩
    case round =>
     obtain ⟨k, rfl, hk, hB, hno⟩ := hrel
     have hBw : Below w.heap.size w wr := BX.trans (hB.lower BX.size)
     have hgs := hBw.size
     obtain ⟨x0, x1, x2, x3, x4, x5, x6, x7, x8, r0, r1, rf⟩ := HX.out _ hB
     have gx := has_of_cell x0
     have gr := has_of_cell r0
     rcases Nat.lt_or_ge k H.mats.length with hlt | hge
     · obtain ⟨g, o, rfl, hg, hcs⟩ := mat_at (hS4.below hBw) hlt
       obtain ⟨m0, m1, m2, m3, m4, m5⟩ := hcs k hlt
       have hst : Hid (∀ e, matE H k = e → e ≠ 0 → hallF H = (1, (k : Int), e)) := fun e he hn => ok_stop (by decide) hk1.out (by rw [flt1]; unfold matsF; rw [if_neg hm10, oneF_stop hlt (by rw [he]; exact hn) hno, he]) hn
       have hgo : Hid (matE H k = 0 → ∀ j, j < k + 1 → matE H j = 0) := fun he j hj => by
        rcases Nat.lt_or_ge j k with h' | h'
        · exact hno j h'
        · obtain rfl : j = k := by omega
          exact he
       have hE4 : Hid (nameB (matAt H.mats k).name = false → matE H k = 4) := fun h => mat_name h
       have hE5 : Hid (nameB (matAt H.mats k).name = true → hasName (matNames H k) (matAt H.mats k).name = true → matE H k = 5) := fun h h' => mat_twice h h'
       have hE2 : Hid (nameB (matAt H.mats k).name = true → hasName (matNames H k) (matAt H.mats k).name = false → matE H k = if sharesB (matAt H.mats k) = false then 2 else 0) := fun h h' => mat_share h h'
       have hbe := mat_before hlt
       have HNk := hidden (fun (W : World) => HNm.out (matAt H.mats k).name (hSz.mats _ (by unfold matAt; rw [List.getElem?_eq_getElem hlt]; exact List.getElem_mem hlt)) W)
       have HMk := hidden (fun (W : World) (hW : Below w.heap.size w W) => HM.out (matAt H.mats k).name W hW)
       clear hcs hS4 hS5 hno HNm HM HPl HWa HSi HTw HCa HSe hSz hk1
       generalize matE H k = em at *
       generalize matI H (matAt H.mats k).name = mi at *
       generalize hasName (matNames H k) (matAt H.mats k).name = hn5 at *
       generalize hMt : matAt H.mats k = mt at *
       obtain ⟨mn, ma0, ma1, ma2, ma3, msc⟩ := mt
       simp only at *
       cases p2 : nameB mn with
       | false =>
        have hz : Hid (hallF H = (1, (k : Int), 4)) := hst.out 4 (hE4.out p2) (by decide)
        rw [p2] at HNk
        clear hst hgo hE4 hE5 hE2 hbe HMk HWi
        gi_wp2
        (refine ⟨trivial, ?_⟩; ((with_reducible refine (callsIn_wide.2 (HNk.out _)).mono ?_); rintro e w' ⟨rfl, z3, rfl⟩))
        gi_wp2
        (refine ⟨trivial, ?_⟩; ((with_reducible refine (callsIn_wide.2 (HWr.out 1 (k : Int) 4 _)).mono ?_); rintro e w' ⟨rfl, zw, rfl⟩))
        gi_wp2
        refine bodyPost_ret (v := .tuple #[.agg #[.int .i64 1, .int .i64 ((k : Int))], .int .i64 4]) (by simp [results, Tryz.results20, go_sem, r0, r1, gr]) rfl (retX (by rw [hz.out]; rfl) (by (repeat' first | with_reducible (first | apply bz0 | assumption | apply bz1 | apply bz2 | apply bz3 | apply bz4 | apply bz5) | (simp <;> omega))))
       | true =>
        rw [p2] at HNk
        cases hn5 with
        | true =>
         have hz : Hid (hallF H = (1, (k : Int), 5)) := hst.out 5 (hE5.out p2 rfl) (by decide)
         clear hst hgo hE4 hE5 hE2 HWi
         gi_wp2
         (refine ⟨trivial, ?_⟩; ((with_reducible refine (callsIn_wide.2 (HNk.out _)).mono ?_); rintro e w' ⟨rfl, z3, rfl⟩))
         gi_wp2
         (refine ⟨trivial, ?_⟩; ((with_reducible refine (callsIn_wide.2 (HMk.out _ ?hk)).mono ?_); (case hk => (repeat' first | with_reducible (first | apply bz0 | assumption | apply bz1 | apply bz2 | apply bz3 | apply bz4 | apply bz5) | (simp <;> omega))); rintro e w' ⟨rfl, z4, rfl⟩))
         gi_wp2
         (refine ⟨trivial, ?_⟩; ((with_reducible refine (callsIn_wide.2 (HWr.out 1 (k : Int) 5 _)).mono ?_); rintro e w' ⟨rfl, zw, rfl⟩))
         gi_wp2
         refine bodyPost_ret (v := .tuple #[.agg #[.int .i64 1, .int .i64 ((k : Int))], .int .i64 5]) (by simp [results, Tryz.results20, go_sem, r0, r1, gr]) rfl (retX (by rw [hz.out]; rfl) (by (repeat' first | with_reducible (first | apply bz0 | assumption | apply bz1 | apply bz2 | apply bz3 | apply bz4 | apply bz5) | (simp <;> omega))))
        | false =>
         replace hE2 := hidden (hE2.out p2 rfl)
         clear hE4 hE5
         gi_wp2
         (refine ⟨trivial, ?_⟩; ((with_reducible refine (callsIn_wide.2 (HNk.out _)).mono ?_); rintro e w' ⟨rfl, z3, rfl⟩))
         gi_wp2
         (refine ⟨trivial, ?_⟩; ((with_reducible refine (callsIn_wide.2 (HMk.out _ ?hk)).mono ?_); (case hk => (repeat' first | with_reducible (first | apply bz0 | assumption | apply bz1 | apply bz2 | apply bz3 | apply bz4 | apply bz5) | (simp <;> omega))); rintro e w' ⟨rfl, z4, rfl⟩))
         gi_wp2
         have hBY : Below X.heap.size X (((wr.alloc (.cells #[.string mn, .int .i64 ma0, .int .i64 ma1, .int .i64 ma2, .int .i64 ma3, .int .i64 msc] 82)).ext z3).ext z4) := hB.trans ((show Below wr.heap.size wr _ by (repeat' first | with_reducible (first | apply bz0 | assumption | apply bz1 | apply bz2 | apply bz3 | apply bz4 | apply bz5) | (simp <;> omega))).lower hB.size)
         generalize hM : wr.heap.size = M at *
         generalize hY : World.ext _ z4 = Y at *
         have ek : ∀ b, b < 4 → Y.cell? ⟨M, 1 + b, none⟩ = some (.int .i64 (matA ⟨mn, ma0, ma1, ma2, ma3, msc⟩ b)) := by
          intro b hb
          have h4 : b = 0 ∨ b = 1 ∨ b = 2 ∨ b = 3 := by omega
          rcases h4 with rfl | rfl | rfl | rfl <;> rw [← hY, ← hM] <;> simp [go_sem, matA]
         have e5 : Y.cell? ⟨M, 5, none⟩ = some (.int .i64 msc) := by rw [← hY, ← hM]; simp [go_sem]
         have gM := has_of_cell e5
         have HYb := hidden (fun (W : World) (hW : Below Y.heap.size Y W) (b : Nat) (hb : b < 4) => cell_below hW gM (ek b hb))
         have HY5 := hidden (fun (W : World) (hW : Below Y.heap.size Y W) => cell_below hW gM e5)
         have hS2 : Hid (∀ b, b < 4 → wiB (matA ⟨mn, ma0, ma1, ma2, ma3, msc⟩ b) 0 1000 = false → em = 2) := fun b hb h => by rw [hE2.out, shares_bad hb h]; rfl
         have hS3 : Hid ((∀ b, b < 4 → wiB (matA ⟨mn, ma0, ma1, ma2, ma3, msc⟩ b) 0 1000 = true) → em = if wiB msc 0 1000 = false then 2 else 0) := fun h => by rw [hE2.out, shares_in h]
         clear hY ek e5 gM hE2 HNk HMk hbe m0 m1 m2 m3 m4 m5 hg hB hBw hgs hMt
         clear x0 x1 x2 x3 x4 x5 x6 x7 x8 r0 r1 rf gx gr
         gi_loopw [6] (fun i' wr => ∃ b : Nat, i' = .int .i64 b ∧ b ≤ 4 ∧ Below Y.heap.size Y wr ∧ ∀ j, j < b → wiB (matA ⟨mn, ma0, ma1, ma2, ma3, msc⟩ j) 0 1000 = true) (fun i' _ => 4 - (intOf i').toNat)
         case atStart => exact ⟨0, rfl, Nat.zero_le _, Below.refl _ _, fun j hj => absurd hj (Nat.not_lt_zero j)⟩
         case round =>
          obtain ⟨b, rfl, hb4, hB1, hnb⟩ := hrel
          have hB := hBY.trans (hB1.lower hBY.size)
          have hBw : Below w.heap.size w wr := BX.trans (hB.lower BX.size)
          have hgs := hBw.size
          obtain ⟨x0, x1, x2, x3, x4, x5, x6, x7, x8, r0, r1, rf⟩ := HX.out _ hB
          have gx := has_of_cell x0
          have gr := has_of_cell r0
          rcases Nat.lt_or_ge b 4 with hbl | hbg
          · have eb := HYb.out wr hB1 b hbl
            have gM := has_of_cell eb
            have HWb := hidden (fun (W : World) => HWi.out (matA ⟨mn, ma0, ma1, ma2, ma3, msc⟩ b) 0 1000 W)
            have hbad : Hid (wiB (matA ⟨mn, ma0, ma1, ma2, ma3, msc⟩ b) 0 1000 = false → em = 2) := fun h => hS2.out b hbl h
            have hgb : Hid (wiB (matA ⟨mn, ma0, ma1, ma2, ma3, msc⟩ b) 0 1000 = true → ∀ j, j < b + 1 → wiB (matA ⟨mn, ma0, ma1, ma2, ma3, msc⟩ j) 0 1000 = true) := fun he j hj => by
             rcases Nat.lt_or_ge j b with h' | h'
             · exact hnb j h'
             · obtain rfl : j = b := by omega
               exact he
            clear hnb HYb HY5 hS2 hS3 HWi HX
            generalize matA ⟨mn, ma0, ma1, ma2, ma3, msc⟩ b = vb at *
            cases p3 : wiB vb 0 1000 with
            | false =>
             have hz : Hid (hallF H = (1, (k : Int), 2)) := hst.out 2 (hbad.out p3) (by decide)
             rw [p3] at HWb
             clear hst hgo hbad hgb
             gi_wp2
             (refine ⟨trivial, ?_⟩; ((with_reducible refine (callsIn_wide.2 (HWb.out _)).mono ?_); rintro e w' ⟨rfl, z5, rfl⟩))
             gi_wp2
             (refine ⟨trivial, ?_⟩; ((with_reducible refine (callsIn_wide.2 (HWr.out 1 (k : Int) 2 _)).mono ?_); rintro e w' ⟨rfl, zw, rfl⟩))
             gi_wp2
             refine bodyPost_ret (v := .tuple #[.agg #[.int .i64 1, .int .i64 ((k : Int))], .int .i64 2]) (by simp [results, Tryz.results20, go_sem, r0, r1, gr]) rfl (retX (by rw [hz.out]; rfl) (by (repeat' first | with_reducible (first | apply bz0 | assumption | apply bz1 | apply bz2 | apply bz3 | apply bz4 | apply bz5) | (simp <;> omega))))
            | true =>
             have hz := hidden (hgb.out p3)
             rw [p3] at HWb
             clear hst hgo hbad hgb HWr
             gi_wp2
             (refine ⟨trivial, ?_⟩; ((with_reducible refine (callsIn_wide.2 (HWb.out _)).mono ?_); rintro e w' ⟨rfl, z5, rfl⟩))
             gi_wp2
             exact ⟨⟨b + 1, by simp, by omega, hB1.trans ((show Below wr.heap.size wr _ by (repeat' first | with_reducible (first | apply bz0 | assumption | apply bz1 | apply bz2 | apply bz3 | apply bz4 | apply bz5) | (simp <;> omega))).lower hB1.size), hz.out⟩, by simp [intOf]; omega⟩
          · obtain rfl : b = 4 := by omega
            have hE := hS3.out hnb
            have e5 := HY5.out wr hB1
            have gM := has_of_cell e5
            have HWs := hidden (fun (W : World) => HWi.out msc 0 1000 W)
            clear hnb HYb HY5 hS2 hS3 HWi HX
            cases p4 : wiB msc 0 1000 with
            | false =>
             rw [p4] at HWs hE
             have hz : Hid (hallF H = (1, (k : Int), 2)) := hst.out 2 hE (by decide)
             clear hst hgo hE
             gi_wp2
             (refine ⟨trivial, ?_⟩; ((with_reducible refine (callsIn_wide.2 (HWs.out _)).mono ?_); rintro e w' ⟨rfl, z5, rfl⟩))
             gi_wp2
             (refine ⟨trivial, ?_⟩; ((with_reducible refine (callsIn_wide.2 (HWr.out 1 (k : Int) 2 _)).mono ?_); rintro e w' ⟨rfl, zw, rfl⟩))
             gi_wp2
             refine bodyPost_ret (v := .tuple #[.agg #[.int .i64 1, .int .i64 ((k : Int))], .int .i64 2]) (by simp [results, Tryz.results20, go_sem, r0, r1, gr]) rfl (retX (by rw [hz.out]; rfl) (by (repeat' first | with_reducible (first | apply bz0 | assumption | apply bz1 | apply bz2 | apply bz3 | apply bz4 | apply bz5) | (simp <;> omega))))
            | true =>
             rw [p4] at HWs hE
             have hz := hidden (hgo.out hE)
             clear hst hgo hE HWr
             gi_wp2
             (refine ⟨trivial, ?_⟩; ((with_reducible refine (callsIn_wide.2 (HWs.out _)).mono ?_); rintro e w' ⟨rfl, z5, rfl⟩))
             gi_wp2
             exact ⟨⟨k + 1, by simp, by omega, hB.trans ((show Below wr.heap.size wr _ by (repeat' first | with_reducible (first | apply bz0 | assumption | apply bz1 | apply bz2 | apply bz3 | apply bz4 | apply bz5) | (simp <;> omega))).lower hB.size), hz.out⟩, by simp [intOf]; omega⟩
     · obtain rfl : k = H.mats.length := by omega
       have hk2 := hidden (okS hk1.out (by rw [flt1]; unfold matsF; rw [if_neg hm10, oneF_ok hno]))
       have hm1 := has_mat (H := H) (nm := H.floor)
       have hm2 := has_mat (H := H) (nm := H.ceil)
       have HMf := hidden (fun (W : World) (hW : Below w.heap.size w W) => HM.out H.floor W hW)
       have HMc := hidden (fun (W : World) (hW : Below w.heap.size w W) => HM.out H.ceil W hW)
       have hpm := hidden (parts_missing (H := H))
       have hpt := hidden (parts_there (H := H))
       clear hno HM HNm hS4 hk1 HWi hSz
       generalize matI H H.floor = a1 at *
       generalize matI H H.ceil = a2 at *
       generalize hasName (msOf H) H.floor = f1 at *
       generalize hasName (msOf H) H.ceil = f2 at *
       cases f1 with
       | false =>
        have hz : Hid (hallF H = (0, 0, 6)) := ok_stop (by decide) hk2.out (by rw [flt2, hpm.out (.inl rfl)]) (by decide)
        simp only [Bool.not_false] at hm1
        clear hpm hpt HPl HWa HSi HTw HCa HSe hk2 HX HMc
        gi_wp2
        (refine ⟨trivial, ?_⟩; ((with_reducible refine (callsIn_wide.2 (HMf.out _ ?hk)).mono ?_); (case hk => (repeat' first | with_reducible (first | apply bz0 | assumption | apply bz1 | apply bz2 | apply bz3 | apply bz4 | apply bz5) | (simp <;> omega))); rintro e w' ⟨rfl, z3, rfl⟩))
        gi_wp2
        all_goals first | (exfalso; exact undef_ne _ (by assumption)) | skip
        refine ⟨trivial, ?_⟩
        gi_wp2
        all_goals first | (exfalso; exact undef_ne _ (by assumption)) | skip
        (refine ⟨trivial, ?_⟩; ((with_reducible refine (callsIn_wide.2 (HWr.out 0 0 6 _)).mono ?_); rintro e w' ⟨rfl, zw, rfl⟩))
        gi_wp2
        refine bodyPost_ret (v := .tuple #[.agg #[.int .i64 0, .int .i64 0], .int .i64 6]) (by simp [results, Tryz.results20, go_sem, r0, r1, gr]) rfl (retX (by rw [hz.out]; rfl) (by (repeat' first | with_reducible (first | apply bz0 | assumption | apply bz1 | apply bz2 | apply bz3 | apply bz4 | apply bz5) | (simp <;> omega))))
       | true =>
        simp only [Bool.not_true] at hm1
        cases f2 with
        | false =>
         have hz : Hid (hallF H = (0, 0, 6)) := ok_stop (by decide) hk2.out (by rw [flt2, hpm.out (.inr rfl)]) (by decide)
         simp only [Bool.not_false] at hm2
         clear hpm hpt HPl HWa HSi HTw HCa HSe hk2 HX
         gi_wp2
         (refine ⟨trivial, ?_⟩; ((with_reducible refine (callsIn_wide.2 (HMf.out _ ?hk)).mono ?_); (case hk => (repeat' first | with_reducible (first | apply bz0 | assumption | apply bz1 | apply bz2 | apply bz3 | apply bz4 | apply bz5) | (simp <;> omega))); rintro e w' ⟨rfl, z3, rfl⟩))
         gi_wp2
         all_goals first | (exfalso; exact undef_ne _ (by assumption)) | skip
         (refine ⟨trivial, ?_⟩; ((with_reducible refine (callsIn_wide.2 (HMc.out _ ?hk)).mono ?_); (case hk => (repeat' first | with_reducible (first | apply bz0 | assumption | apply bz1 | apply bz2 | apply bz3 | apply bz4 | apply bz5) | (simp <;> omega))); rintro e w' ⟨rfl, z4, rfl⟩))
         gi_wp2
         all_goals first | (exfalso; exact undef_ne _ (by assumption)) | skip
         (refine ⟨trivial, ?_⟩; ((with_reducible refine (callsIn_wide.2 (HWr.out 0 0 6 _)).mono ?_); rintro e w' ⟨rfl, zw, rfl⟩))
         gi_wp2
         refine bodyPost_ret (v := .tuple #[.agg #[.int .i64 0, .int .i64 0], .int .i64 6]) (by simp [results, Tryz.results20, go_sem, r0, r1, gr]) rfl (retX (by rw [hz.out]; rfl) (by (repeat' first | with_reducible (first | apply bz0 | assumption | apply bz1 | apply bz2 | apply bz3 | apply bz4 | apply bz5) | (simp <;> omega))))
        | true =>
         simp only [Bool.not_true] at hm2
         have hpE := hpt.out rfl rfl
         clear hpm hpt
         cases q1 : decide ((H.cors.length : Int) < 3) with
         | true =>
          have hz : Hid (hallF H = (0, 0, 10)) := ok_stop (by decide) hk2.out (by rw [flt2, hpE, if_pos (by simp at q1; omega)]) (by decide)
          clear hpE HPl HWa HSi HTw HCa HSe hk2 HX
          gi_wp2
          (refine ⟨trivial, ?_⟩; ((with_reducible refine (callsIn_wide.2 (HMf.out _ ?hk)).mono ?_); (case hk => (repeat' first | with_reducible (first | apply bz0 | assumption | apply bz1 | apply bz2 | apply bz3 | apply bz4 | apply bz5) | (simp <;> omega))); rintro e w' ⟨rfl, z3, rfl⟩))
          gi_wp2
          all_goals first | (exfalso; exact undef_ne _ (by assumption)) | skip
          (refine ⟨trivial, ?_⟩; ((with_reducible refine (callsIn_wide.2 (HMc.out _ ?hk)).mono ?_); (case hk => (repeat' first | with_reducible (first | apply bz0 | assumption | apply bz1 | apply bz2 | apply bz3 | apply bz4 | apply bz5) | (simp <;> omega))); rintro e w' ⟨rfl, z4, rfl⟩))
          gi_wp2
          all_goals first | (exfalso; exact undef_ne _ (by assumption)) | skip
          (refine ⟨trivial, ?_⟩; ((with_reducible refine (callsIn_wide.2 (HWr.out 0 0 10 _)).mono ?_); rintro e w' ⟨rfl, zw, rfl⟩))
          gi_wp2
          refine bodyPost_ret (v := .tuple #[.agg #[.int .i64 0, .int .i64 0], .int .i64 10]) (by simp [results, Tryz.results20, go_sem, r0, r1, gr]) rfl (retX (by rw [hz.out]; rfl) (by (repeat' first | with_reducible (first | apply bz0 | assumption | apply bz1 | apply bz2 | apply bz3 | apply bz4 | apply bz5) | (simp <;> omega))))
         | false =>
          have h3 : 3 ≤ H.cors.length := by simp at q1; omega
          rw [if_neg (by omega)] at hpE
          cases q2 : ((H.wals.length : Int) != (H.cors.length : Int)) with
          | true =>
           have hz : Hid (hallF H = (0, 0, 10)) := ok_stop (by decide) hk2.out (by rw [flt2, hpE, if_pos (by simp at q2; omega)]) (by decide)
           clear hpE HPl HWa HSi HTw HCa HSe hk2 HX
           gi_wp2
           (refine ⟨trivial, ?_⟩; ((with_reducible refine (callsIn_wide.2 (HMf.out _ ?hk)).mono ?_); (case hk => (repeat' first | with_reducible (first | apply bz0 | assumption | apply bz1 | apply bz2 | apply bz3 | apply bz4 | apply bz5) | (simp <;> omega))); rintro e w' ⟨rfl, z3, rfl⟩))
           gi_wp2
           all_goals first | (exfalso; exact undef_ne _ (by assumption)) | skip
           (refine ⟨trivial, ?_⟩; ((with_reducible refine (callsIn_wide.2 (HMc.out _ ?hk)).mono ?_); (case hk => (repeat' first | with_reducible (first | apply bz0 | assumption | apply bz1 | apply bz2 | apply bz3 | apply bz4 | apply bz5) | (simp <;> omega))); rintro e w' ⟨rfl, z4, rfl⟩))
           gi_wp2
           all_goals first | (exfalso; exact undef_ne _ (by assumption)) | skip
           (refine ⟨trivial, ?_⟩; ((with_reducible refine (callsIn_wide.2 (HWr.out 0 0 10 _)).mono ?_); rintro e w' ⟨rfl, zw, rfl⟩))
           gi_wp2
           refine bodyPost_ret (v := .tuple #[.agg #[.int .i64 0, .int .i64 0], .int .i64 10]) (by simp [results, Tryz.results20, go_sem, r0, r1, gr]) rfl (retX (by rw [hz.out]; rfl) (by (repeat' first | with_reducible (first | apply bz0 | assumption | apply bz1 | apply bz2 | apply bz3 | apply bz4 | apply bz5) | (simp <;> omega))))
          | false =>
           have hNe : H.wals.length = H.cors.length := by simp at q2; omega
           rw [if_neg (by simp [hNe])] at hpE
           have hNh := hidden hNe
           clear hNe
           cases q3 : decide ((12 : Int) < (H.wals.length : Int)) with
           | true =>
            have hz : Hid (hallF H = (0, 0, 8)) := ok_stop (by decide) hk2.out (by rw [flt2, hpE, if_pos (by simp at q3; omega)]) (by decide)
            clear hpE HPl HWa HSi HTw HCa HSe hk2 HX
            gi_wp2
            (refine ⟨trivial, ?_⟩; ((with_reducible refine (callsIn_wide.2 (HMf.out _ ?hk)).mono ?_); (case hk => (repeat' first | with_reducible (first | apply bz0 | assumption | apply bz1 | apply bz2 | apply bz3 | apply bz4 | apply bz5) | (simp <;> omega))); rintro e w' ⟨rfl, z3, rfl⟩))
            gi_wp2
            all_goals first | (exfalso; exact undef_ne _ (by assumption)) | skip
            (refine ⟨trivial, ?_⟩; ((with_reducible refine (callsIn_wide.2 (HMc.out _ ?hk)).mono ?_); (case hk => (repeat' first | with_reducible (first | apply bz0 | assumption | apply bz1 | apply bz2 | apply bz3 | apply bz4 | apply bz5) | (simp <;> omega))); rintro e w' ⟨rfl, z4, rfl⟩))
            gi_wp2
            all_goals first | (exfalso; exact undef_ne _ (by assumption)) | skip
            (refine ⟨trivial, ?_⟩; ((with_reducible refine (callsIn_wide.2 (HWr.out 0 0 8 _)).mono ?_); rintro e w' ⟨rfl, zw, rfl⟩))
            gi_wp2
            refine bodyPost_ret (v := .tuple #[.agg #[.int .i64 0, .int .i64 0], .int .i64 8]) (by simp [results, Tryz.results20, go_sem, r0, r1, gr]) rfl (retX (by rw [hz.out]; rfl) (by (repeat' first | with_reducible (first | apply bz0 | assumption | apply bz1 | apply bz2 | apply bz3 | apply bz4 | apply bz5) | (simp <;> omega))))
           | false =>
            have h12 : H.wals.length ≤ 12 := by simp at q3; omega
            have hk3 := hidden (okS hk2.out (by rw [flt2, hpE, if_neg (by omega)]))
            clear hpE hk2
            gi_wp2
            (refine ⟨trivial, ?_⟩; ((with_reducible refine (callsIn_wide.2 (HMf.out _ ?hk)).mono ?_); (case hk => (repeat' first | with_reducible (first | apply bz0 | assumption | apply bz1 | apply bz2 | apply bz3 | apply bz4 | apply bz5) | (simp <;> omega))); rintro e w' ⟨rfl, z3, rfl⟩))
            gi_wp2
            all_goals first | (exfalso; exact undef_ne _ (by assumption)) | skip
            (refine ⟨trivial, ?_⟩; ((with_reducible refine (callsIn_wide.2 (HMc.out _ ?hk)).mono ?_); (case hk => (repeat' first | with_reducible (first | apply bz0 | assumption | apply bz1 | apply bz2 | apply bz3 | apply bz4 | apply bz5) | (simp <;> omega))); rintro e w' ⟨rfl, z4, rfl⟩))
            gi_wp2
            all_goals first | (exfalso; exact undef_ne _ (by assumption)) | skip
            clear HMf HMc hm1 hm2 q1 q2 q3
            clear x0 x1 x2 x3 x4 x5 x6 x7 x8 r0 r1 rf gx gr
            gi_loopw [7] (fun i' wr => ∃ k : Nat, i' = .int .i64 k ∧ k ≤ H.cors.length ∧ Below X.heap.size X wr ∧ ∀ j, j < k → cornE H j = 0) (fun i' _ => H.cors.length - (intOf i').toNat)
            case atStart => exact ⟨0, rfl, Nat.zero_le _, hB.trans ((show Below wr.heap.size wr _ by (repeat' first | with_reducible (first | apply bz0 | assumption | apply bz1 | apply bz2 | apply bz3 | apply bz4 | apply bz5) | (simp <;> omega))).lower hB.size), fun j hj => absurd hj (Nat.not_lt_zero j)⟩
            case round =>
             clear hB hBw hgs
             obtain ⟨k, rfl, hk, hB, hno⟩ := hrel
             have hBw : Below w.heap.size w wr := BX.trans (hB.lower BX.size)
             have hgs := hBw.size
             obtain ⟨x0, x1, x2, x3, x4, x5, x6, x7, x8, r0, r1, rf⟩ := HX.out _ hB
             have gx := has_of_cell x0
             have gr := has_of_cell r0
             rcases Nat.lt_or_ge k H.cors.length with hlt | hge
             · obtain ⟨g, o, rfl, hg, hcs⟩ := cor_at (hS5.below hBw) hlt
               obtain ⟨m0, m1⟩ := hcs k hlt
               have hst : Hid (cornE H k = 2 → hallF H = (2, (k : Int), 2)) := fun he => ok_stop (by decide) hk3.out (by rw [flt3, oneF_stop hlt (by rw [he]; decide) hno, he]) (show (2 : Int) ≠ 0 by decide)
               have hgo : Hid (cornE H k = 0 → ∀ j, j < k + 1 → cornE H j = 0) := fun he j hj => by
                rcases Nat.lt_or_ge j k with h' | h'
                · exact hno j h'
                · obtain rfl : j = k := by omega
                  exact he
               have hcE : Hid (cornE H k = if (wiB (corAt H.cors k).x (-5000) 5000 && wiB (corAt H.cors k).y (-5000) 5000) = false then 2 else 0) := corn_place
               have P1 := hidden (fun (W : World) => HPl.out (corAt H.cors k).x W)
               have P2 := hidden (fun (W : World) => HPl.out (corAt H.cors k).y W)
               clear hcs hS5 hno HWa HSi HTw HCa HSe hk3 hNh HX HPl
               generalize cornE H k = ce at *
               generalize (corAt H.cors k).x = cx at *
               generalize (corAt H.cors k).y = cy at *
               cases p5 : wiB cx (-5000) 5000 with
               | false =>
                rw [p5] at P1 hcE
                have hz := hidden (hst.out hcE.out)
                clear hst hgo hcE
                gi_wp2
                (refine ⟨trivial, ?_⟩; ((with_reducible refine (callsIn_wide.2 (P1.out _)).mono ?_); rintro e w' ⟨rfl, z5, rfl⟩))
                gi_wp2
                all_goals first | (exfalso; exact undef_ne _ (by assumption)) | skip
                refine ⟨trivial, ?_⟩
                gi_wp2
                all_goals first | (exfalso; exact undef_ne _ (by assumption)) | skip
                (refine ⟨trivial, ?_⟩; ((with_reducible refine (callsIn_wide.2 (HWr.out 2 (k : Int) 2 _)).mono ?_); rintro e w' ⟨rfl, zw, rfl⟩))
                gi_wp2
                refine bodyPost_ret (v := .tuple #[.agg #[.int .i64 2, .int .i64 ((k : Int))], .int .i64 2]) (by simp [results, Tryz.results20, go_sem, r0, r1, gr]) rfl (retX (by rw [hz.out]; rfl) (by (repeat' first | with_reducible (first | apply bz0 | assumption | apply bz1 | apply bz2 | apply bz3 | apply bz4 | apply bz5) | (simp <;> omega))))
               | true =>
                cases p6 : wiB cy (-5000) 5000 with
                | false =>
                 rw [p5] at P1 hcE
                 rw [p6] at P2 hcE
                 have hz := hidden (hst.out hcE.out)
                 clear hst hgo hcE
                 gi_wp2
                 (refine ⟨trivial, ?_⟩; ((with_reducible refine (callsIn_wide.2 (P1.out _)).mono ?_); rintro e w' ⟨rfl, z5, rfl⟩))
                 gi_wp2
                 all_goals first | (exfalso; exact undef_ne _ (by assumption)) | skip
                 (refine ⟨trivial, ?_⟩; ((with_reducible refine (callsIn_wide.2 (P2.out _)).mono ?_); rintro e w' ⟨rfl, z6, rfl⟩))
                 gi_wp2
                 all_goals first | (exfalso; exact undef_ne _ (by assumption)) | skip
                 (refine ⟨trivial, ?_⟩; ((with_reducible refine (callsIn_wide.2 (HWr.out 2 (k : Int) 2 _)).mono ?_); rintro e w' ⟨rfl, zw, rfl⟩))
                 gi_wp2
                 refine bodyPost_ret (v := .tuple #[.agg #[.int .i64 2, .int .i64 ((k : Int))], .int .i64 2]) (by simp [results, Tryz.results20, go_sem, r0, r1, gr]) rfl (retX (by rw [hz.out]; rfl) (by (repeat' first | with_reducible (first | apply bz0 | assumption | apply bz1 | apply bz2 | apply bz3 | apply bz4 | apply bz5) | (simp <;> omega))))
                | true =>
                 rw [p5] at P1 hcE
                 rw [p6] at P2 hcE
                 have hz := hidden (hgo.out hcE.out)
                 clear hst hgo hcE HWr
                 gi_wp2
                 (refine ⟨trivial, ?_⟩; ((with_reducible refine (callsIn_wide.2 (P1.out _)).mono ?_); rintro e w' ⟨rfl, z5, rfl⟩))
                 gi_wp2
                 all_goals first | (exfalso; exact undef_ne _ (by assumption)) | skip
                 (refine ⟨trivial, ?_⟩; ((with_reducible refine (callsIn_wide.2 (P2.out _)).mono ?_); rintro e w' ⟨rfl, z6, rfl⟩))
                 gi_wp2
                 all_goals first | (exfalso; exact undef_ne _ (by assumption)) | skip
                 exact ⟨⟨k + 1, by simp, by omega, hB.trans ((show Below wr.heap.size wr _ by (repeat' first | with_reducible (first | apply bz0 | assumption | apply bz1 | apply bz2 | apply bz3 | apply bz4 | apply bz5) | (simp <;> omega))).lower hB.size), hz.out⟩, by simp [intOf]; omega⟩
             · obtain rfl : k = H.cors.length := by omega
               have hk4 := hidden (okS hk3.out (by rw [flt3, oneF_ok hno]))
               have hC := hidden (corn_in hno)
               clear hno hk3 HPl hS5
               gi_wp2
               clear x0 x1 x2 x3 x4 x5 x6 x7 x8 r0 r1 rf gx gr
               gi_loopw [8] (fun i' wr => ∃ k : Nat, i' = .int .i64 k ∧ k ≤ H.wals.length ∧ Below X.heap.size X wr ∧ ∀ j, j < k → wallEk H (msOf H) fs0 j = 0) (fun i' _ => H.wals.length - (intOf i').toNat)
               case atStart => exact ⟨0, rfl, Nat.zero_le _, hB, fun j hj => absurd hj (Nat.not_lt_zero j)⟩
               case round =>
                clear hB hBw hgs
                obtain ⟨k, rfl, hk, hB, hno⟩ := hrel
                have hBw : Below w.heap.size w wr := BX.trans (hB.lower BX.size)
                have hgs := hBw.size
                obtain ⟨x0, x1, x2, x3, x4, x5, x6, x7, x8, r0, r1, rf⟩ := HX.out _ hB
                have gx := has_of_cell x0
                have gr := has_of_cell r0
                rcases Nat.lt_or_ge k H.wals.length with hlt | hge
                · have hst : Hid (wallEk H (msOf H) fs0 k ≠ 0 → hallF H = (3, (k : Int), wallEk H (msOf H) fs0 k)) := fun he => ok_stop (by decide) hk4.out (by rw [flt4, oneF_stop (by have := hNh.out; omega) he hno]) he
                  have hgo : Hid (wallEk H (msOf H) fs0 k = 0 → ∀ j, j < k + 1 → wallEk H (msOf H) fs0 j = 0) := fun he j hj => by
                   rcases Nat.lt_or_ge j k with h' | h'
                   · exact hno j h'
                   · obtain rfl : j = k := by omega
                     exact he
                  have HWk := hidden (fun (W : World) (hW : Below w.heap.size w W) => HWa.out hC.out hNh.out k hlt W hW)
                  clear hno HWa HSi HTw HCa HSe hk4 hNh hC HX
                  generalize wallEk H (msOf H) fs0 k = ev at *
                  cases q4 : (ev != 0) with
                  | true =>
                   have hz := hidden (hst.out (by simpa using q4))
                   clear hst hgo
                   gi_wp2
                   (refine ⟨trivial, ?_⟩; ((with_reducible refine (callsIn_wide.2 (HWk.out _ ?hk)).mono ?_); (case hk => (repeat' first | with_reducible (first | apply bz0 | assumption | apply bz1 | apply bz2 | apply bz3 | apply bz4 | apply bz5) | (simp <;> omega))); rintro e w' ⟨rfl, z5, rfl⟩))
                   gi_wp2
                   (refine ⟨trivial, ?_⟩; ((with_reducible refine (callsIn_wide.2 (HWr.out 3 (k : Int) ev _)).mono ?_); rintro e w' ⟨rfl, zw, rfl⟩))
                   gi_wp2
                   refine bodyPost_ret (v := .tuple #[.agg #[.int .i64 3, .int .i64 ((k : Int))], .int .i64 ev]) (by simp [results, Tryz.results20, go_sem, r0, r1, gr]) rfl (retX (by rw [hz.out]; rfl) (by (repeat' first | with_reducible (first | apply bz0 | assumption | apply bz1 | apply bz2 | apply bz3 | apply bz4 | apply bz5) | (simp <;> omega))))
                  | false =>
                   have hz := hidden (hgo.out (by simpa using q4))
                   clear hst hgo HWr
                   gi_wp2
                   (refine ⟨trivial, ?_⟩; ((with_reducible refine (callsIn_wide.2 (HWk.out _ ?hk)).mono ?_); (case hk => (repeat' first | with_reducible (first | apply bz0 | assumption | apply bz1 | apply bz2 | apply bz3 | apply bz4 | apply bz5) | (simp <;> omega))); rintro e w' ⟨rfl, z5, rfl⟩))
                   gi_wp2
                   exact ⟨⟨k + 1, by simp, by omega, hB.trans ((show Below wr.heap.size wr _ by (repeat' first | with_reducible (first | apply bz0 | assumption | apply bz1 | apply bz2 | apply bz3 | apply bz4 | apply bz5) | (simp <;> omega))).lower hB.size), hz.out⟩, by simp [intOf]; omega⟩
                · obtain rfl : k = H.wals.length := by omega
                  have hno' : ∀ j, j < H.cors.length → wallEk H (msOf H) fs0 j = 0 := fun j hj => hno j (by have := hNh.out; omega)
                  have hk5 := hidden (okS hk4.out (by rw [flt4, oneF_ok hno']))
                  have hL := hidden (lines_all hC.out hno')
                  have hpl : Hid (planE H = if simpleB H = false then 24 else if areaTo H H.cors.length ≤ 0 then 9 else 0) := rfl
                  have hsi := simple_eq hL.out h3
                  have HSk := hidden (fun (W : World) (hW : Below w.heap.size w W) => HSi.out hC.out hL.out hNh.out h3 W hW)
                  have HTk := hidden (fun (W : World) (hW : Below w.heap.size w W) => HTw.out hC.out (by have := hNh.out; omega) W hW)
                  rw [← hsi] at HSk
                  clear hno hno' hk4 HWa HSi HTw hsi
                  generalize simpleB H = sb at *
                  generalize areaTo H H.cors.length = ar at *
                  cases sb with
                  | false =>
                   have hz : Hid (hallF H = (0, 0, 24)) := ok_stop (by decide) hk5.out (by rw [flt5, hpl.out]; rfl) (by decide)
                   clear hpl hk5 HCa HSe hNh hC hL HX HTk
                   gi_wp2
                   (refine ⟨trivial, ?_⟩; ((with_reducible refine (callsIn_wide.2 (HSk.out _ ?hk)).mono ?_); (case hk => (repeat' first | with_reducible (first | apply bz0 | assumption | apply bz1 | apply bz2 | apply bz3 | apply bz4 | apply bz5) | (simp <;> omega))); rintro e w' ⟨rfl, z5, rfl⟩))
                   gi_wp2
                   (refine ⟨trivial, ?_⟩; ((with_reducible refine (callsIn_wide.2 (HWr.out 0 0 24 _)).mono ?_); rintro e w' ⟨rfl, zw, rfl⟩))
                   gi_wp2
                   refine bodyPost_ret (v := .tuple #[.agg #[.int .i64 0, .int .i64 0], .int .i64 24]) (by simp [results, Tryz.results20, go_sem, r0, r1, gr]) rfl (retX (by rw [hz.out]; rfl) (by (repeat' first | with_reducible (first | apply bz0 | assumption | apply bz1 | apply bz2 | apply bz3 | apply bz4 | apply bz5) | (simp <;> omega))))
                  | true =>
                   cases q5 : decide (ar ≤ 0) with
                   | true =>
                    have hz : Hid (hallF H = (0, 0, 9)) := ok_stop (by decide) hk5.out (by rw [flt5, hpl.out, if_neg (by simp), if_pos (of_decide_eq_true q5)]) (by decide)
                    clear hpl hk5 HCa HSe hNh hC hL HX
                    gi_wp2
                    (refine ⟨trivial, ?_⟩; ((with_reducible refine (callsIn_wide.2 (HSk.out _ ?hk)).mono ?_); (case hk => (repeat' first | with_reducible (first | apply bz0 | assumption | apply bz1 | apply bz2 | apply bz3 | apply bz4 | apply bz5) | (simp <;> omega))); rintro e w' ⟨rfl, z5, rfl⟩))
                    gi_wp2
                    (refine ⟨trivial, ?_⟩; ((with_reducible refine (callsIn_wide.2 (HTk.out _ ?hk)).mono ?_); (case hk => (repeat' first | with_reducible (first | apply bz0 | assumption | apply bz1 | apply bz2 | apply bz3 | apply bz4 | apply bz5) | (simp <;> omega))); rintro e w' ⟨rfl, z6, rfl⟩))
                    gi_wp2
                    (refine ⟨trivial, ?_⟩; ((with_reducible refine (callsIn_wide.2 (HWr.out 0 0 9 _)).mono ?_); rintro e w' ⟨rfl, zw, rfl⟩))
                    gi_wp2
                    refine bodyPost_ret (v := .tuple #[.agg #[.int .i64 0, .int .i64 0], .int .i64 9]) (by simp [results, Tryz.results20, go_sem, r0, r1, gr]) rfl (retX (by rw [hz.out]; rfl) (by (repeat' first | with_reducible (first | apply bz0 | assumption | apply bz1 | apply bz2 | apply bz3 | apply bz4 | apply bz5) | (simp <;> omega))))
                   | false =>
                    have hk6 := hidden (okS hk5.out (by rw [flt5, hpl.out, if_neg (by simp), if_neg (of_decide_eq_false q5)]))
                    clear hpl hk5
                    cases q6 : decide ((4 : Int) < (H.cans.length : Int)) with
                    | true =>
                     have hz : Hid (hallF H = (0, 0, 8)) := ok_stop (by decide) hk6.out (by rw [flt6]; unfold cansF; rw [if_pos (by simp at q6; omega)]) (by decide)
                     clear hk6 HCa HSe hNh hC hL HX
                     gi_wp2
                     (refine ⟨trivial, ?_⟩; ((with_reducible refine (callsIn_wide.2 (HSk.out _ ?hk)).mono ?_); (case hk => (repeat' first | with_reducible (first | apply bz0 | assumption | apply bz1 | apply bz2 | apply bz3 | apply bz4 | apply bz5) | (simp <;> omega))); rintro e w' ⟨rfl, z5, rfl⟩))
                     gi_wp2
                     (refine ⟨trivial, ?_⟩; ((with_reducible refine (callsIn_wide.2 (HTk.out _ ?hk)).mono ?_); (case hk => (repeat' first | with_reducible (first | apply bz0 | assumption | apply bz1 | apply bz2 | apply bz3 | apply bz4 | apply bz5) | (simp <;> omega))); rintro e w' ⟨rfl, z6, rfl⟩))
                     gi_wp2
                     (refine ⟨trivial, ?_⟩; ((with_reducible refine (callsIn_wide.2 (HWr.out 0 0 8 _)).mono ?_); rintro e w' ⟨rfl, zw, rfl⟩))
                     gi_wp2
                     refine bodyPost_ret (v := .tuple #[.agg #[.int .i64 0, .int .i64 0], .int .i64 8]) (by simp [results, Tryz.results20, go_sem, r0, r1, gr]) rfl (retX (by rw [hz.out]; rfl) (by (repeat' first | with_reducible (first | apply bz0 | assumption | apply bz1 | apply bz2 | apply bz3 | apply bz4 | apply bz5) | (simp <;> omega))))
                    | false =>
                     have hc4 : ¬ 4 < H.cans.length := by simp at q6; omega
                     gi_wp2
                     (refine ⟨trivial, ?_⟩; ((with_reducible refine (callsIn_wide.2 (HSk.out _ ?hk)).mono ?_); (case hk => (repeat' first | with_reducible (first | apply bz0 | assumption | apply bz1 | apply bz2 | apply bz3 | apply bz4 | apply bz5) | (simp <;> omega))); rintro e w' ⟨rfl, z5, rfl⟩))
                     gi_wp2
                     (refine ⟨trivial, ?_⟩; ((with_reducible refine (callsIn_wide.2 (HTk.out _ ?hk)).mono ?_); (case hk => (repeat' first | with_reducible (first | apply bz0 | assumption | apply bz1 | apply bz2 | apply bz3 | apply bz4 | apply bz5) | (simp <;> omega))); rintro e w' ⟨rfl, z6, rfl⟩))
                     gi_wp2
                     clear HSk HTk q5 q6
                     clear x0 x1 x2 x3 x4 x5 x6 x7 x8 r0 r1 rf gx gr
                     gi_loopw [10] (fun i' wr => ∃ k : Nat, i' = .int .i64 k ∧ k ≤ H.cans.length ∧ Below X.heap.size X wr ∧ ∀ j, j < k → canE H (msOf H) (fs1 H) j = 0) (fun i' _ => H.cans.length - (intOf i').toNat)
                     case atStart => exact ⟨0, rfl, Nat.zero_le _, hB.trans ((show Below wr.heap.size wr _ by (repeat' first | with_reducible (first | apply bz0 | assumption | apply bz1 | apply bz2 | apply bz3 | apply bz4 | apply bz5) | (simp <;> omega))).lower hB.size), fun j hj => absurd hj (Nat.not_lt_zero j)⟩
                     case round =>
                      clear hB hBw hgs
                      obtain ⟨k, rfl, hk, hB, hno⟩ := hrel
                      have hBw : Below w.heap.size w wr := BX.trans (hB.lower BX.size)
                      have hgs := hBw.size
                      obtain ⟨x0, x1, x2, x3, x4, x5, x6, x7, x8, r0, r1, rf⟩ := HX.out _ hB
                      have gx := has_of_cell x0
                      have gr := has_of_cell r0
                      rcases Nat.lt_or_ge k H.cans.length with hlt | hge
                      · have hst : Hid (canE H (msOf H) (fs1 H) k ≠ 0 → hallF H = (4, (k : Int), canE H (msOf H) (fs1 H) k)) := fun he => ok_stop (by decide) hk6.out (by rw [flt6]; unfold cansF; rw [if_neg hc4, oneF_stop hlt he hno]) he
                        have hgo : Hid (canE H (msOf H) (fs1 H) k = 0 → ∀ j, j < k + 1 → canE H (msOf H) (fs1 H) j = 0) := fun he j hj => by
                         rcases Nat.lt_or_ge j k with h' | h'
                         · exact hno j h'
                         · obtain rfl : j = k := by omega
                           exact he
                        have HCk := hidden (fun (W : World) (hW : Below w.heap.size w W) => HCa.out hC.out hL.out hNh.out ⟨hh1, hh2⟩ k hlt W hW)
                        clear hno HCa HSe hk6 hNh hC hL HX
                        generalize canE H (msOf H) (fs1 H) k = ev at *
                        cases q4 : (ev != 0) with
                        | true =>
                         have hz := hidden (hst.out (by simpa using q4))
                         clear hst hgo
                         gi_wp2
                         (refine ⟨trivial, ?_⟩; ((with_reducible refine (callsIn_wide.2 (HCk.out _ ?hk)).mono ?_); (case hk => (repeat' first | with_reducible (first | apply bz0 | assumption | apply bz1 | apply bz2 | apply bz3 | apply bz4 | apply bz5) | (simp <;> omega))); rintro e w' ⟨rfl, z5, rfl⟩))
                         gi_wp2
                         (refine ⟨trivial, ?_⟩; ((with_reducible refine (callsIn_wide.2 (HWr.out 4 (k : Int) ev _)).mono ?_); rintro e w' ⟨rfl, zw, rfl⟩))
                         gi_wp2
                         refine bodyPost_ret (v := .tuple #[.agg #[.int .i64 4, .int .i64 ((k : Int))], .int .i64 ev]) (by simp [results, Tryz.results20, go_sem, r0, r1, gr]) rfl (retX (by rw [hz.out]; rfl) (by (repeat' first | with_reducible (first | apply bz0 | assumption | apply bz1 | apply bz2 | apply bz3 | apply bz4 | apply bz5) | (simp <;> omega))))
                        | false =>
                         have hz := hidden (hgo.out (by simpa using q4))
                         clear hst hgo HWr
                         gi_wp2
                         (refine ⟨trivial, ?_⟩; ((with_reducible refine (callsIn_wide.2 (HCk.out _ ?hk)).mono ?_); (case hk => (repeat' first | with_reducible (first | apply bz0 | assumption | apply bz1 | apply bz2 | apply bz3 | apply bz4 | apply bz5) | (simp <;> omega))); rintro e w' ⟨rfl, z5, rfl⟩))
                         gi_wp2
                         exact ⟨⟨k + 1, by simp, by omega, hB.trans ((show Below wr.heap.size wr _ by (repeat' first | with_reducible (first | apply bz0 | assumption | apply bz1 | apply bz2 | apply bz3 | apply bz4 | apply bz5) | (simp <;> omega))).lower hB.size), hz.out⟩, by simp [intOf]; omega⟩
                      · obtain rfl : k = H.cans.length := by omega
                        have hk7 := hidden (okS hk6.out (by rw [flt6]; unfold cansF; rw [if_neg hc4, oneF_ok hno]))
                        clear hno hk6 HCa
                        cases q7 : decide ((40 : Int) < (H.seas.length : Int)) with
                        | true =>
                         have hz : Hid (hallF H = (0, 0, 8)) := ok_stop (by decide) hk7.out (by rw [flt7]; unfold seatsF; rw [if_pos (by simp at q7; omega)]) (by decide)
                         clear hk7 HSe hNh hC hL HX
                         gi_wp2
                         (refine ⟨trivial, ?_⟩; ((with_reducible refine (callsIn_wide.2 (HWr.out 0 0 8 _)).mono ?_); rintro e w' ⟨rfl, zw, rfl⟩))
                         gi_wp2
                         refine bodyPost_ret (v := .tuple #[.agg #[.int .i64 0, .int .i64 0], .int .i64 8]) (by simp [results, Tryz.results20, go_sem, r0, r1, gr]) rfl (retX (by rw [hz.out]; rfl) (by (repeat' first | with_reducible (first | apply bz0 | assumption | apply bz1 | apply bz2 | apply bz3 | apply bz4 | apply bz5) | (simp <;> omega))))
                        | false =>
                         have hs40 : ¬ 40 < H.seas.length := by simp at q7; omega
                         gi_wp2
                         clear q7
                         clear x0 x1 x2 x3 x4 x5 x6 x7 x8 r0 r1 rf gx gr
                         gi_loopw [12] (fun i' wr => ∃ k : Nat, i' = .int .i64 k ∧ k ≤ H.seas.length ∧ Below X.heap.size X wr ∧ ∀ j, j < k → seaE H j = 0) (fun i' _ => H.seas.length - (intOf i').toNat)
                         case atStart => exact ⟨0, rfl, Nat.zero_le _, hB, fun j hj => absurd hj (Nat.not_lt_zero j)⟩
                         case round =>
                          clear hB hBw hgs
                          obtain ⟨k, rfl, hk, hB, hno⟩ := hrel
                          have hBw : Below w.heap.size w wr := BX.trans (hB.lower BX.size)
                          have hgs := hBw.size
                          obtain ⟨x0, x1, x2, x3, x4, x5, x6, x7, x8, r0, r1, rf⟩ := HX.out _ hB
                          have gx := has_of_cell x0
                          have gr := has_of_cell r0
                          rcases Nat.lt_or_ge k H.seas.length with hlt | hge
                          · have hst : Hid (seaE H k ≠ 0 → hallF H = (5, (k : Int), seaE H k)) := fun he => ok_stop (by decide) hk7.out (by rw [flt7]; unfold seatsF; rw [if_neg hs40, oneF_stop hlt he hno]) he
                            have hgo : Hid (seaE H k = 0 → ∀ j, j < k + 1 → seaE H j = 0) := fun he j hj => by
                             rcases Nat.lt_or_ge j k with h' | h'
                             · exact hno j h'
                             · obtain rfl : j = k := by omega
                               exact he
                            have HSk := hidden (fun (W : World) (hW : Below w.heap.size w W) => HSe.out hC.out hL.out hNh.out (by omega) k hlt W hW)
                            clear hno HSe hk7 hNh hC hL HX
                            generalize seaE H k = ev at *
                            cases q4 : (ev != 0) with
                            | true =>
                             have hz := hidden (hst.out (by simpa using q4))
                             clear hst hgo
                             gi_wp2
                             (refine ⟨trivial, ?_⟩; ((with_reducible refine (callsIn_wide.2 (HSk.out _ ?hk)).mono ?_); (case hk => (repeat' first | with_reducible (first | apply bz0 | assumption | apply bz1 | apply bz2 | apply bz3 | apply bz4 | apply bz5) | (simp <;> omega))); rintro e w' ⟨rfl, z5, rfl⟩))
                             gi_wp2
                             (refine ⟨trivial, ?_⟩; ((with_reducible refine (callsIn_wide.2 (HWr.out 5 (k : Int) ev _)).mono ?_); rintro e w' ⟨rfl, zw, rfl⟩))
                             gi_wp2
                             refine bodyPost_ret (v := .tuple #[.agg #[.int .i64 5, .int .i64 ((k : Int))], .int .i64 ev]) (by simp [results, Tryz.results20, go_sem, r0, r1, gr]) rfl (retX (by rw [hz.out]; rfl) (by (repeat' first | with_reducible (first | apply bz0 | assumption | apply bz1 | apply bz2 | apply bz3 | apply bz4 | apply bz5) | (simp <;> omega))))
                            | false =>
                             have hz := hidden (hgo.out (by simpa using q4))
                             clear hst hgo HWr
                             gi_wp2
                             (refine ⟨trivial, ?_⟩; ((with_reducible refine (callsIn_wide.2 (HSk.out _ ?hk)).mono ?_); (case hk => (repeat' first | with_reducible (first | apply bz0 | assumption | apply bz1 | apply bz2 | apply bz3 | apply bz4 | apply bz5) | (simp <;> omega))); rintro e w' ⟨rfl, z5, rfl⟩))
                             gi_wp2
                             exact ⟨⟨k + 1, by simp, by omega, hB.trans ((show Below wr.heap.size wr _ by (repeat' first | with_reducible (first | apply bz0 | assumption | apply bz1 | apply bz2 | apply bz3 | apply bz4 | apply bz5) | (simp <;> omega))).lower hB.size), hz.out⟩, by simp [intOf]; omega⟩
                          · obtain rfl : k = H.seas.length := by omega
                            have hz : Hid (hallF H = (0, 0, 0)) := ok_end (okS hk7.out (by rw [flt7]; unfold seatsF; rw [if_neg hs40, oneF_ok hno]))
                            clear hno HSe hk7 hNh hC hL HX HWr
                            gi_wp2
                            refine bodyPost_ret (v := .tuple #[.agg #[.int .i64 0, .int .i64 0], .int .i64 0]) (by simp [results, Tryz.results20, go_sem, r0, r1, gr]) rfl (retX (by rw [hz.out]; rfl) (by (repeat' first | with_reducible (first | apply bz0 | assumption | apply bz1 | apply bz2 | apply bz3 | apply bz4 | apply bz5) | (simp <;> omega))))
end Go.Proofs.YtekieoamelahkaaGreat
