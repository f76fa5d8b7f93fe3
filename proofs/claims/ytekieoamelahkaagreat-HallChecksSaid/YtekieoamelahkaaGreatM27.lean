/- Box of shoeboxlaw01. -/
import Derived.Test.YtekieoamelahkaaGreatM25
import Derived.Test.YtekieoamelahkaaGreatM23
import Derived.Test.YtekieoamelahkaaGreatM24
set_option maxRecDepth 100000
set_option maxHeartbeats 1000000
set_option linter.unusedVariables false
set_option linter.unusedSimpArgs false
namespace Go.Proofs.YtekieoamelahkaaGreat
open Go.RowKit Go.Shelf

def boxH : Hal := { name := ⟨#[104]⟩, height := 600, floor := ⟨#[119]⟩, ceil := ⟨#[119]⟩, mats := [⟨⟨#[119]⟩, 100, 100, 100, 100, 0⟩, ⟨⟨#[118]⟩, 500, 500, 500, 500, 0⟩], cors := [⟨0, 0⟩, ⟨1000, 0⟩, ⟨1000, 2000⟩, ⟨0, 2000⟩], wals := [⟨⟨#[97]⟩, ⟨#[119]⟩, ⟨#[]⟩⟩, ⟨⟨#[98]⟩, ⟨#[119]⟩, ⟨#[118]⟩⟩, ⟨⟨#[99]⟩, ⟨#[119]⟩, ⟨#[]⟩⟩, ⟨⟨#[100]⟩, ⟨#[119]⟩, ⟨#[]⟩⟩], cans := [⟨⟨#[107]⟩, ⟨#[119]⟩, ⟨200, 500⟩, ⟨800, 900⟩, [400, 500]⟩], seas := [] }
theorem slc_mk {α : Type} {E : Enc α} {w : World} {g c : Nat} {xs : List α} (hl : xs.length ≤ 1000000) (hg : w.Has g) (h : ∀ i (hi : i < xs.length) j, j < E.size → ∃ u, w.cell? ⟨g, i * E.size + j, none⟩ = some u ∧ E.at_ w xs[i] j u) : SlcAt E w (.slice (some ⟨g, 0, none⟩) xs.length c) xs := by
 refine ⟨hl, _, c, rfl, fun _ => ⟨g, 0, rfl, hg, fun i x hx j hj => ?_⟩⟩
 obtain ⟨hi, rfl⟩ := List.getElem?_eq_some_iff.1 hx
 obtain ⟨u, h1, h2⟩ := h i hi j hj
 exact ⟨u, by simpa using h1, h2⟩
theorem boxH_sized : boxH.Sized := by
 constructor <;> decide

theorem law_Box (w : World) : Calls Tryz.prog 63 #[] w (fun e w' => Below w.heap.size w w' ∧ ∃ v4 v5 v6 v7 v8, e = .returned (halV boxH v4 v5 v6 v7 v8) ∧ HalVs w' v4 v5 v6 v7 v8 boxH) := by
 go_enter Tryz.func63, Tryz.ntmps63
 go_wp2
 generalize hX : World.alloc _ _ = X
 have BX : Below w.heap.size w X := by rw [← hX]; (repeat' first | with_reducible (first | apply bz0 | assumption | apply bz1 | apply bz2 | apply bz3 | apply bz4 | apply bz5) | (simp <;> omega))
 have hz : X.heap.size = w.heap.size + 6 := by rw [← hX]; simp
 have x0_0 : X.cell? ⟨w.heap.size, 0, none⟩ = some (.string ⟨#[104]⟩) := by rw [← hX]; simp [go_sem]
 have x0_1 : X.cell? ⟨w.heap.size, 1, none⟩ = some (.int .i64 600) := by rw [← hX]; simp [go_sem]
 have x0_2 : X.cell? ⟨w.heap.size, 2, none⟩ = some (.string ⟨#[119]⟩) := by rw [← hX]; simp [go_sem]
 have x0_3 : X.cell? ⟨w.heap.size, 3, none⟩ = some (.string ⟨#[119]⟩) := by rw [← hX]; simp [go_sem]
 have x0_4 : X.cell? ⟨w.heap.size, 4, none⟩ = some (.slice (some ⟨w.heap.size + 1, 0, none⟩) 2 2) := by rw [← hX]; simp [go_sem]
 have x0_5 : X.cell? ⟨w.heap.size, 5, none⟩ = some (.slice (some ⟨w.heap.size + 2, 0, none⟩) 4 4) := by rw [← hX]; simp [go_sem]
 have x0_6 : X.cell? ⟨w.heap.size, 6, none⟩ = some (.slice (some ⟨w.heap.size + 3, 0, none⟩) 4 4) := by rw [← hX]; simp [go_sem]
 have x0_7 : X.cell? ⟨w.heap.size, 7, none⟩ = some (.slice (some ⟨w.heap.size + 5, 0, none⟩) 1 1) := by rw [← hX]; simp [go_sem]
 have x0_8 : X.cell? ⟨w.heap.size, 8, none⟩ = some (.slice none 0 0) := by rw [← hX]; simp [go_sem]
 have x1_0 : X.cell? ⟨w.heap.size + 1, 0, none⟩ = some (.string ⟨#[119]⟩) := by rw [← hX]; simp [go_sem]
 have x1_1 : X.cell? ⟨w.heap.size + 1, 1, none⟩ = some (.int .i64 100) := by rw [← hX]; simp [go_sem]
 have x1_2 : X.cell? ⟨w.heap.size + 1, 2, none⟩ = some (.int .i64 100) := by rw [← hX]; simp [go_sem]
 have x1_3 : X.cell? ⟨w.heap.size + 1, 3, none⟩ = some (.int .i64 100) := by rw [← hX]; simp [go_sem]
 have x1_4 : X.cell? ⟨w.heap.size + 1, 4, none⟩ = some (.int .i64 100) := by rw [← hX]; simp [go_sem]
 have x1_5 : X.cell? ⟨w.heap.size + 1, 5, none⟩ = some (.int .i64 0) := by rw [← hX]; simp [go_sem]
 have x1_6 : X.cell? ⟨w.heap.size + 1, 6, none⟩ = some (.string ⟨#[118]⟩) := by rw [← hX]; simp [go_sem]
 have x1_7 : X.cell? ⟨w.heap.size + 1, 7, none⟩ = some (.int .i64 500) := by rw [← hX]; simp [go_sem]
 have x1_8 : X.cell? ⟨w.heap.size + 1, 8, none⟩ = some (.int .i64 500) := by rw [← hX]; simp [go_sem]
 have x1_9 : X.cell? ⟨w.heap.size + 1, 9, none⟩ = some (.int .i64 500) := by rw [← hX]; simp [go_sem]
 have x1_10 : X.cell? ⟨w.heap.size + 1, 10, none⟩ = some (.int .i64 500) := by rw [← hX]; simp [go_sem]
 have x1_11 : X.cell? ⟨w.heap.size + 1, 11, none⟩ = some (.int .i64 0) := by rw [← hX]; simp [go_sem]
 have x2_0 : X.cell? ⟨w.heap.size + 2, 0, none⟩ = some (.int .i64 0) := by rw [← hX]; simp [go_sem]
 have x2_1 : X.cell? ⟨w.heap.size + 2, 1, none⟩ = some (.int .i64 0) := by rw [← hX]; simp [go_sem]
 have x2_2 : X.cell? ⟨w.heap.size + 2, 2, none⟩ = some (.int .i64 1000) := by rw [← hX]; simp [go_sem]
 have x2_3 : X.cell? ⟨w.heap.size + 2, 3, none⟩ = some (.int .i64 0) := by rw [← hX]; simp [go_sem]
 have x2_4 : X.cell? ⟨w.heap.size + 2, 4, none⟩ = some (.int .i64 1000) := by rw [← hX]; simp [go_sem]
 have x2_5 : X.cell? ⟨w.heap.size + 2, 5, none⟩ = some (.int .i64 2000) := by rw [← hX]; simp [go_sem]
 have x2_6 : X.cell? ⟨w.heap.size + 2, 6, none⟩ = some (.int .i64 0) := by rw [← hX]; simp [go_sem]
 have x2_7 : X.cell? ⟨w.heap.size + 2, 7, none⟩ = some (.int .i64 2000) := by rw [← hX]; simp [go_sem]
 have x3_0 : X.cell? ⟨w.heap.size + 3, 0, none⟩ = some (.string ⟨#[97]⟩) := by rw [← hX]; simp [go_sem]
 have x3_1 : X.cell? ⟨w.heap.size + 3, 1, none⟩ = some (.string ⟨#[119]⟩) := by rw [← hX]; simp [go_sem]
 have x3_2 : X.cell? ⟨w.heap.size + 3, 2, none⟩ = some (.string ⟨#[]⟩) := by rw [← hX]; simp [go_sem]
 have x3_3 : X.cell? ⟨w.heap.size + 3, 3, none⟩ = some (.string ⟨#[98]⟩) := by rw [← hX]; simp [go_sem]
 have x3_4 : X.cell? ⟨w.heap.size + 3, 4, none⟩ = some (.string ⟨#[119]⟩) := by rw [← hX]; simp [go_sem]
 have x3_5 : X.cell? ⟨w.heap.size + 3, 5, none⟩ = some (.string ⟨#[118]⟩) := by rw [← hX]; simp [go_sem]
 have x3_6 : X.cell? ⟨w.heap.size + 3, 6, none⟩ = some (.string ⟨#[99]⟩) := by rw [← hX]; simp [go_sem]
 have x3_7 : X.cell? ⟨w.heap.size + 3, 7, none⟩ = some (.string ⟨#[119]⟩) := by rw [← hX]; simp [go_sem]
 have x3_8 : X.cell? ⟨w.heap.size + 3, 8, none⟩ = some (.string ⟨#[]⟩) := by rw [← hX]; simp [go_sem]
 have x3_9 : X.cell? ⟨w.heap.size + 3, 9, none⟩ = some (.string ⟨#[100]⟩) := by rw [← hX]; simp [go_sem]
 have x3_10 : X.cell? ⟨w.heap.size + 3, 10, none⟩ = some (.string ⟨#[119]⟩) := by rw [← hX]; simp [go_sem]
 have x3_11 : X.cell? ⟨w.heap.size + 3, 11, none⟩ = some (.string ⟨#[]⟩) := by rw [← hX]; simp [go_sem]
 have x4_0 : X.cell? ⟨w.heap.size + 4, 0, none⟩ = some (.int .i64 400) := by rw [← hX]; simp [go_sem]
 have x4_1 : X.cell? ⟨w.heap.size + 4, 1, none⟩ = some (.int .i64 500) := by rw [← hX]; simp [go_sem]
 have x5_0 : X.cell? ⟨w.heap.size + 5, 0, none⟩ = some (.string ⟨#[107]⟩) := by rw [← hX]; simp [go_sem]
 have x5_1 : X.cell? ⟨w.heap.size + 5, 1, none⟩ = some (.string ⟨#[119]⟩) := by rw [← hX]; simp [go_sem]
 have x5_2 : X.cell? ⟨w.heap.size + 5, 2, none⟩ = some (.int .i64 200) := by rw [← hX]; simp [go_sem]
 have x5_3 : X.cell? ⟨w.heap.size + 5, 3, none⟩ = some (.int .i64 500) := by rw [← hX]; simp [go_sem]
 have x5_4 : X.cell? ⟨w.heap.size + 5, 4, none⟩ = some (.int .i64 800) := by rw [← hX]; simp [go_sem]
 have x5_5 : X.cell? ⟨w.heap.size + 5, 5, none⟩ = some (.int .i64 900) := by rw [← hX]; simp [go_sem]
 have x5_6 : X.cell? ⟨w.heap.size + 5, 6, none⟩ = some (.slice (some ⟨w.heap.size + 4, 0, none⟩) 2 2) := by rw [← hX]; simp [go_sem]
 clear hX
 refine bodyPost_ret (v := halV boxH (.slice (some ⟨w.heap.size + 1, 0, none⟩) 2 2) (.slice (some ⟨w.heap.size + 2, 0, none⟩) 4 4) (.slice (some ⟨w.heap.size + 3, 0, none⟩) 4 4) (.slice (some ⟨w.heap.size + 5, 0, none⟩) 1 1) (.slice none 0 0)) (by simp [results, Tryz.results63, halV, boxH, go_sem, x0_0, x0_1, x0_2, x0_3, x0_4, x0_5, x0_6, x0_7, x0_8]) rfl ⟨BX, _, _, _, _, _, rfl, boxH_sized, ?_, ?_, ?_, ?_, ?_⟩
 · refine slc_mk (xs := boxH.mats) (by decide) (has_of_cell x1_0) ?_
   intro i hi j hj
   have hi : i < 2 := hi
   have hj : j < 6 := hj
   obtain rfl | rfl : i = 0 ∨ i = 1 := by omega
   all_goals (obtain rfl | rfl | rfl | rfl | rfl | rfl : j = 0 ∨ j = 1 ∨ j = 2 ∨ j = 3 ∨ j = 4 ∨ j = 5 := by omega)
   · exact ⟨_, x1_0, rfl⟩
   · exact ⟨_, x1_1, rfl⟩
   · exact ⟨_, x1_2, rfl⟩
   · exact ⟨_, x1_3, rfl⟩
   · exact ⟨_, x1_4, rfl⟩
   · exact ⟨_, x1_5, rfl⟩
   · exact ⟨_, x1_6, rfl⟩
   · exact ⟨_, x1_7, rfl⟩
   · exact ⟨_, x1_8, rfl⟩
   · exact ⟨_, x1_9, rfl⟩
   · exact ⟨_, x1_10, rfl⟩
   · exact ⟨_, x1_11, rfl⟩
 · refine slc_mk (xs := boxH.cors) (by decide) (has_of_cell x2_0) ?_
   intro i hi j hj
   have hi : i < 4 := hi
   have hj : j < 2 := hj
   obtain rfl | rfl | rfl | rfl : i = 0 ∨ i = 1 ∨ i = 2 ∨ i = 3 := by omega
   all_goals (obtain rfl | rfl : j = 0 ∨ j = 1 := by omega)
   · exact ⟨_, x2_0, rfl⟩
   · exact ⟨_, x2_1, rfl⟩
   · exact ⟨_, x2_2, rfl⟩
   · exact ⟨_, x2_3, rfl⟩
   · exact ⟨_, x2_4, rfl⟩
   · exact ⟨_, x2_5, rfl⟩
   · exact ⟨_, x2_6, rfl⟩
   · exact ⟨_, x2_7, rfl⟩
 · refine slc_mk (xs := boxH.wals) (by decide) (has_of_cell x3_0) ?_
   intro i hi j hj
   have hi : i < 4 := hi
   have hj : j < 3 := hj
   obtain rfl | rfl | rfl | rfl : i = 0 ∨ i = 1 ∨ i = 2 ∨ i = 3 := by omega
   all_goals (obtain rfl | rfl | rfl : j = 0 ∨ j = 1 ∨ j = 2 := by omega)
   · exact ⟨_, x3_0, rfl⟩
   · exact ⟨_, x3_1, rfl⟩
   · exact ⟨_, x3_2, rfl⟩
   · exact ⟨_, x3_3, rfl⟩
   · exact ⟨_, x3_4, rfl⟩
   · exact ⟨_, x3_5, rfl⟩
   · exact ⟨_, x3_6, rfl⟩
   · exact ⟨_, x3_7, rfl⟩
   · exact ⟨_, x3_8, rfl⟩
   · exact ⟨_, x3_9, rfl⟩
   · exact ⟨_, x3_10, rfl⟩
   · exact ⟨_, x3_11, rfl⟩
 · have h4 : SlcAt encInt X (.slice (some ⟨w.heap.size + 4, 0, none⟩) 2 2) [400, 500] := by
    refine slc_mk (xs := [400, 500]) (by decide) (has_of_cell x4_0) ?_
    intro i hi j hj
    have hi : i < 2 := hi
    obtain rfl : j = 0 := by have : j < 1 := hj; omega
    obtain rfl | rfl : i = 0 ∨ i = 1 := by omega
    · exact ⟨_, x4_0, rfl⟩
    · exact ⟨_, x4_1, rfl⟩
   refine slc_mk (xs := boxH.cans) (by decide) (has_of_cell x5_0) ?_
   intro i hi j hj
   obtain rfl : i = 0 := by have : i < 1 := hi; omega
   have hj : j < 7 := hj
   obtain rfl | rfl | rfl | rfl | rfl | rfl | rfl : j = 0 ∨ j = 1 ∨ j = 2 ∨ j = 3 ∨ j = 4 ∨ j = 5 ∨ j = 6 := by omega
   · exact ⟨_, x5_0, rfl⟩
   · exact ⟨_, x5_1, rfl⟩
   · exact ⟨_, x5_2, rfl⟩
   · exact ⟨_, x5_3, rfl⟩
   · exact ⟨_, x5_4, rfl⟩
   · exact ⟨_, x5_5, rfl⟩
   · exact ⟨_, x5_6, h4⟩
 · exact ⟨by decide, _, 0, rfl, fun h => absurd h (by decide)⟩
end Go.Proofs.YtekieoamelahkaaGreat

/- A store of a surface (seven cells, one of them a function). -/
namespace Go.Proofs.YtekieoamelahkaaGreat
open Go.RowKit Go.Shelf
@[reducible] def set7 (W : World) (B : Nat) (k a : Int) (m : ByteArray) (lo hi sd : Int) (f : Value) : World :=
 ((((((W.setCell ⟨B, 0, none⟩ (.int .i64 k)).setCell ⟨B, 1, none⟩ (.int .i64 a)).setCell ⟨B, 2, none⟩ (.string m)).setCell ⟨B, 3, none⟩ (.int .i64 lo)).setCell ⟨B, 4, none⟩ (.int .i64 hi)).setCell ⟨B, 5, none⟩ (.int .i64 sd)).setCell ⟨B, 6, none⟩ f
structure Seven (W : World) (B : Nat) : Prop where
 c0 : W.cell? ⟨B, 0, none⟩ = some (.int .i64 0)
 c1 : W.cell? ⟨B, 1, none⟩ = some (.int .i64 0)
 c2 : W.cell? ⟨B, 2, none⟩ = some (.string ⟨#[]⟩)
 c3 : W.cell? ⟨B, 3, none⟩ = some (.int .i64 0)
 c4 : W.cell? ⟨B, 4, none⟩ = some (.int .i64 0)
 c5 : W.cell? ⟨B, 5, none⟩ = some (.int .i64 0)
 c6 : W.cell? ⟨B, 6, none⟩ = some .nilFunc
 fr : ∀ i, W.frozen? ⟨B, i, none⟩ = false
theorem run_store_func {P : Program} {W : World} {a : Addr} {u : Value} {f : Fn} {p c : Array Value} (h : W.cell? a = some u) (hf : W.frozen? a = false) : (store a (.func f p c)).run P W = .ok () (W.setCell a (.func f p c)) := by
 simp [store, Sem.run, h, hf]
set_option maxRecDepth 100000 in set_option maxHeartbeats 400000 in
theorem store_surf (W : World) (B : Nat) (k a : Int) (m : ByteArray) (lo hi sd : Int) (fn : Nat) (pre cap : Array Value) (h : Seven W B) : (Instr.storeAt 151 (.pointer (some ⟨B, 0, none⟩)) (.agg #[.int .i64 k, .int .i64 a, .string m, .int .i64 lo, .int .i64 hi, .int .i64 sd, .func (.func fn) pre cap])).run Tryz.prog W = .ok () (set7 W B k a m lo hi sd (.func (.func fn) pre cap)) := by
 obtain ⟨h0, h1, h2, h3, h4, h5, h6, hf⟩ := h
 have hB := has_of_cell h0
 unfold set7
 simp [go_sem, h0, h1, h2, h3, h4, h5, h6, hf, hB]
 refine run_store_func (u := .nilFunc) ?_ ?_ <;> simp [go_sem, h0, h1, h2, h3, h4, h5, h6, hf, hB]
theorem Oper.wp_store {P : Program} {o : Oper} {T : TypeId} {x v : Operand} {a : Act} {w W' : World} {K : Act → World → Prop} {Q : Exit → Act → World → Prop} (hop : o.op = .store T x v) (h : (Instr.storeAt T (a.eval x) (a.eval v)).run P w = .ok () W') (hk : K (a.put o.dst undef) W') : o.wp P a w K Q := by
 have : (execOp a.eval o).run P w = .ok .skip W' := by
  unfold execOp
  rw [hop]
  simp only [Sem.run_bind, h]
  rfl
 unfold Oper.wp
 rw [this]
 exact hk
theorem Oper.wpIn_store {n : Nat} {P : Program} {o : Oper} {T : TypeId} {x v : Operand} {a : Act} {w W' : World} {K : Act → World → Prop} {Q : Exit → Act → World → Prop} (hop : o.op = .store T x v) (h : (Instr.storeAt T (a.eval x) (a.eval v)).run P w = .ok () W') (hk : K (a.put o.dst undef) W') : o.wpIn Fence.wide n P a w K Q := by
 have : (execOp a.eval o).run P w = .ok .skip W' := by
  unfold execOp
  rw [hop]
  simp only [Sem.run_bind, h]
  rfl
 refine ⟨fun _ _ => trivial, ?_⟩
 rw [Oper.semAt_eq _ _ _ (fun c hc => by rw [hop] at hc; cases hc), this]
 exact hk
theorem Oper.effs_store {P : Program} {o : Oper} {T : TypeId} {x v : Operand} {a : Act} {w W' : World} {K : Act → World → Prop} (hop : o.op = .store T x v) (h : (Instr.storeAt T (a.eval x) (a.eval v)).run P w = .ok () W') (hk : K (a.put o.dst undef) W') : o.effs P a w K :=
 Oper.wp_store hop h ⟨Act.defers_put _ _ _, hk⟩
end Go.Proofs.YtekieoamelahkaaGreat

/- level. -/
namespace Go.Proofs.YtekieoamelahkaaGreat
open Go.RowKit Go.Shelf
attribute [local go_sem] Oper.semAt_some

def surfV (k a : Int) (m : ByteArray) (lo hi sides : Int) (f : Value) : Value := .agg #[.int .i64 k, .int .i64 a, .string m, .int .i64 lo, .int .i64 hi, .int .i64 sides, f]
theorem set7_below {W : World} {B n : Nat} {k a : Int} {m : ByteArray} {lo hi sd : Int} {f : Value} {w : World} (h : Below n w W) (hB : n ≤ B) : Below n w (set7 W B k a m lo hi sd f) := by
 unfold set7
 repeat' (refine Below.setCell ?_ (by first | exact hB | omega) _)
 exact h
theorem set7_cells {W : World} {B : Nat} (k a : Int) (m : ByteArray) (lo hi sd : Int) (fn : Nat) (pre cap : Array Value) (h : Seven W B) :
 (set7 W B k a m lo hi sd (.func (.func fn) pre cap)).cell? ⟨B, 0, none⟩ = some (.int .i64 k) ∧ (set7 W B k a m lo hi sd (.func (.func fn) pre cap)).cell? ⟨B, 1, none⟩ = some (.int .i64 a) ∧ (set7 W B k a m lo hi sd (.func (.func fn) pre cap)).cell? ⟨B, 2, none⟩ = some (.string m) ∧
 (set7 W B k a m lo hi sd (.func (.func fn) pre cap)).cell? ⟨B, 3, none⟩ = some (.int .i64 lo) ∧ (set7 W B k a m lo hi sd (.func (.func fn) pre cap)).cell? ⟨B, 4, none⟩ = some (.int .i64 hi) ∧ (set7 W B k a m lo hi sd (.func (.func fn) pre cap)).cell? ⟨B, 5, none⟩ = some (.int .i64 sd) ∧
 (set7 W B k a m lo hi sd (.func (.func fn) pre cap)).cell? ⟨B, 6, none⟩ = some (.func (.func fn) pre cap) := by
 obtain ⟨h0, h1, h2, h3, h4, h5, h6, hf⟩ := h
 have hB := has_of_cell h0
 unfold set7
 refine ⟨?_, ?_, ?_, ?_, ?_, ?_, ?_⟩ <;> simp [go_sem, h0, h1, h2, h3, h4, h5, h6, hB]

theorem level_room {w : World} {b : Nat} {H : Hal} {S : Stg} (hR : Room w b H S) (hC : CorsIn H) (hN : H.cors.length ≤ 20) (hA : 0 < areaTo H H.cors.length) (z : Int) (m : ByteArray) :
 Calls Tryz.prog 145 #[.pointer (some ⟨b, 0, none⟩), .int .i64 z, .string m] w (RetX w (surfV 2 z m (areaTo H H.cors.length / 2) ((areaTo H H.cors.length + 1) / 2) 1 (.func (.func 151) #[.pointer (some ⟨b, 0, none⟩)] #[]))) := by
 have HA := hidden (fun (W : World) (hW : Below w.heap.size w W) => twiceArea_room (hR.below hW) hC hN)
 have hbd := areaTo_bd hC H.cors.length (Nat.le_refl _)
 have hbb : w.Has b := by obtain ⟨_, _, _, _, _, _, _, h⟩ := hR; exact h.has
 generalize areaTo H H.cors.length = a at *
 have ha : a ≤ 1000000000 := by omega
 have e1 : IntKind.i64.wrap (a + 1) = a + 1 := IntWalk.i64_in _ (by omega)
 have e2 : IntKind.i64.wrap (a / 2) = a / 2 := IntWalk.i64_in _ (by omega)
 have e3 : IntKind.i64.wrap ((a + 1) / 2) = (a + 1) / 2 := IntWalk.i64_in _ (by omega)
 have a0 : 0 ≤ a := by omega
 have a1 : 0 ≤ a + 1 := by omega
 clear hbd hR
 unfold surfV
 have HSt : ∀ x : Ext, ∀ f1 f2 : Int, (Instr.storeAt 151 (.pointer (some ⟨w.heap.size, 0, none⟩)) (.agg #[.int .i64 2, .int .i64 z, .string m, .int .i64 f1, .int .i64 f2, .int .i64 1, .func (.func 151) #[.pointer (some ⟨b, 0, none⟩)] #[]])).run Tryz.prog ((w.alloc (.cells #[.int .i64 0, .int .i64 0, .string ⟨#[]⟩, .int .i64 0, .int .i64 0, .int .i64 0, .nilFunc] 151)).ext x) = .ok () (set7 ((w.alloc (.cells #[.int .i64 0, .int .i64 0, .string ⟨#[]⟩, .int .i64 0, .int .i64 0, .int .i64 0, .nilFunc] 151)).ext x) w.heap.size 2 z m f1 f2 1 (.func (.func 151) #[.pointer (some ⟨b, 0, none⟩)] #[])) := fun x f1 f2 => store_surf _ _ _ _ _ _ _ _ _ _ _ (by constructor <;> simp [go_sem])
 refine (callsIn_wide (n := 10)).1 ?_
 refine callsIn_of_wp Tryz.func145 rfl trivial ?_ rfl
 simp only [Tryz.ntmps145, nt, Nat.reduceAdd, Nat.reduceSub]
 gi_wp2
 (refine ⟨trivial, ?_⟩; ((with_reducible refine (callsIn_wide.2 (HA.out _ ?hk)).mono ?_); (case hk => (repeat' first | with_reducible (first | apply bz0 | assumption | apply bz1 | apply bz2 | apply bz3 | apply bz4 | apply bz5) | (simp <;> omega))); rintro e w' ⟨rfl, x1, rfl⟩))
 gi_wp2_with (refine Oper.wpIn_store rfl (HSt _ _ _) ?_)
 obtain ⟨z0, z1, z2, z3, z4, z5, z6⟩ := set7_cells 2 z m (a / 2) ((a + 1) / 2) 1 151 #[.pointer (some ⟨b, 0, none⟩)] #[] (show Seven ((w.alloc (.cells #[.int .i64 0, .int .i64 0, .string ⟨#[]⟩, .int .i64 0, .int .i64 0, .int .i64 0, .nilFunc] 151)).ext x1) w.heap.size by constructor <;> simp [go_sem])
 refine bodyPost_ret (v := .agg #[.int .i64 2, .int .i64 z, .string m, .int .i64 (a / 2), .int .i64 ((a + 1) / 2), .int .i64 1, .func (.func 151) #[.pointer (some ⟨b, 0, none⟩)] #[]]) ?_ rfl (retX rfl (set7_below (by (repeat' first | with_reducible (first | apply bz0 | assumption | apply bz1 | apply bz2 | apply bz3 | apply bz4 | apply bz5) | (simp <;> omega))) (Nat.le_refl _)))
 simp [results, Tryz.results145, go_sem, z0, z1, z2, z3, z4, z5, z6]
end Go.Proofs.YtekieoamelahkaaGreat

/- The surfaces of a room: canopy. -/
namespace Go.Proofs.YtekieoamelahkaaGreat
open Go.RowKit Go.Shelf
attribute [local go_sem] Oper.semAt_some

theorem canopy_room {w : World} {b : Nat} {H : Hal} {S : Stg} (hR : Room w b H S) (i : Nat) (hi : i < H.cans.length) (t1 : i < S.hs.length) (t2 : 0 ≤ intAt S.hs i) (t3 : intAt S.hs i < (canAt H.cans i).hs.length) (hc : CanOk H (canAt H.cans i)) :
 Calls Tryz.prog 147 #[.pointer (some ⟨b, 0, none⟩), .int .i64 i] w (RetX w (surfV 2 (canZ H S i) (canAt H.cans i).mat
  ((max (canAt H.cans i).f.x (canAt H.cans i).t.x - min (canAt H.cans i).f.x (canAt H.cans i).t.x) * (max (canAt H.cans i).f.y (canAt H.cans i).t.y - min (canAt H.cans i).f.y (canAt H.cans i).t.y))
  ((max (canAt H.cans i).f.x (canAt H.cans i).t.x - min (canAt H.cans i).f.x (canAt H.cans i).t.x) * (max (canAt H.cans i).f.y (canAt H.cans i).t.y - min (canAt H.cans i).f.y (canAt H.cans i).t.y)) 2
  (.func (.func 180) #[.agg #[.int .i64 (min (canAt H.cans i).f.x (canAt H.cans i).t.x), .int .i64 (min (canAt H.cans i).f.y (canAt H.cans i).t.y), .int .i64 (max (canAt H.cans i).f.x (canAt H.cans i).t.x), .int .i64 (max (canAt H.cans i).f.y (canAt H.cans i).t.y)]] #[]))) := by
 have HP := hidden (fun (W : World) (hW : Below w.heap.size w W) => canopyPlane_any (hR.below hW) i hi t1 t2 t3)
 obtain ⟨v4, v5, v6, v7, v8, u9, u10, hR⟩ := hR
 obtain ⟨A7, c7, rfl, hS7⟩ := slc_form hR.hal.cans
 obtain ⟨g, o, rfl, hg, hcs⟩ := can_at hS7 hi
 obtain ⟨k0, k1, k2, k3, k4, k5, A', c', k6, _⟩ := hcs i hi
 have l7 := hS7.1
 have h7 := hR.c7
 have hb := hR.has
 have HT := hidden (fun W => sheetOf_any (canAt H.cans i).name (canAt H.cans i).mat (canAt H.cans i).f.x (canAt H.cans i).f.y (canAt H.cans i).t.x (canAt H.cans i).t.y (.slice A' (canAt H.cans i).hs.length c') ⟨_, _, _, rfl⟩ W)
 obtain ⟨b1, b2, b3, b4, _, _, _⟩ := hc
 clear hR hS7 hcs t1 t2 t3
 unfold canV at HT
 unfold surfV
 generalize canZ H S i = z at *
 generalize (canAt H.cans i).name = na at *
 generalize (canAt H.cans i).mat = ma at *
 generalize (canAt H.cans i).hs.length = hl at *
 have m1 : -5000 ≤ min (canAt H.cans i).f.x (canAt H.cans i).t.x ∧ min (canAt H.cans i).f.x (canAt H.cans i).t.x ≤ 5000 := by omega
 have m2 : -5000 ≤ min (canAt H.cans i).f.y (canAt H.cans i).t.y ∧ min (canAt H.cans i).f.y (canAt H.cans i).t.y ≤ 5000 := by omega
 have m3 : -5000 ≤ max (canAt H.cans i).f.x (canAt H.cans i).t.x ∧ max (canAt H.cans i).f.x (canAt H.cans i).t.x ≤ 5000 := by omega
 have m4 : -5000 ≤ max (canAt H.cans i).f.y (canAt H.cans i).t.y ∧ max (canAt H.cans i).f.y (canAt H.cans i).t.y ≤ 5000 := by omega
 generalize min (canAt H.cans i).f.x (canAt H.cans i).t.x = p1 at *
 generalize min (canAt H.cans i).f.y (canAt H.cans i).t.y = p2 at *
 generalize max (canAt H.cans i).f.x (canAt H.cans i).t.x = p3 at *
 generalize max (canAt H.cans i).f.y (canAt H.cans i).t.y = p4 at *
 generalize (canAt H.cans i).f.x = q1 at *
 generalize (canAt H.cans i).f.y = q2 at *
 generalize (canAt H.cans i).t.x = q3 at *
 generalize (canAt H.cans i).t.y = q4 at *
 generalize H.cans.length = n at *
 have nne : ∀ x : Ext, w.heap.size + 1 + 1 + x.heap.size ≠ w.heap.size := fun x => by omega
 have HAr := hidden (fun W => area_any p1 p2 p3 p4 m1 m2 m3 m4 W)
 refine (callsIn_wide (n := 10)).1 ?_
 refine callsIn_of_wp Tryz.func147 rfl trivial ?_ rfl
 simp only [Tryz.ntmps147, nt, Nat.reduceAdd, Nat.reduceSub]
 gi_wp2
 (refine ⟨trivial, ?_⟩; ((with_reducible refine (callsIn_wide.2 (HT.out _)).mono ?_); rintro e w' ⟨rfl, x1, rfl⟩))
 gi_wp2
 refine wpIn_wide.2 ?_
 (refine wp_region_tameH (w.heap.size) (by kernel_rfl) (by kernel_rfl) ?_); (repeat (first | (refine tmE rfl rfl (fun K hK => ?_); refine Oper.wp_store (W' := ?Wn) rfl ?st ?_; (case st => (refine store_surf _ _ _ _ _ _ _ _ _ _ _ ?_; (constructor <;> simp [go_sem]))); (refine hK _ _ rfl (hole_of (by (repeat' (first | (with_reducible exact HoleRel.refl _ _ _) | (with_reducible assumption) | (with_reducible refine HoleRel.swap ?_ _ _) | (with_reducible refine HoleRel.drew ?_) | (with_reducible refine HoleRel.drewN ?_ _) | (with_reducible refine HoleRel.setCell ?_ ?_ _) | (with_reducible refine HoleRel.putObj ?_ ?_ _) | (with_reducible refine HoleRel.alloc ?_ ?_ _) | (with_reducible refine HoleRel.ext ?_ ?_ _) | (exact Or.inl rfl) | (simp; done) | (simp; omega))))) ?_; clear hK K)) | (refine tmS rfl ?_; simp only [Act.put, List.setIfInBounds_toArray, List.set_cons_succ, List.set_cons_zero]) | (refine tmP rfl rfl rfl (fun K hK => ?_); go_big_quiet_op; refine hK _ ?_; clear hK K) | (refine tmE rfl rfl (fun K hK => ?_); go_big_op; (first | (go_at_call 158; refine (HP.out _ (by (repeat' first | with_reducible (first | apply bz0 | assumption | apply bz1 | apply bz2 | apply bz3 | apply bz4 | apply bz5) | (simp <;> omega)))).mono ?_; rintro e w' ⟨rfl, x2, rfl⟩) | (go_at_call 179; refine (HAr.out _).mono ?_; rintro e w' ⟨rfl, x3, rfl⟩) | skip); (refine hK _ _ rfl (hole_of (by (repeat' (first | (with_reducible exact HoleRel.refl _ _ _) | (with_reducible assumption) | (with_reducible refine HoleRel.swap ?_ _ _) | (with_reducible refine HoleRel.drew ?_) | (with_reducible refine HoleRel.drewN ?_ _) | (with_reducible refine HoleRel.setCell ?_ ?_ _) | (with_reducible refine HoleRel.putObj ?_ ?_ _) | (with_reducible refine HoleRel.alloc ?_ ?_ _) | (with_reducible refine HoleRel.ext ?_ ?_ _) | (exact Or.inl rfl) | (simp; done) | (simp; omega))))) ?_; clear hK K)))); (refine tmN ?_)
 generalize hX : set7 _ _ _ _ _ _ _ _ _ = X
 have BX : Below w.heap.size w X := by rw [← hX]; exact set7_below (by (repeat' first | with_reducible (first | apply bz0 | assumption | apply bz1 | apply bz2 | apply bz3 | apply bz4 | apply bz5) | (simp <;> omega))) (Nat.le_refl _)
 have zz : X.cell? ⟨w.heap.size, 0, none⟩ = some (.int .i64 2) ∧ X.cell? ⟨w.heap.size, 1, none⟩ = some (.int .i64 z) ∧ X.cell? ⟨w.heap.size, 2, none⟩ = some (.string ma) ∧ X.cell? ⟨w.heap.size, 3, none⟩ = some (.int .i64 ((p3 - p1) * (p4 - p2))) ∧ X.cell? ⟨w.heap.size, 4, none⟩ = some (.int .i64 ((p3 - p1) * (p4 - p2))) ∧ X.cell? ⟨w.heap.size, 5, none⟩ = some (.int .i64 2) ∧ X.cell? ⟨w.heap.size, 6, none⟩ = some (.func (.func 180) #[.agg #[.int .i64 p1, .int .i64 p2, .int .i64 p3, .int .i64 p4]] #[]) := by
  rw [← hX]
  exact set7_cells _ _ _ _ _ _ _ _ _ (by constructor <;> simp [go_sem])
 obtain ⟨z0, z1, z2, z3, z4, z5, z6⟩ := zz
 clear hX
 gi_wp2
 refine bodyPost_ret (v := .agg #[.int .i64 2, .int .i64 z, .string ma, .int .i64 ((p3 - p1) * (p4 - p2)), .int .i64 ((p3 - p1) * (p4 - p2)), .int .i64 2, .func (.func 180) #[.agg #[.int .i64 p1, .int .i64 p2, .int .i64 p3, .int .i64 p4]] #[]]) ?_ rfl (retX rfl BX)
 simp [results, Tryz.results147, go_sem, z0, z1, z2, z3, z4, z5, z6]
end Go.Proofs.YtekieoamelahkaaGreat
