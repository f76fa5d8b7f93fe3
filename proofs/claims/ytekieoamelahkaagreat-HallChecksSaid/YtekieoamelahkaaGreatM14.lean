/- The iterator over the walls; twice the area. -/
import Derived.Test.YtekieoamelahkaaGreatM13
import Derived.Test.YtekieoamelahkaaGreatM04
import Derived.Shelf.Abstract
import Derived.Shelf.RegionOpen
import Derived.OwnWalkIn
import Derived.TacticsInMore
import Derived.LoopNIn
import Derived.LoopIn
set_option maxRecDepth 100000
set_option maxHeartbeats 1000000
set_option linter.unusedVariables false
set_option linter.unusedSimpArgs false
namespace Go.Proofs.YtekieoamelahkaaGreat
open Go.RowKit Go.Shelf
attribute [local go_sem] Oper.semAt_some

def lineV (H : Hal) (k : Nat) : Value := .agg #[.int .i64 (corAt H.cors k).x, .int .i64 (corAt H.cors k).y, .int .i64 (corAt H.cors (nxt H.cors.length k)).x, .int .i64 (corAt H.cors (nxt H.cors.length k)).y]
def wallEnc (H : Hal) (k : Nat) : Array Value := #[.int .i64 k, lineV H k]

theorem walls_iter {w w' : World} {b : Nat} {H : Hal} {S : Stg} (hR : Room w b H S) (hw : Below w.heap.size w w') (n : Nat) (hn : 1 ≤ n) :
 IterP Fence.wide n Tryz.prog 129 #[.pointer (some ⟨b, 0, none⟩)] (wallEnc H) H.cors.length w.heap.size w' := by
 intro l J Jx W hJ hJx hb hY h0
 have hRW : Room W b H S := hR.below (hw.trans hb)
 obtain ⟨v4, v5, v6, v7, v8, v9, v10, hRW⟩ := hRW
 obtain ⟨A, c, rfl, hS⟩ := slc_form hRW.hal.cors
 have h5 := hRW.c5
 have hB := hRW.has
 have hl := hS.1
 clear hS hRW
 refine callsIn_of_wp Tryz.func129 rfl trivial ?_ rfl
 simp only [Tryz.ntmps129, nt, Nat.reduceAdd, Nat.reduceSub]
 gi_wp2
 gi_loopw [11] (fun i wr => ∃ k : Nat, i = .int .i64 k ∧ k ≤ H.cors.length ∧ J k wr ∧ Below w.heap.size w' wr) (fun i _ => H.cors.length - (intOf i).toNat)
 case atStart => exact ⟨0, rfl, Nat.zero_le _, h0, hb⟩
 case round =>
  obtain ⟨k, rfl, hk, hj, hbr⟩ := hrel
  rcases Nat.lt_or_ge k H.cors.length with hlt | hge
  · gi_wp2_with fail
    refine ⟨trivial, ?_⟩
    refine (callsIn_wide.2 (line_any (hR.below (hw.trans hbr)) k hlt)).mono ?_
    rintro e w1 ⟨rfl, x, rfl⟩
    obtain ⟨fn, tmps, assign, body, hy, hRd⟩ := hY k (wr.ext x) hlt (hJ _ _ _ hj) (hbr.extStep (Nat.le_trans hw.size hbr.size) x)
    simp only [wallEnc, lineV] at hy
    gi_wp2
    refine hRd.mono ?_
    rintro e W3 ⟨⟨hb3, hk3⟩, (⟨rfl, hJ'⟩ | ⟨rfl, hJx'⟩)⟩
    · gi_wp2
      go_roundw
      case rel => exact ⟨k + 1, by go_num, by omega, hJ', hb3⟩
      case measure => simp [intOf]; omega
    · gi_wp2
      refine bodyPost_ret (results_none rfl _ _ _) rfl ?_
      exact ⟨⟨_, rfl⟩, hb3, .inr hJx'⟩
  · obtain rfl : k = H.cors.length := by omega
    gi_wp2
    go_end0
    exact ⟨⟨_, rfl⟩, hbr, .inl hj⟩

def areaTo (H : Hal) : Nat → Int
 | 0 => 0
 | k + 1 => areaTo H k + ((corAt H.cors k).x * (corAt H.cors (nxt H.cors.length k)).y - (corAt H.cors (nxt H.cors.length k)).x * (corAt H.cors k).y)

def CorsIn (H : Hal) : Prop := ∀ k, k < H.cors.length → (-5000 ≤ (corAt H.cors k).x ∧ (corAt H.cors k).x ≤ 5000) ∧ (-5000 ≤ (corAt H.cors k).y ∧ (corAt H.cors k).y ≤ 5000)

theorem areaTo_bd {H : Hal} (hC : CorsIn H) : ∀ k, k ≤ H.cors.length → -(50000000 * (k : Int)) ≤ areaTo H k ∧ areaTo H k ≤ 50000000 * (k : Int)
 | 0, _ => by simp [areaTo]
 | k + 1, hk => by
  have ih := areaTo_bd hC k (by omega)
  obtain ⟨a1, a2⟩ := hC k (by omega)
  obtain ⟨b1, b2⟩ := hC _ (nxt_lt (n := H.cors.length) (i := k) (by omega))
  have m1 := mul_sz a1 b2 (by omega) (by omega)
  have m2 := mul_sz b1 a2 (by omega) (by omega)
  unfold areaTo
  generalize (corAt H.cors k).x * _ = p at *
  generalize _ * (corAt H.cors k).y = q at *
  push_cast
  omega

end Go.Proofs.YtekieoamelahkaaGreat

/- Twice the area of a plan. -/
namespace Go.Proofs.YtekieoamelahkaaGreat
open Go.RowKit Go.Shelf
attribute [local go_sem] Oper.semAt_some

structure EdgeIn (W : World) (B : Nat) (H : Hal) (k : Nat) : Prop where
 c0 : W.cell? ⟨B, 0, none⟩ = some (.int .i64 (corAt H.cors k).x)
 c1 : W.cell? ⟨B, 1, none⟩ = some (.int .i64 (corAt H.cors k).y)
 c2 : W.cell? ⟨B, 2, none⟩ = some (.int .i64 (corAt H.cors (nxt H.cors.length k)).x)
 c3 : W.cell? ⟨B, 3, none⟩ = some (.int .i64 (corAt H.cors (nxt H.cors.length k)).y)
theorem EdgeIn.sim {W W' : World} {B D k : Nat} {H : Hal} (s : Sim D W W') (h : EdgeIn W B H k) : EdgeIn W' B H k := ⟨s.cell h.c0, s.cell h.c1, s.cell h.c2, s.cell h.c3⟩
theorem EdgeIn.new (W : World) (H : Hal) (k t : Nat) : EdgeIn (W.alloc (.cells #[.int .i64 (corAt H.cors k).x, .int .i64 (corAt H.cors k).y, .int .i64 (corAt H.cors (nxt H.cors.length k)).x, .int .i64 (corAt H.cors (nxt H.cors.length k)).y] t)) W.heap.size H k := by
 constructor <;> simp [go_sem]

theorem twiceArea_room {w : World} {b : Nat} {H : Hal} {S : Stg} (hR : Room w b H S) (hC : CorsIn H) (hN : H.cors.length ≤ 20) :
 Calls Tryz.prog 86 #[.pointer (some ⟨b, 0, none⟩)] w (RetX w (.int .i64 (areaTo H H.cors.length))) := by
 refine (callsIn_wide (n := 10)).1 ?_
 refine callsIn_of_wp_marks Tryz.func86 rfl trivial ?_ rfl
 simp only [Tryz.ntmps86, nt, Nat.reduceAdd, Nat.reduceSub]
 gi_wp2
 refine range_outer rfl (by omega) (gf := 129) (pre := #[.pointer (some ⟨b, 0, none⟩)]) rfl trivial (enters_of Tryz.func129 (by kernel_rfl) rfl) (n₀ := w.heap.size) (by simp)
  (walls_iter hR ((Below.refl _ _).alloc (Nat.le_refl _) _) _ (by omega)) (fun k => rfl)
  (fun k W => W.cell? ⟨w.heap.size, 0, none⟩ = some (.int .i64 (areaTo H k)) ∧ W.frozen? ⟨w.heap.size, 0, none⟩ = false) (fun _ _ => False)
  (fun k W W' s h => ⟨s.cell h.1, s.frozen h.1 h.2⟩) (fun _ _ _ _ h => h) ?start
  (fun k a' W => ∃ B, w.heap.size < B ∧ a' = { tmps := #[.pointer (some ⟨b, 0, none⟩), undef, .int .i64 0, .pointer (some ⟨w.heap.size, 0, none⟩), undef, .pointer (some ⟨B, 0, none⟩), .pointer (some ⟨b, 0, none⟩), .func (.func 129) #[.pointer (some ⟨b, 0, none⟩)] #[], .int .i64 k, lineV H k, undef, undef, undef, undef, undef, undef, undef, undef, undef, undef, undef, undef, undef, undef, undef, undef, undef, undef], defers := [] } ∧ EdgeIn W B H k)
  (fun k a' W W' s ⟨B, h1, h2, h3⟩ => ⟨B, h1, h2, h3.sim s⟩) ?assign ?body ?done ?stop
 case start => simp [go_sem, areaTo]
 case assign =>
  intro l k W K hk hi hb hK
  simp only [wallEnc, lineV]
  gi_wp2
  have hsz : w.heap.size + 1 ≤ W.heap.size := by have := hb.size; simpa using this
  exact hK _ _ (KeepsAll.alloc _ _ _) (hb.alloc (by omega) _) ⟨(Sim.alloc 0 W _).cell hi.1, (Sim.alloc 0 W _).frozen hi.1 hi.2⟩ ⟨W.heap.size, by omega, rfl, EdgeIn.new _ _ _ _⟩
 case body =>
  rintro l k a' W hk hl hr ⟨hc, hf⟩ ⟨B, hB, rfl, ⟨e0, e1, e2, e3⟩⟩ hb
  have hA := areaTo_bd hC k (by omega)
  have hS : Hid (areaTo H (k + 1) = areaTo H k + ((corAt H.cors k).x * (corAt H.cors (nxt H.cors.length k)).y - (corAt H.cors (nxt H.cors.length k)).x * (corAt H.cors k).y)) := rfl
  obtain ⟨a1, a2⟩ := hC k (by omega)
  obtain ⟨b1, b2⟩ := hC _ (nxt_lt (n := H.cors.length) (i := k) (by omega))
  have m1 := mul_sz a1 b2 (by omega) (by omega)
  have m2 := mul_sz b1 a2 (by omega) (by omega)
  have hk' : (k : Int) ≤ 20 := by omega
  clear hl hr hR
  unfold lineV
  generalize (corAt H.cors k).x = x1 at *
  generalize (corAt H.cors k).y = y1 at *
  generalize (corAt H.cors (nxt H.cors.length k)).x = x2 at *
  generalize (corAt H.cors (nxt H.cors.length k)).y = y2 at *
  generalize areaTo H k = A at *
  gi_wp2
  refine ⟨KeepsAll.setCell _ _ _ (by simp), hb.setCell (p := ⟨w.heap.size, 0, none⟩) (Nat.le_refl _) _, ?_, ?_⟩
  · rw [hS.out]; exact World.cell?_setCell_same' _ _ _ (by rw [hc]; rfl)
  · rw [World.frozen?_setCell]; exact hf
 case done =>
  rintro W ⟨hc, hf⟩ hb hD
  gi_wp2
  refine ⟨by simp, .inl ⟨_, _, rfl, run_takeDeferred hD, ?_⟩⟩
  exact ⟨_, results_tmp rfl _ _ _, retX rfl (((((Below.refl _ _).alloc (Nat.le_refl _) _).trans hb)).putObjStep (by simp) _)⟩
 case stop => exact fun _ _ h => h.elim
end Go.Proofs.YtekieoamelahkaaGreat

/- The iterator over the walls, where the round may turn more. -/
namespace Go.Proofs.YtekieoamelahkaaGreat
open Go.RowKit Go.Shelf
attribute [local go_sem] Oper.semAt_some

theorem walls_iterG {b : Nat} {H : Hal} {S : Stg} {G : World → Prop} (hGx : ∀ W x, G W → G (World.ext W x)) (hGR : ∀ W, G W → Room W b H S) (n : Nat) (hn : 1 ≤ n) :
 IterG Fence.wide n Tryz.prog 129 #[.pointer (some ⟨b, 0, none⟩)] (wallEnc H) H.cors.length G := by
 intro l J Jx W hJ hJx hb hY h0
 have hRW : Room W b H S := hGR W hb
 obtain ⟨v4, v5, v6, v7, v8, v9, v10, hRW⟩ := hRW
 obtain ⟨A, c, rfl, hS⟩ := slc_form hRW.hal.cors
 have h5 := hRW.c5
 have hB := hRW.has
 have hl := hS.1
 clear hS hRW
 refine callsIn_of_wp Tryz.func129 rfl trivial ?_ rfl
 simp only [Tryz.ntmps129, nt, Nat.reduceAdd, Nat.reduceSub]
 gi_wp2
 gi_loopw [11] (fun i wr => ∃ k : Nat, i = .int .i64 k ∧ k ≤ H.cors.length ∧ J k wr ∧ G wr) (fun i _ => H.cors.length - (intOf i).toNat)
 case atStart => exact ⟨0, rfl, Nat.zero_le _, h0, hb⟩
 case round =>
  obtain ⟨k, rfl, hk, hj, hbr⟩ := hrel
  rcases Nat.lt_or_ge k H.cors.length with hlt | hge
  · gi_wp2_with fail
    refine ⟨trivial, ?_⟩
    refine (callsIn_wide.2 (line_any (hGR _ hbr) k hlt)).mono ?_
    rintro e w1 ⟨rfl, x, rfl⟩
    obtain ⟨fn, tmps, assign, body, hy, hRd⟩ := hY k (wr.ext x) hlt (hJ _ _ _ hj) (hGx _ x hbr)
    simp only [wallEnc, lineV] at hy
    gi_wp2
    refine hRd.mono ?_
    rintro e W3 ⟨⟨hb3, hk3⟩, (⟨rfl, hJ'⟩ | ⟨rfl, hJx'⟩)⟩
    · gi_wp2
      go_roundw
      case rel => exact ⟨k + 1, by go_num, by omega, hJ', hb3⟩
      case measure => simp [intOf]; omega
    · gi_wp2
      refine bodyPost_ret (results_none rfl _ _ _) rfl ?_
      exact ⟨⟨_, rfl⟩, hb3, .inr hJx'⟩
  · obtain rfl : k = H.cors.length := by omega
    gi_wp2
    go_end0
    exact ⟨⟨_, rfl⟩, hbr, .inl hj⟩

end Go.Proofs.YtekieoamelahkaaGreat
