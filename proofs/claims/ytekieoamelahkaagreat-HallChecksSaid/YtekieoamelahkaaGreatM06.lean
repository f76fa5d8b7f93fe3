/- Rounds of a loop over an iterator: how they end. (No program.) -/
import Derived.Test.YtekieoamelahkaaGreatM05
import Derived.WalkKit
import Derived.RangeFuncSeq
set_option linter.unusedVariables false
set_option linter.unusedSimpArgs false
namespace Go
open Go.RowKit

theorem has_of_cell {W : World} {n i : Nat} {v : Value} (h : W.cell? ⟨n, i, none⟩ = some v) : W.Has n := by
 unfold World.cell? at h
 split at h
 · rename_i hh; exact (Array.getElem?_eq_some_iff.1 hh).1
 · cases h

theorem Sim.of_below {D : Nat} {W X : World} (h : Below W.heap.size W X) : Sim D W X :=
 ⟨h.os, h.tape, h.output, h.size, fun k o ho _ => (h.block k (Array.getElem?_eq_some_iff.1 ho).1).trans ho⟩
theorem KeepsFrom.of_below {B : Nat} {W X : World} (h : Below W.heap.size W X) : KeepsFrom B W X :=
 ⟨h.size, fun k o _ ho _ => (h.block k (Array.getElem?_eq_some_iff.1 ho).1).trans ho⟩
theorem RowKit.Below.lower {B D : Nat} {W X : World} (h : Below D W X) (hB : B ≤ D) : Below B W X := ⟨h.os, h.tape, h.output, h.size, fun k hk => h.block k (by omega)⟩

variable {B n₀ : Nat} {w W X : World} {I' : World → Prop} {Ix : Code → World → Prop} {a : Act}
theorem bodyQ_next (h : Below W.heap.size W X) (hn : n₀ ≤ W.heap.size) (hb : Below n₀ w W) (hI : Sim B W X → I' X) : bodyQ B n₀ w W I' Ix .normal a X :=
 ⟨KeepsAll.of_below h, hb.trans (h.lower hn), hI (.of_below h)⟩
theorem bodyQ_leave (h : Below W.heap.size W X) (hn : n₀ ≤ W.heap.size) (hb : Below n₀ w W) (hI : Sim B W X → Ix .ret X) : bodyQ B n₀ w W I' Ix .ret a X :=
 ⟨KeepsAll.of_below h, hb.trans (h.lower hn), hI (.of_below h)⟩
theorem bodyQ_nextSet {p : Addr} {v : Value} (h : Below W.heap.size W X) (hn : n₀ ≤ W.heap.size) (hp : n₀ ≤ p.block) (hB : p.block < B) (hb : Below n₀ w W) (hI : Sim B W X → I' (X.setCell p v)) : bodyQ B n₀ w W I' Ix .normal a (X.setCell p v) :=
 ⟨(KeepsAll.of_below h).trans (KeepsAll.setCell _ _ _ hB), (hb.trans (h.lower hn)).setCell hp _, hI (.of_below h)⟩
theorem bodyQ_leaveSet {p : Addr} {v : Value} (h : Below W.heap.size W X) (hn : n₀ ≤ W.heap.size) (hp : n₀ ≤ p.block) (hB : p.block < B) (hb : Below n₀ w W) (hI : Sim B W X → Ix .ret (X.setCell p v)) : bodyQ B n₀ w W I' Ix .ret a (X.setCell p v) :=
 ⟨(KeepsAll.of_below h).trans (KeepsAll.setCell _ _ _ hB), (hb.trans (h.lower hn)).setCell hp _, hI (.of_below h)⟩
theorem cell_set {X : World} {n i : Nat} {v u : Value} (h : X.cell? ⟨n, i, none⟩ = some u) : (X.setCell ⟨n, i, none⟩ v).cell? ⟨n, i, none⟩ = some v := World.cell?_setCell_same' _ _ _ (by rw [h]; rfl)
theorem cell_other {X : World} {n i m j : Nat} {v u : Value} (hne : n ≠ m) (h : X.cell? ⟨n, i, none⟩ = some u) : (X.setCell ⟨m, j, none⟩ v).cell? ⟨n, i, none⟩ = some u := by
 rw [← h]
 exact World.cell?_of_block (Below.heap_setCell _ _ _ _ hne)
theorem cell_put {X : World} {n i b : Nat} {o : Obj} {u : Value} (hne : n ≠ b) (h : X.cell? ⟨n, i, none⟩ = some u) : (X.putObj b o).cell? ⟨n, i, none⟩ = some u := by
 rw [← h]
 exact World.cell?_of_block (World.putObj_heap_other hne)
theorem uponIn_yieldAt {F : Fence} {n : Nat} {P : Program} {l : Nat} {args : Array Value} {W1 : World} {R : Ending → World → Prop} {o : Oper} {a : Act} {K : Act → World → Prop} {Q : Exit → Act → World → Prop}
 (hY : YieldAt F (n - 1) P l args W1 R) (hd : F.depth.isSome = true → 1 ≤ n) (h : ∀ e w', R e w' → ∃ v, e = .returned v ∧ K (a.put o.dst v) w') : o.uponIn F n P a K Q ((Instr.yield l args).run P W1) := by
 obtain ⟨fn, tmps, assign, body, hy, hr⟩ := hY
 rw [hy]
 refine ⟨hd, hr.mono fun e w' he => ?_⟩
 obtain ⟨v, rfl, hk⟩ := h e w' he
 exact hk
end Go
