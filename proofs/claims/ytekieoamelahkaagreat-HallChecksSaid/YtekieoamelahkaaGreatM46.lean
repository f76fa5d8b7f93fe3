/- The class of worlds that are as a world was, but for two blocks of the call's own, and what is new. (No program.) -/
import Derived.Test.YtekieoamelahkaaGreatM03
set_option linter.unusedVariables false
set_option linter.unusedSimpArgs false
namespace Go
open Go.RowKit

structure Hole2Rel (B r s : Nat) (w w' : World) : Prop where
 os : w'.os = w.os
 tape : w'.tape = w.tape
 output : w'.output = w.output
 size : w.heap.size ≤ w'.heap.size
 block : ∀ k, k < B → k ≠ r → k ≠ s → w'.heap[k]? = w.heap[k]?
theorem Hole2Rel.of {B r s : Nat} {w w' : World} (h : Below B w w') : Hole2Rel B r s w w' := ⟨h.os, h.tape, h.output, h.size, fun k hk _ _ => h.block k hk⟩
theorem Hole2Rel.trans {B r s : Nat} {a b c : World} (h : Hole2Rel B r s a b) (k : Hole2Rel B r s b c) : Hole2Rel B r s a c :=
 ⟨k.os.trans h.os, k.tape.trans h.tape, k.output.trans h.output, Nat.le_trans h.size k.size, fun i hi hr hs => (k.block i hi hr hs).trans (h.block i hi hr hs)⟩
theorem Hole2Rel.refl (B r s : Nat) (w : World) : Hole2Rel B r s w w := ⟨rfl, rfl, rfl, Nat.le_refl _, fun _ _ _ _ => rfl⟩
theorem Hole2Rel.drew {B r s : Nat} {a w : World} (h : Hole2Rel B r s a w) : Hole2Rel B r s a w.drew := ⟨h.os, h.tape, h.output, h.size, h.block⟩
theorem Hole2Rel.alloc {B r s : Nat} {a w : World} (h : Hole2Rel B r s a w) (hB : B ≤ w.heap.size) (o : Obj) : Hole2Rel B r s a (w.alloc o) := h.trans (.of ((Below.refl _ _).alloc hB o))
theorem Hole2Rel.ext {B r s : Nat} {a w : World} (h : Hole2Rel B r s a w) (hB : B ≤ w.heap.size) (x : Ext) : Hole2Rel B r s a (w.ext x) := h.trans (.of ((Below.refl _ _).extStep hB x))
theorem Hole2Rel.setCell {B r s : Nat} {a w : World} (h : Hole2Rel B r s a w) {p : Addr} (hp : p.block = r ∨ p.block = s ∨ B ≤ p.block) (u : Value) : Hole2Rel B r s a (w.setCell p u) :=
 h.trans ⟨rfl, rfl, rfl, by simp [World.setCell], fun k hk hr hs => Below.heap_setCell _ _ _ _ (by rcases hp with hp | hp | hp <;> omega)⟩
structure Hol2 where
 x : Hol
 y : Hol
instance : Nonempty Hol2 := ⟨⟨⟨.map #[] 0, ⟨#[], 0⟩⟩, ⟨.map #[] 0, ⟨#[], 0⟩⟩⟩⟩
def World.hole2 (w : World) (r s : Nat) (z : Hol2) : World := (w.hole r z.x).hole s z.y
@[simp, go_sem] theorem World.size_hole2 (w : World) (r s : Nat) (z : Hol2) : (w.hole2 r s z).heap.size = w.heap.size + z.x.ext.heap.size + z.y.ext.heap.size := by simp [World.hole2]
@[simp, go_sem] theorem World.cell?_hole2 (w : World) (r s : Nat) (z : Hol2) (n i : Nat) (h : w.Has n) (hr : n ≠ r) (hs : n ≠ s) : (w.hole2 r s z).cell? ⟨n, i, none⟩ = w.cell? ⟨n, i, none⟩ := by
 unfold World.hole2
 rw [World.cell?_hole _ _ _ _ _ (by rw [World.has_hole]; exact .inl h) hs, World.cell?_hole _ _ _ _ _ h hr]
@[simp, go_sem] theorem World.frozen?_hole2 (w : World) (r s : Nat) (z : Hol2) (n i : Nat) (h : w.Has n) (hr : n ≠ r) (hs : n ≠ s) : (w.hole2 r s z).frozen? ⟨n, i, none⟩ = w.frozen? ⟨n, i, none⟩ := by
 unfold World.hole2
 rw [World.frozen?_hole _ _ _ _ _ (by rw [World.has_hole]; exact .inl h) hs, World.frozen?_hole _ _ _ _ _ h hr]
theorem hole2_of {r s : Nat} {w w' : World} (hr : r < w.heap.size) (h : Hole2Rel w.heap.size r s w w') : ∃ z, w' = w.hole2 r s z := by
 have hz : (w.hole r ⟨(w'.heap[r]?).getD (.map #[] 0), ⟨#[], w'.drawn⟩⟩).heap.size = w.heap.size := by simp
 obtain ⟨y, hy⟩ := hole_of (r := s) (w := w.hole r ⟨(w'.heap[r]?).getD (.map #[] 0), ⟨#[], w'.drawn⟩⟩) (w' := w') ⟨h.os, h.tape, h.output, by rw [hz]; exact h.size, fun k hk hs => by
  rw [hz] at hk
  by_cases hkr : k = r
  · subst hkr
    have h1 : k < w'.heap.size := Nat.lt_of_lt_of_le hk h.size
    simp only [World.hole]
    rw [Array.getElem?_append_left (by simpa using hk)]
    rw [Array.getElem?_eq_getElem h1]
    simp [hk]
  · rw [World.hole_block w r _ k hk hkr]
    exact h.block k hk hkr hs⟩
 exact ⟨⟨_, y⟩, hy⟩
theorem wp_region_treeHH {P : Program} {id : Nat} {Q : Exit → Act → World → Prop} {a : Act} {w : World} {l : List Oper} (r s : Nat) (hr : r < w.heap.size) (hm : P.follows .mixedOrders = true)
 (h : wpAnyT P .any l.toArray Oper.isEff (fun w' => ∃ z, w' = w.hole2 r s z) (fun a' w' => Q .normal a' w') l.length (Array.replicate l.length false) a w.drew) : (Code.region id l.toArray true).wp P Q a w := by
 refine wp_region_any hm (wpAny_of_T (C := fun w' => ∃ z, w' = w.hole2 r s z) (ef := Oper.isEff) (Q := fun a' w' => Q .normal a' w') (fun _ _ _ h => h) _ _ _ _ (hole2_of hr (Hole2Rel.refl _ _ _ _).drew) ?_)
 simpa using h
end Go
