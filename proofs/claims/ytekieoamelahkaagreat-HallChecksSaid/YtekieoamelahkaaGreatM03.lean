/- The class of worlds that are as a world was, but for one block of the call's own (a result's variable), and what is new. (No program.) -/
import Derived.Test.YtekieoamelahkaaGreatM02
set_option linter.unusedVariables false
set_option linter.unusedSimpArgs false
namespace Go
open Go.RowKit

structure HoleRel (B r : Nat) (w w' : World) : Prop where
 os : w'.os = w.os
 tape : w'.tape = w.tape
 output : w'.output = w.output
 size : w.heap.size ≤ w'.heap.size
 block : ∀ k, k < B → k ≠ r → w'.heap[k]? = w.heap[k]?

theorem HoleRel.of {B r : Nat} {w w' : World} (h : Below B w w') : HoleRel B r w w' := ⟨h.os, h.tape, h.output, h.size, fun k hk _ => h.block k hk⟩
theorem HoleRel.trans {B r : Nat} {a b c : World} (h : HoleRel B r a b) (k : HoleRel B r b c) : HoleRel B r a c :=
 ⟨k.os.trans h.os, k.tape.trans h.tape, k.output.trans h.output, Nat.le_trans h.size k.size, fun i hi hr => (k.block i hi hr).trans (h.block i hi hr)⟩
theorem HoleRel.refl (B r : Nat) (w : World) : HoleRel B r w w := ⟨rfl, rfl, rfl, Nat.le_refl _, fun _ _ _ => rfl⟩
theorem HoleRel.drew {B r : Nat} {a w : World} (h : HoleRel B r a w) : HoleRel B r a w.drew := ⟨h.os, h.tape, h.output, h.size, h.block⟩
theorem HoleRel.drewN {B r : Nat} {a w : World} (h : HoleRel B r a w) (n : Nat) : HoleRel B r a (w.drewN n) := ⟨h.os, h.tape, h.output, h.size, h.block⟩
theorem HoleRel.alloc {B r : Nat} {a w : World} (h : HoleRel B r a w) (hB : B ≤ w.heap.size) (o : Obj) : HoleRel B r a (w.alloc o) := h.trans (.of ((Below.refl _ _).alloc hB o))
theorem HoleRel.ext {B r : Nat} {a w : World} (h : HoleRel B r a w) (hB : B ≤ w.heap.size) (x : Ext) : HoleRel B r a (w.ext x) := h.trans (.of ((Below.refl _ _).extStep hB x))
theorem HoleRel.setCell {B r : Nat} {a w : World} (h : HoleRel B r a w) {p : Addr} (hp : p.block = r ∨ B ≤ p.block) (u : Value) : HoleRel B r a (w.setCell p u) :=
 h.trans ⟨rfl, rfl, rfl, by simp [World.setCell], fun k hk hr => Below.heap_setCell _ _ _ _ (by rcases hp with hp | hp <;> omega)⟩

theorem HoleRel.swap {B r : Nat} {w : World} (hrw : r = w.heap.size) (o o' : Obj) : HoleRel B r (w.alloc o) (w.alloc o') :=
 ⟨rfl, rfl, rfl, by simp, fun k hk hr => by
  subst hrw
  show (w.heap.push o')[k]? = (w.heap.push o)[k]?
  rw [Array.getElem?_push, Array.getElem?_push, if_neg hr, if_neg hr]⟩

structure Hol where
 obj : Obj
 ext : Ext
instance : Nonempty Hol := ⟨⟨.map #[] 0, ⟨#[], 0⟩⟩⟩
def World.hole (w : World) (r : Nat) (x : Hol) : World := { w with heap := (w.heap.setIfInBounds r x.obj) ++ x.ext.heap, drawn := x.ext.drawn }
theorem World.hole_block (w : World) (r : Nat) (x : Hol) (n : Nat) (h : n < w.heap.size) (hr : n ≠ r) : (w.hole r x).heap[n]? = w.heap[n]? := by
 simp only [World.hole]
 rw [Array.getElem?_append_left (by simpa using h), Array.getElem?_setIfInBounds_ne (Ne.symm hr)]
@[simp, go_sem] theorem World.size_hole (w : World) (r : Nat) (x : Hol) : (w.hole r x).heap.size = w.heap.size + x.ext.heap.size := by simp [World.hole]
@[simp, go_sem] theorem World.has_hole (w : World) (r : Nat) (x : Hol) (n : Nat) : (w.hole r x).Has n = (w.Has n ∨ w.HasNew x.ext n) := by simp [World.Has, World.HasNew]; omega
@[simp, go_sem] theorem World.cell?_hole (w : World) (r : Nat) (x : Hol) (n i : Nat) (h : w.Has n) (hr : n ≠ r) : (w.hole r x).cell? ⟨n, i, none⟩ = w.cell? ⟨n, i, none⟩ :=
 World.cell?_of_block (w := w) (World.hole_block w r x n h hr)
@[simp, go_sem] theorem World.frozen?_hole (w : World) (r : Nat) (x : Hol) (n i : Nat) (h : w.Has n) (hr : n ≠ r) : (w.hole r x).frozen? ⟨n, i, none⟩ = w.frozen? ⟨n, i, none⟩ :=
 World.frozen?_of_block (w := w) (World.hole_block w r x n h hr)

theorem hole_of {r : Nat} {w w' : World} (h : HoleRel w.heap.size r w w') : ∃ x, w' = w.hole r x := by
 refine ⟨⟨(w'.heap[r]?).getD (.map #[] 0), ⟨w'.heap.extract w.heap.size w'.heap.size, w'.drawn⟩⟩, ?_⟩
 have hh : (w.heap.setIfInBounds r ((w'.heap[r]?).getD (.map #[] 0))) ++ w'.heap.extract w.heap.size w'.heap.size = w'.heap := by
  apply Array.ext
  · simp; have := h.size; omega
  · intro i h1 h2
    by_cases hi : i < w.heap.size
    · rw [Array.getElem_append_left (by simpa using hi)]
      by_cases hr : r = i
      · subst hr
        simp [Array.getElem?_eq_getElem h2]
      · rw [Array.getElem_setIfInBounds_ne _ hr]
        have := h.block i hi (Ne.symm hr)
        rw [Array.getElem?_eq_getElem h2, Array.getElem?_eq_getElem hi] at this
        exact (Option.some.inj this).symm
    · rw [Array.getElem_append_right (by simp; omega)]
      simp only [Array.getElem_extract, Array.size_setIfInBounds]
      congr 1
      omega
 cases w'
 simp only [World.hole] at hh ⊢
 obtain ⟨h1, h2, h3, _, _⟩ := h
 simp only at h1 h2 h3
 subst h1 h2 h3
 simp [hh]

theorem wp_region_tameH {P : Program} {id : Nat} {Q : Exit → Act → World → Prop} {a : Act} {w : World} {l : List Oper} (r : Nat) (hm : P.follows .mixedOrders = true) (hB : Region.tameB .any Oper.isEff l = true)
 (h : wpTame P l.toArray Oper.isEff (fun w' => ∃ x, w' = w.hole r x) (fun a' w' => Q .normal a' w') l a w.drew) : (Code.region id l.toArray true).wp P Q a w :=
 wp_region_tame (fun w' => ∃ x, w' = w.hole r x) Oper.isEff hm hB (hole_of (HoleRel.refl _ _ _).drew) h

theorem wp_region_treeH {P : Program} {id : Nat} {Q : Exit → Act → World → Prop} {a : Act} {w : World} {l : List Oper} (r : Nat) (hm : P.follows .mixedOrders = true)
 (h : wpAnyT P .any l.toArray Oper.isEff (fun w' => ∃ x, w' = w.hole r x) (fun a' w' => Q .normal a' w') l.length (Array.replicate l.length false) a w.drew) : (Code.region id l.toArray true).wp P Q a w := by
 refine wp_region_any hm (wpAny_of_T (C := fun w' => ∃ x, w' = w.hole r x) (ef := Oper.isEff) (Q := fun a' w' => Q .normal a' w') (fun _ _ _ h => h) _ _ _ _ (hole_of (HoleRel.refl _ _ _).drew) ?_)
 simpa using h
end Go
