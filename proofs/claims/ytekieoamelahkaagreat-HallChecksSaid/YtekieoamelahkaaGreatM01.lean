/- A world with new blocks and draws behind it, written out: 'w.ext x'. What lies below is read through it. (No program.) -/
import Derived.WalkKit
import Derived.Deep.Draws
set_option linter.unusedVariables false
set_option linter.unusedSimpArgs false
namespace Go

structure Ext where
 heap : Array Obj
 drawn : Nat

instance : Nonempty Ext := ⟨⟨#[], 0⟩⟩

def World.ext (w : World) (x : Ext) : World := { w with heap := w.heap ++ x.heap, drawn := x.drawn }

@[simp, go_sem] theorem World.size_ext (w : World) (x : Ext) : (w.ext x).heap.size = w.heap.size + x.heap.size := by simp [World.ext]

theorem World.ext_heap_lt (w : World) (x : Ext) (k : Nat) (h : k < w.heap.size) : (w.ext x).heap[k]? = w.heap[k]? := by
 simp only [World.ext]
 rw [Array.getElem?_append_left h]

def World.Has (w : World) (n : Nat) : Prop := n < w.heap.size
theorem World.has_of {w : World} {n : Nat} (h : n < w.heap.size) : w.Has n := h
@[simp, go_sem] theorem World.has_alloc (w : World) (o : Obj) (n : Nat) : (w.alloc o).Has n = (n = w.heap.size ∨ w.Has n) := by simp [World.Has]; omega
def World.HasNew (w : World) (x : Ext) (n : Nat) : Prop := n < w.heap.size + x.heap.size
@[simp, go_sem] theorem World.has_ext (w : World) (x : Ext) (n : Nat) : (w.ext x).Has n = (w.Has n ∨ w.HasNew x n) := by simp [World.Has, World.HasNew]; omega
@[simp, go_sem] theorem World.has_drew (w : World) (n : Nat) : w.drew.Has n = w.Has n := propext Iff.rfl
@[simp, go_sem] theorem World.has_drewN (w : World) (n k : Nat) : (w.drewN k).Has n = w.Has n := propext Iff.rfl
@[simp, go_sem] theorem World.has_setCell (w : World) (a : Addr) (v : Value) (n : Nat) : (w.setCell a v).Has n = w.Has n := by simp [World.Has, World.setCell]

@[simp, go_sem] theorem World.cell?_ext (w : World) (x : Ext) (n i : Nat) (h : w.Has n) : (w.ext x).cell? ⟨n, i, none⟩ = w.cell? ⟨n, i, none⟩ :=
 World.cell?_of_block (w := w) (World.ext_heap_lt w x n h)
@[simp, go_sem] theorem World.frozen?_ext (w : World) (x : Ext) (n i : Nat) (h : w.Has n) : (w.ext x).frozen? ⟨n, i, none⟩ = w.frozen? ⟨n, i, none⟩ :=
 World.frozen?_of_block (w := w) (World.ext_heap_lt w x n h)
@[simp, go_sem] theorem World.cell?_alloc_has (w : World) (o : Obj) (n i : Nat) (h : w.Has n) : (w.alloc o).cell? ⟨n, i, none⟩ = w.cell? ⟨n, i, none⟩ := World.cell?_alloc_lt w o ⟨n, i, none⟩ h
@[simp, go_sem] theorem World.frozen?_alloc_has (w : World) (o : Obj) (n i : Nat) (h : w.Has n) : (w.alloc o).frozen? ⟨n, i, none⟩ = w.frozen? ⟨n, i, none⟩ := World.frozen?_alloc_past (w := w) o n i h

open Go.RowKit
theorem RowKit.Below.extStep {B : Nat} {a w : World} (h : Below B a w) (hB : B ≤ w.heap.size) (x : Ext) : Below B a (w.ext x) :=
 h.trans ⟨rfl, rfl, rfl, by simp, fun k hk => World.ext_heap_lt w x k (by omega)⟩

theorem RowKit.Below.drewNStep {B : Nat} {a w : World} (h : Below B a w) (n : Nat) : Below B a (w.drewN n) := ⟨h.os, h.tape, h.output, h.size, h.block⟩

theorem ext_of_below {w w' : World} (h : Below w.heap.size w w') : ∃ x, w' = w.ext x := by
 refine ⟨⟨w'.heap.extract w.heap.size w'.heap.size, w'.drawn⟩, ?_⟩
 have hh : w.heap ++ w'.heap.extract w.heap.size w'.heap.size = w'.heap := by
  apply Array.ext
  · simp; have := h.size; omega
  · intro i h1 h2
    by_cases hi : i < w.heap.size
    · have := h.block i hi
      rw [Array.getElem?_eq_getElem h2, Array.getElem?_eq_getElem hi] at this
      rw [Array.getElem_append_left hi]
      exact (Option.some.inj this).symm
    · rw [Array.getElem_append_right (by omega)]
      simp only [Array.getElem_extract]
      congr 1
      omega
 cases w'
 simp only [World.ext] at hh ⊢
 obtain ⟨h1, h2, h3, _, _⟩ := h
 simp only at h1 h2 h3
 subst h1 h2 h3
 simp [hh]

theorem ext_ext (w : World) (x y : Ext) : ∃ z, (w.ext x).ext y = w.ext z :=
 ext_of_below (((Below.refl _ _).extStep (Nat.le_refl _) x).extStep (by simp) y)

def RetX (w : World) (v : Value) (e : Ending) (w' : World) : Prop := e = .returned v ∧ ∃ x, w' = w.ext x
theorem retX {w w' : World} {v u : Value} (h : u = v) (hb : Below w.heap.size w w') : RetX w v (.returned u) w' := ⟨by rw [h], ext_of_below hb⟩
theorem retX_int {w w' : World} {k : IntKind} {a b : Int} (h : a = b) (hb : Below w.heap.size w w') : RetX w (.int k b) (.returned (.int k a)) w' := retX (by rw [h]) hb
theorem retX_bool {w w' : World} {a b : Bool} (h : a = b) (hb : Below w.heap.size w w') : RetX w (.bool b) (.returned (.bool a)) w' := retX (by rw [h]) hb
theorem RetX.below {w w' : World} {v : Value} {e : Ending} (h : RetX w v e w') : e = .returned v ∧ Below w.heap.size w w' := by
 obtain ⟨h1, x, rfl⟩ := h
 exact ⟨h1, (Below.refl _ _).extStep (Nat.le_refl _) x⟩

open Go.RowKit in
theorem bz0 (B : Nat) (w : World) : Below B w w := Below.refl _ _
open Go.RowKit in
theorem bz1 {B : Nat} {a w : World} (h : Below B a w) : Below B a w.drew := h.drew
open Go.RowKit in
theorem bz2 {B : Nat} {a w : World} (h : Below B a w) (n : Nat) : Below B a (w.drewN n) := h.drewNStep n
open Go.RowKit in
theorem bz3 {B : Nat} {a w : World} (h : Below B a w) (hB : B ≤ w.heap.size) (o : Obj) : Below B a (w.alloc o) := h.alloc hB o
open Go.RowKit in
theorem bz4 {B : Nat} {a w : World} {p : Addr} (h : Below B a w) (hB : B ≤ p.block) (v : Value) : Below B a (w.setCell p v) := h.setCell hB v
open Go.RowKit in
theorem bz5 {B : Nat} {a w : World} (h : Below B a w) (hB : B ≤ w.heap.size) (x : Ext) : Below B a (w.ext x) := h.extStep hB x

theorem nt : (∀ l : List Value, l.toArray.size = l.length) ∧ (∀ (a : Value) (l : List Value), (a :: l).length = l.length + 1) ∧ (([] : List Value).length = 0) ∧ (∀ (n : Nat) (a : Value), Array.replicate (n + 1) a = (Array.replicate n a).push a) ∧ (∀ a : Value, Array.replicate 0 a = #[]) ∧ (∀ (l : List Value) (a : Value), l.toArray.push a = (l ++ [a]).toArray) ∧ (∀ l m : List Value, l.toArray ++ m.toArray = (l ++ m).toArray) ∧ (∀ l : List Value, [] ++ l = l) ∧ (∀ (a : Value) (l m : List Value), (a :: l) ++ m = a :: (l ++ m)) :=
 ⟨fun _ => List.size_toArray, fun _ _ => List.length_cons, List.length_nil, fun _ _ => Array.replicate_succ, fun _ => Array.replicate_zero, fun _ _ => List.push_toArray .., fun _ _ => List.append_toArray .., fun _ => List.nil_append _, fun _ _ _ => List.cons_append⟩
end Go

/- What a hall is, as plain data, and what it is in memory. -/
namespace Go.Proofs.YtekieoamelahkaaGreat
open Go.RowKit

structure Cor where
 x : Int
 y : Int
structure Mat where
 name : ByteArray
 a0 : Int
 a1 : Int
 a2 : Int
 a3 : Int
 scat : Int
structure Wal where
 name : ByteArray
 mat : ByteArray
 cur : ByteArray
structure Can where
 name : ByteArray
 mat : ByteArray
 f : Cor
 t : Cor
 hs : List Int
structure Sea where
 name : ByteArray
 x : Int
 y : Int
 z : Int
structure Hal where
 name : ByteArray
 height : Int
 floor : ByteArray
 ceil : ByteArray
 mats : List Mat
 cors : List Cor
 wals : List Wal
 cans : List Can
 seas : List Sea
structure Stg where
 hs : List Int
 dr : List Int

structure Kept (w w' : World) : Prop where
 cell : ∀ {p : Addr} {v : Value}, w.cell? p = some v → w'.cell? p = some v
 size : w.heap.size ≤ w'.heap.size
theorem Kept.refl (w : World) : Kept w w := ⟨fun h => h, Nat.le_refl _⟩
theorem Kept.trans {a b c : World} (h : Kept a b) (k : Kept b c) : Kept a c := ⟨fun x => k.cell (h.cell x), Nat.le_trans h.size k.size⟩
theorem has_cell {w : World} {p : Addr} {v : Value} (h : w.cell? p = some v) : p.block < w.heap.size := by
 unfold World.cell? at h
 split at h
 · rename_i hh; exact (Array.getElem?_eq_some_iff.1 hh).1
 · cases h
theorem Kept.of_below {w w' : World} (hb : Below w.heap.size w w') : Kept w w' := ⟨fun {p _} h => (World.cell?_of_block (a := p) (hb.block p.block (has_cell h))).trans h, hb.size⟩
theorem Kept.has {w w' : World} (hb : Kept w w') {n : Nat} (h : w.Has n) : w'.Has n := Nat.lt_of_lt_of_le h hb.size

structure Enc (α : Type) where
 size : Nat
 at_ : World → α → Nat → Value → Prop
 keep : ∀ {w w' : World} {x : α} {j : Nat} {v : Value}, Kept w w' → at_ w x j v → at_ w' x j v

def SlcAt {α : Type} (E : Enc α) (w : World) (v : Value) (xs : List α) : Prop :=
 xs.length ≤ 1000000 ∧ ∃ A c, v = .slice A xs.length c ∧ (0 < xs.length → ∃ g o, A = some ⟨g, o, none⟩ ∧ w.Has g ∧ ∀ (i : Nat) (x : α), xs[i]? = some x → ∀ j, j < E.size → ∃ u, w.cell? ⟨g, o + i * E.size + j, none⟩ = some u ∧ E.at_ w x j u)

theorem Has.below {w w' : World} (hb : Below w.heap.size w w') {n : Nat} (h : w.Has n) : w'.Has n := Nat.lt_of_lt_of_le h hb.size
theorem cell_below {w w' : World} (hb : Below w.heap.size w w') {n i : Nat} {v : Value} (h : w.Has n) (hc : w.cell? ⟨n, i, none⟩ = some v) : w'.cell? ⟨n, i, none⟩ = some v := (hb.cell (p := ⟨n, i, none⟩) h).trans hc

theorem SlcAt.kept {α : Type} {E : Enc α} {w w' : World} {v : Value} {xs : List α} (hb : Kept w w') (h : SlcAt E w v xs) : SlcAt E w' v xs := by
 obtain ⟨hl, A, c, rfl, h⟩ := h
 refine ⟨hl, A, c, rfl, fun hn => ?_⟩
 obtain ⟨g, o, rfl, hg, hc⟩ := h hn
 refine ⟨g, o, rfl, hb.has hg, fun i x hx j hj => ?_⟩
 obtain ⟨u, hu, hat⟩ := hc i x hx j hj
 exact ⟨u, hb.cell hu, E.keep hb hat⟩
theorem SlcAt.below {α : Type} {E : Enc α} {w w' : World} {v : Value} {xs : List α} (hb : Below w.heap.size w w') (h : SlcAt E w v xs) : SlcAt E w' v xs := h.kept (.of_below hb)

def encInt : Enc Int := { size := 1, at_ := fun _ n _ v => v = .int .i64 n, keep := fun _ h => h }
def encCor : Enc Cor := { size := 2, at_ := fun _ c j v => v = .int .i64 (if j = 0 then c.x else c.y), keep := fun _ h => h }
def encMat : Enc Mat := { size := 6, at_ := fun _ m j v => v = if j = 0 then .string m.name else .int .i64 (if j = 1 then m.a0 else if j = 2 then m.a1 else if j = 3 then m.a2 else if j = 4 then m.a3 else m.scat), keep := fun _ h => h }
def encWal : Enc Wal := { size := 3, at_ := fun _ m j v => v = .string (if j = 0 then m.name else if j = 1 then m.mat else m.cur), keep := fun _ h => h }
theorem encCan_keep {w w' : World} {m : Can} {j : Nat} {v : Value} {q : Value} (hb : Kept w w') (h : if j = 6 then SlcAt encInt w v m.hs else v = q) : if j = 6 then SlcAt encInt w' v m.hs else v = q := by
 split
 · rename_i h6; simp only [h6, if_true] at h; exact h.kept hb
 · rename_i h6; simp only [h6, if_false] at h; exact h
def encCan : Enc Can := { size := 7, at_ := fun w m j v => if j = 6 then SlcAt encInt w v m.hs else v = if j = 0 then .string m.name else if j = 1 then .string m.mat else .int .i64 (if j = 2 then m.f.x else if j = 3 then m.f.y else if j = 4 then m.t.x else m.t.y), keep := fun hb h => encCan_keep hb h }
def encSea : Enc Sea := { size := 4, at_ := fun _ m j v => v = if j = 0 then .string m.name else .int .i64 (if j = 1 then m.x else if j = 2 then m.y else m.z), keep := fun _ h => h }

structure Hal.Sized (H : Hal) : Prop where
 name : H.name.size ≤ 1000000
 floor : H.floor.size ≤ 1000000
 ceil : H.ceil.size ≤ 1000000
 mats : ∀ m ∈ H.mats, m.name.size ≤ 1000000
 wals : ∀ m ∈ H.wals, m.name.size ≤ 1000000 ∧ m.mat.size ≤ 1000000 ∧ m.cur.size ≤ 1000000
 cans : ∀ m ∈ H.cans, m.name.size ≤ 1000000 ∧ m.mat.size ≤ 1000000
 seas : ∀ m ∈ H.seas, m.name.size ≤ 1000000

structure HalVs (w : World) (v4 v5 v6 v7 v8 : Value) (H : Hal) : Prop where
 sized : H.Sized
 mats : SlcAt encMat w v4 H.mats
 cors : SlcAt encCor w v5 H.cors
 wals : SlcAt encWal w v6 H.wals
 cans : SlcAt encCan w v7 H.cans
 seas : SlcAt encSea w v8 H.seas
theorem HalVs.kept {w w' : World} {v4 v5 v6 v7 v8 : Value} {H : Hal} (hb : Kept w w') (h : HalVs w v4 v5 v6 v7 v8 H) : HalVs w' v4 v5 v6 v7 v8 H :=
 ⟨h.sized, h.mats.kept hb, h.cors.kept hb, h.wals.kept hb, h.cans.kept hb, h.seas.kept hb⟩
theorem HalVs.below {w w' : World} {v4 v5 v6 v7 v8 : Value} {H : Hal} (hb : Below w.heap.size w w') (h : HalVs w v4 v5 v6 v7 v8 H) : HalVs w' v4 v5 v6 v7 v8 H := h.kept (.of_below hb)

structure RoomAt (w : World) (b : Nat) (H : Hal) (S : Stg) (v4 v5 v6 v7 v8 v9 v10 : Value) : Prop where
 has : w.Has b
 c0 : w.cell? ⟨b, 0, none⟩ = some (.string H.name)
 c1 : w.cell? ⟨b, 1, none⟩ = some (.int .i64 H.height)
 c2 : w.cell? ⟨b, 2, none⟩ = some (.string H.floor)
 c3 : w.cell? ⟨b, 3, none⟩ = some (.string H.ceil)
 c4 : w.cell? ⟨b, 4, none⟩ = some v4
 c5 : w.cell? ⟨b, 5, none⟩ = some v5
 c6 : w.cell? ⟨b, 6, none⟩ = some v6
 c7 : w.cell? ⟨b, 7, none⟩ = some v7
 c8 : w.cell? ⟨b, 8, none⟩ = some v8
 c9 : w.cell? ⟨b, 9, none⟩ = some v9
 c10 : w.cell? ⟨b, 10, none⟩ = some v10
 hal : HalVs w v4 v5 v6 v7 v8 H
 hs : SlcAt encInt w v9 S.hs
 dr : SlcAt encInt w v10 S.dr
theorem RoomAt.kept {w w' : World} {b : Nat} {H : Hal} {S : Stg} {v4 v5 v6 v7 v8 v9 v10 : Value} (hb : Kept w w') (h : RoomAt w b H S v4 v5 v6 v7 v8 v9 v10) : RoomAt w' b H S v4 v5 v6 v7 v8 v9 v10 :=
 ⟨hb.has h.has, hb.cell h.c0, hb.cell h.c1, hb.cell h.c2, hb.cell h.c3, hb.cell h.c4, hb.cell h.c5, hb.cell h.c6, hb.cell h.c7, hb.cell h.c8, hb.cell h.c9, hb.cell h.c10, h.hal.kept hb, h.hs.kept hb, h.dr.kept hb⟩
theorem RoomAt.below {w w' : World} {b : Nat} {H : Hal} {S : Stg} {v4 v5 v6 v7 v8 v9 v10 : Value} (hb : Below w.heap.size w w') (h : RoomAt w b H S v4 v5 v6 v7 v8 v9 v10) : RoomAt w' b H S v4 v5 v6 v7 v8 v9 v10 := h.kept (.of_below hb)

def Room (w : World) (b : Nat) (H : Hal) (S : Stg) : Prop := ∃ v4 v5 v6 v7 v8 v9 v10, RoomAt w b H S v4 v5 v6 v7 v8 v9 v10
theorem Room.kept {w w' : World} {b : Nat} {H : Hal} {S : Stg} (hb : Kept w w') (h : Room w b H S) : Room w' b H S := by
 obtain ⟨v4, v5, v6, v7, v8, v9, v10, h⟩ := h
 exact ⟨v4, v5, v6, v7, v8, v9, v10, h.kept hb⟩
theorem Room.below {w w' : World} {b : Nat} {H : Hal} {S : Stg} (hb : Below w.heap.size w w') (h : Room w b H S) : Room w' b H S := h.kept (.of_below hb)

/-! ### an element in its slice, cell by cell -/
def corAt (l : List Cor) (i : Nat) : Cor := (l[i]?).getD ⟨0, 0⟩
def matAt (l : List Mat) (i : Nat) : Mat := (l[i]?).getD ⟨.empty, 0, 0, 0, 0, 0⟩
def walAt (l : List Wal) (i : Nat) : Wal := (l[i]?).getD ⟨.empty, .empty, .empty⟩
def canAt (l : List Can) (i : Nat) : Can := (l[i]?).getD ⟨.empty, .empty, ⟨0, 0⟩, ⟨0, 0⟩, []⟩
def seaAt (l : List Sea) (i : Nat) : Sea := (l[i]?).getD ⟨.empty, 0, 0, 0⟩
def intAt (l : List Int) (i : Nat) : Int := (l[i]?).getD 0

theorem slc_form {α : Type} {E : Enc α} {w : World} {v : Value} {xs : List α} (h : SlcAt E w v xs) : ∃ A c, v = .slice A xs.length c ∧ SlcAt E w (.slice A xs.length c) xs := by
 obtain ⟨hl, A, c, rfl, h'⟩ := h
 exact ⟨A, c, rfl, hl, A, c, rfl, h'⟩

theorem slc_at {α : Type} {E : Enc α} {w : World} {A : Option Addr} {n c : Nat} {xs : List α} (h : SlcAt E w (.slice A n c) xs) {i : Nat} (hi : i < xs.length) :
 ∃ g o, A = some ⟨g, o, none⟩ ∧ w.Has g ∧ ∀ (k : Nat) (x : α), xs[k]? = some x → ∀ j, j < E.size → ∃ u, w.cell? ⟨g, o + k * E.size + j, none⟩ = some u ∧ E.at_ w x j u := by
 obtain ⟨_, A', c', he, h⟩ := h
 simp only [Value.slice.injEq] at he
 obtain ⟨rfl, rfl, rfl⟩ := he
 exact h (by omega)

theorem cor_at {w : World} {A : Option Addr} {n c : Nat} {xs : List Cor} (h : SlcAt encCor w (.slice A n c) xs) {i : Nat} (hi : i < xs.length) :
 ∃ g o, A = some ⟨g, o, none⟩ ∧ w.Has g ∧ ∀ k, k < xs.length → w.cell? ⟨g, o + k * 2, none⟩ = some (.int .i64 (corAt xs k).x) ∧ w.cell? ⟨g, o + k * 2 + 1, none⟩ = some (.int .i64 (corAt xs k).y) := by
 obtain ⟨g, o, hA, hg, hc⟩ := slc_at h hi
 refine ⟨g, o, hA, hg, fun k hk => ?_⟩
 have h1 := hc k xs[k] (List.getElem?_eq_getElem hk)
 obtain ⟨u0, e0, q0⟩ := h1 0 (by decide)
 obtain ⟨u1, e1, q1⟩ := h1 1 (by decide)
 have q : corAt xs k = xs[k] := by unfold corAt; rw [List.getElem?_eq_getElem hk]; rfl
 rw [q]
 simp only [encCor] at e0 e1 q0 q1
 subst q0 q1
 exact ⟨by simpa using e0, by simpa using e1⟩
theorem int_at {w : World} {A : Option Addr} {n c : Nat} {xs : List Int} (h : SlcAt encInt w (.slice A n c) xs) {i : Nat} (hi : i < xs.length) :
 ∃ g o, A = some ⟨g, o, none⟩ ∧ w.Has g ∧ ∀ k, k < xs.length → w.cell? ⟨g, o + k, none⟩ = some (.int .i64 (intAt xs k)) := by
 obtain ⟨g, o, hA, hg, hc⟩ := slc_at h hi
 refine ⟨g, o, hA, hg, fun k hk => ?_⟩
 have h1 := hc k xs[k] (List.getElem?_eq_getElem hk)
 obtain ⟨u0, e0, q0⟩ := h1 0 (by decide)
 have q : intAt xs k = xs[k] := by unfold intAt; rw [List.getElem?_eq_getElem hk]; rfl
 rw [q]
 simp only [encInt] at e0 q0
 subst q0
 simpa using e0
theorem wal_at {w : World} {A : Option Addr} {n c : Nat} {xs : List Wal} (h : SlcAt encWal w (.slice A n c) xs) {i : Nat} (hi : i < xs.length) :
 ∃ g o, A = some ⟨g, o, none⟩ ∧ w.Has g ∧ ∀ k, k < xs.length → w.cell? ⟨g, o + k * 3, none⟩ = some (.string (walAt xs k).name) ∧ w.cell? ⟨g, o + k * 3 + 1, none⟩ = some (.string (walAt xs k).mat) ∧ w.cell? ⟨g, o + k * 3 + 2, none⟩ = some (.string (walAt xs k).cur) := by
 obtain ⟨g, o, hA, hg, hc⟩ := slc_at h hi
 refine ⟨g, o, hA, hg, fun k hk => ?_⟩
 have h1 := hc k xs[k] (List.getElem?_eq_getElem hk)
 obtain ⟨u0, e0, q0⟩ := h1 0 (by decide)
 obtain ⟨u1, e1, q1⟩ := h1 1 (by decide)
 obtain ⟨u2, e2, q2⟩ := h1 2 (by decide)
 have q : walAt xs k = xs[k] := by unfold walAt; rw [List.getElem?_eq_getElem hk]; rfl
 rw [q]
 simp only [encWal] at e0 e1 e2 q0 q1 q2
 subst q0 q1 q2
 exact ⟨by simpa using e0, by simpa using e1, by simpa using e2⟩
theorem mat_at {w : World} {A : Option Addr} {n c : Nat} {xs : List Mat} (h : SlcAt encMat w (.slice A n c) xs) {i : Nat} (hi : i < xs.length) :
 ∃ g o, A = some ⟨g, o, none⟩ ∧ w.Has g ∧ ∀ k, k < xs.length → w.cell? ⟨g, o + k * 6, none⟩ = some (.string (matAt xs k).name) ∧ w.cell? ⟨g, o + k * 6 + 1, none⟩ = some (.int .i64 (matAt xs k).a0) ∧ w.cell? ⟨g, o + k * 6 + 2, none⟩ = some (.int .i64 (matAt xs k).a1) ∧
  w.cell? ⟨g, o + k * 6 + 3, none⟩ = some (.int .i64 (matAt xs k).a2) ∧ w.cell? ⟨g, o + k * 6 + 4, none⟩ = some (.int .i64 (matAt xs k).a3) ∧ w.cell? ⟨g, o + k * 6 + 5, none⟩ = some (.int .i64 (matAt xs k).scat) := by
 obtain ⟨g, o, hA, hg, hc⟩ := slc_at h hi
 refine ⟨g, o, hA, hg, fun k hk => ?_⟩
 have h1 := hc k xs[k] (List.getElem?_eq_getElem hk)
 obtain ⟨u0, e0, q0⟩ := h1 0 (by decide)
 obtain ⟨u1, e1, q1⟩ := h1 1 (by decide)
 obtain ⟨u2, e2, q2⟩ := h1 2 (by decide)
 obtain ⟨u3, e3, q3⟩ := h1 3 (by decide)
 obtain ⟨u4, e4, q4⟩ := h1 4 (by decide)
 obtain ⟨u5, e5, q5⟩ := h1 5 (by decide)
 have q : matAt xs k = xs[k] := by unfold matAt; rw [List.getElem?_eq_getElem hk]; rfl
 rw [q]
 simp only [encMat] at e0 e1 e2 e3 e4 e5 q0 q1 q2 q3 q4 q5
 subst q0 q1 q2 q3 q4 q5
 exact ⟨by simpa using e0, by simpa using e1, by simpa using e2, by simpa using e3, by simpa using e4, by simpa using e5⟩
theorem sea_at {w : World} {A : Option Addr} {n c : Nat} {xs : List Sea} (h : SlcAt encSea w (.slice A n c) xs) {i : Nat} (hi : i < xs.length) :
 ∃ g o, A = some ⟨g, o, none⟩ ∧ w.Has g ∧ ∀ k, k < xs.length → w.cell? ⟨g, o + k * 4, none⟩ = some (.string (seaAt xs k).name) ∧ w.cell? ⟨g, o + k * 4 + 1, none⟩ = some (.int .i64 (seaAt xs k).x) ∧ w.cell? ⟨g, o + k * 4 + 2, none⟩ = some (.int .i64 (seaAt xs k).y) ∧
  w.cell? ⟨g, o + k * 4 + 3, none⟩ = some (.int .i64 (seaAt xs k).z) := by
 obtain ⟨g, o, hA, hg, hc⟩ := slc_at h hi
 refine ⟨g, o, hA, hg, fun k hk => ?_⟩
 have h1 := hc k xs[k] (List.getElem?_eq_getElem hk)
 obtain ⟨u0, e0, q0⟩ := h1 0 (by decide)
 obtain ⟨u1, e1, q1⟩ := h1 1 (by decide)
 obtain ⟨u2, e2, q2⟩ := h1 2 (by decide)
 obtain ⟨u3, e3, q3⟩ := h1 3 (by decide)
 have q : seaAt xs k = xs[k] := by unfold seaAt; rw [List.getElem?_eq_getElem hk]; rfl
 rw [q]
 simp only [encSea] at e0 e1 e2 e3 q0 q1 q2 q3
 subst q0 q1 q2 q3
 exact ⟨by simpa using e0, by simpa using e1, by simpa using e2, by simpa using e3⟩
theorem can_at {w : World} {A : Option Addr} {n c : Nat} {xs : List Can} (h : SlcAt encCan w (.slice A n c) xs) {i : Nat} (hi : i < xs.length) :
 ∃ g o, A = some ⟨g, o, none⟩ ∧ w.Has g ∧ ∀ k, k < xs.length → w.cell? ⟨g, o + k * 7, none⟩ = some (.string (canAt xs k).name) ∧ w.cell? ⟨g, o + k * 7 + 1, none⟩ = some (.string (canAt xs k).mat) ∧ w.cell? ⟨g, o + k * 7 + 2, none⟩ = some (.int .i64 (canAt xs k).f.x) ∧
  w.cell? ⟨g, o + k * 7 + 3, none⟩ = some (.int .i64 (canAt xs k).f.y) ∧ w.cell? ⟨g, o + k * 7 + 4, none⟩ = some (.int .i64 (canAt xs k).t.x) ∧ w.cell? ⟨g, o + k * 7 + 5, none⟩ = some (.int .i64 (canAt xs k).t.y) ∧
  ∃ A' c', w.cell? ⟨g, o + k * 7 + 6, none⟩ = some (.slice A' (canAt xs k).hs.length c') ∧ SlcAt encInt w (.slice A' (canAt xs k).hs.length c') (canAt xs k).hs := by
 obtain ⟨g, o, hA, hg, hc⟩ := slc_at h hi
 refine ⟨g, o, hA, hg, fun k hk => ?_⟩
 have h1 := hc k xs[k] (List.getElem?_eq_getElem hk)
 obtain ⟨u0, e0, q0⟩ := h1 0 (by decide)
 obtain ⟨u1, e1, q1⟩ := h1 1 (by decide)
 obtain ⟨u2, e2, q2⟩ := h1 2 (by decide)
 obtain ⟨u3, e3, q3⟩ := h1 3 (by decide)
 obtain ⟨u4, e4, q4⟩ := h1 4 (by decide)
 obtain ⟨u5, e5, q5⟩ := h1 5 (by decide)
 obtain ⟨u6, e6, q6⟩ := h1 6 (by decide)
 have q : canAt xs k = xs[k] := by unfold canAt; rw [List.getElem?_eq_getElem hk]; rfl
 rw [q]
 simp [encCan] at e0 e1 e2 e3 e4 e5 e6 q0 q1 q2 q3 q4 q5 q6
 subst q0 q1 q2 q3 q4 q5
 obtain ⟨A', c', rfl, hs⟩ := slc_form q6
 exact ⟨by simpa using e0, by simpa using e1, by simpa using e2, by simpa using e3, by simpa using e4, by simpa using e5, A', c', by simpa using e6, hs⟩

end Go.Proofs.YtekieoamelahkaaGreat

/- A list of 68 values, written out. -/
namespace Go.Proofs.YtekieoamelahkaaGreat
open Go.RowKit
theorem list68 {l : List Value} (h : l.length = 68) : ∃ v0 v1 v2 v3 v4 v5 v6 v7 v8 v9 v10 v11 v12 v13 v14 v15 v16 v17 v18 v19 v20 v21 v22 v23 v24 v25 v26 v27 v28 v29 v30 v31 v32 v33 v34 v35 v36 v37 v38 v39 v40 v41 v42 v43 v44 v45 v46 v47 v48 v49 v50 v51 v52 v53 v54 v55 v56 v57 v58 v59 v60 v61 v62 v63 v64 v65 v66 v67 : Value, l = v0 :: v1 :: v2 :: v3 :: v4 :: v5 :: v6 :: v7 :: v8 :: v9 :: v10 :: v11 :: v12 :: v13 :: v14 :: v15 :: v16 :: v17 :: v18 :: v19 :: v20 :: v21 :: v22 :: v23 :: v24 :: v25 :: v26 :: v27 :: v28 :: v29 :: v30 :: v31 :: v32 :: v33 :: v34 :: v35 :: v36 :: v37 :: v38 :: v39 :: v40 :: v41 :: v42 :: v43 :: v44 :: v45 :: v46 :: v47 :: v48 :: v49 :: v50 :: v51 :: v52 :: v53 :: v54 :: v55 :: v56 :: v57 :: v58 :: v59 :: v60 :: v61 :: v62 :: v63 :: v64 :: v65 :: v66 :: v67 :: [] := by
 obtain _ | ⟨v0, l⟩ := l
 · exact absurd h (by decide)
 replace h := Nat.succ.inj h
 obtain _ | ⟨v1, l⟩ := l
 · exact absurd h (by decide)
 replace h := Nat.succ.inj h
 obtain _ | ⟨v2, l⟩ := l
 · exact absurd h (by decide)
 replace h := Nat.succ.inj h
 obtain _ | ⟨v3, l⟩ := l
 · exact absurd h (by decide)
 replace h := Nat.succ.inj h
 obtain _ | ⟨v4, l⟩ := l
 · exact absurd h (by decide)
 replace h := Nat.succ.inj h
 obtain _ | ⟨v5, l⟩ := l
 · exact absurd h (by decide)
 replace h := Nat.succ.inj h
 obtain _ | ⟨v6, l⟩ := l
 · exact absurd h (by decide)
 replace h := Nat.succ.inj h
 obtain _ | ⟨v7, l⟩ := l
 · exact absurd h (by decide)
 replace h := Nat.succ.inj h
 obtain _ | ⟨v8, l⟩ := l
 · exact absurd h (by decide)
 replace h := Nat.succ.inj h
 obtain _ | ⟨v9, l⟩ := l
 · exact absurd h (by decide)
 replace h := Nat.succ.inj h
 obtain _ | ⟨v10, l⟩ := l
 · exact absurd h (by decide)
 replace h := Nat.succ.inj h
 obtain _ | ⟨v11, l⟩ := l
 · exact absurd h (by decide)
 replace h := Nat.succ.inj h
 obtain _ | ⟨v12, l⟩ := l
 · exact absurd h (by decide)
 replace h := Nat.succ.inj h
 obtain _ | ⟨v13, l⟩ := l
 · exact absurd h (by decide)
 replace h := Nat.succ.inj h
 obtain _ | ⟨v14, l⟩ := l
 · exact absurd h (by decide)
 replace h := Nat.succ.inj h
 obtain _ | ⟨v15, l⟩ := l
 · exact absurd h (by decide)
 replace h := Nat.succ.inj h
 obtain _ | ⟨v16, l⟩ := l
 · exact absurd h (by decide)
 replace h := Nat.succ.inj h
 obtain _ | ⟨v17, l⟩ := l
 · exact absurd h (by decide)
 replace h := Nat.succ.inj h
 obtain _ | ⟨v18, l⟩ := l
 · exact absurd h (by decide)
 replace h := Nat.succ.inj h
 obtain _ | ⟨v19, l⟩ := l
 · exact absurd h (by decide)
 replace h := Nat.succ.inj h
 obtain _ | ⟨v20, l⟩ := l
 · exact absurd h (by decide)
 replace h := Nat.succ.inj h
 obtain _ | ⟨v21, l⟩ := l
 · exact absurd h (by decide)
 replace h := Nat.succ.inj h
 obtain _ | ⟨v22, l⟩ := l
 · exact absurd h (by decide)
 replace h := Nat.succ.inj h
 obtain _ | ⟨v23, l⟩ := l
 · exact absurd h (by decide)
 replace h := Nat.succ.inj h
 obtain _ | ⟨v24, l⟩ := l
 · exact absurd h (by decide)
 replace h := Nat.succ.inj h
 obtain _ | ⟨v25, l⟩ := l
 · exact absurd h (by decide)
 replace h := Nat.succ.inj h
 obtain _ | ⟨v26, l⟩ := l
 · exact absurd h (by decide)
 replace h := Nat.succ.inj h
 obtain _ | ⟨v27, l⟩ := l
 · exact absurd h (by decide)
 replace h := Nat.succ.inj h
 obtain _ | ⟨v28, l⟩ := l
 · exact absurd h (by decide)
 replace h := Nat.succ.inj h
 obtain _ | ⟨v29, l⟩ := l
 · exact absurd h (by decide)
 replace h := Nat.succ.inj h
 obtain _ | ⟨v30, l⟩ := l
 · exact absurd h (by decide)
 replace h := Nat.succ.inj h
 obtain _ | ⟨v31, l⟩ := l
 · exact absurd h (by decide)
 replace h := Nat.succ.inj h
 obtain _ | ⟨v32, l⟩ := l
 · exact absurd h (by decide)
 replace h := Nat.succ.inj h
 obtain _ | ⟨v33, l⟩ := l
 · exact absurd h (by decide)
 replace h := Nat.succ.inj h
 obtain _ | ⟨v34, l⟩ := l
 · exact absurd h (by decide)
 replace h := Nat.succ.inj h
 obtain _ | ⟨v35, l⟩ := l
 · exact absurd h (by decide)
 replace h := Nat.succ.inj h
 obtain _ | ⟨v36, l⟩ := l
 · exact absurd h (by decide)
 replace h := Nat.succ.inj h
 obtain _ | ⟨v37, l⟩ := l
 · exact absurd h (by decide)
 replace h := Nat.succ.inj h
 obtain _ | ⟨v38, l⟩ := l
 · exact absurd h (by decide)
 replace h := Nat.succ.inj h
 obtain _ | ⟨v39, l⟩ := l
 · exact absurd h (by decide)
 replace h := Nat.succ.inj h
 obtain _ | ⟨v40, l⟩ := l
 · exact absurd h (by decide)
 replace h := Nat.succ.inj h
 obtain _ | ⟨v41, l⟩ := l
 · exact absurd h (by decide)
 replace h := Nat.succ.inj h
 obtain _ | ⟨v42, l⟩ := l
 · exact absurd h (by decide)
 replace h := Nat.succ.inj h
 obtain _ | ⟨v43, l⟩ := l
 · exact absurd h (by decide)
 replace h := Nat.succ.inj h
 obtain _ | ⟨v44, l⟩ := l
 · exact absurd h (by decide)
 replace h := Nat.succ.inj h
 obtain _ | ⟨v45, l⟩ := l
 · exact absurd h (by decide)
 replace h := Nat.succ.inj h
 obtain _ | ⟨v46, l⟩ := l
 · exact absurd h (by decide)
 replace h := Nat.succ.inj h
 obtain _ | ⟨v47, l⟩ := l
 · exact absurd h (by decide)
 replace h := Nat.succ.inj h
 obtain _ | ⟨v48, l⟩ := l
 · exact absurd h (by decide)
 replace h := Nat.succ.inj h
 obtain _ | ⟨v49, l⟩ := l
 · exact absurd h (by decide)
 replace h := Nat.succ.inj h
 obtain _ | ⟨v50, l⟩ := l
 · exact absurd h (by decide)
 replace h := Nat.succ.inj h
 obtain _ | ⟨v51, l⟩ := l
 · exact absurd h (by decide)
 replace h := Nat.succ.inj h
 obtain _ | ⟨v52, l⟩ := l
 · exact absurd h (by decide)
 replace h := Nat.succ.inj h
 obtain _ | ⟨v53, l⟩ := l
 · exact absurd h (by decide)
 replace h := Nat.succ.inj h
 obtain _ | ⟨v54, l⟩ := l
 · exact absurd h (by decide)
 replace h := Nat.succ.inj h
 obtain _ | ⟨v55, l⟩ := l
 · exact absurd h (by decide)
 replace h := Nat.succ.inj h
 obtain _ | ⟨v56, l⟩ := l
 · exact absurd h (by decide)
 replace h := Nat.succ.inj h
 obtain _ | ⟨v57, l⟩ := l
 · exact absurd h (by decide)
 replace h := Nat.succ.inj h
 obtain _ | ⟨v58, l⟩ := l
 · exact absurd h (by decide)
 replace h := Nat.succ.inj h
 obtain _ | ⟨v59, l⟩ := l
 · exact absurd h (by decide)
 replace h := Nat.succ.inj h
 obtain _ | ⟨v60, l⟩ := l
 · exact absurd h (by decide)
 replace h := Nat.succ.inj h
 obtain _ | ⟨v61, l⟩ := l
 · exact absurd h (by decide)
 replace h := Nat.succ.inj h
 obtain _ | ⟨v62, l⟩ := l
 · exact absurd h (by decide)
 replace h := Nat.succ.inj h
 obtain _ | ⟨v63, l⟩ := l
 · exact absurd h (by decide)
 replace h := Nat.succ.inj h
 obtain _ | ⟨v64, l⟩ := l
 · exact absurd h (by decide)
 replace h := Nat.succ.inj h
 obtain _ | ⟨v65, l⟩ := l
 · exact absurd h (by decide)
 replace h := Nat.succ.inj h
 obtain _ | ⟨v66, l⟩ := l
 · exact absurd h (by decide)
 replace h := Nat.succ.inj h
 obtain _ | ⟨v67, l⟩ := l
 · exact absurd h (by decide)
 replace h := Nat.succ.inj h
 obtain _ | ⟨v, l⟩ := l
 · exact ⟨_, _, _, _, _, _, _, _, _, _, _, _, _, _, _, _, _, _, _, _, _, _, _, _, _, _, _, _, _, _, _, _, _, _, _, _, _, _, _, _, _, _, _, _, _, _, _, _, _, _, _, _, _, _, _, _, _, _, _, _, _, _, _, _, _, _, _, _, rfl⟩
 · exact absurd h (by simp)
end Go.Proofs.YtekieoamelahkaaGreat
