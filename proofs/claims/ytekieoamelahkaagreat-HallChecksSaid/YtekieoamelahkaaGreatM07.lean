/- A set of names, kept in a map from texts to true. -/
import Derived.Test.YtekieoamelahkaaGreatM06
import Derived.Test.YtekieoamelahkaaGreatM01
import Derived.MapKept
set_option linter.unusedVariables false
set_option linter.unusedSimpArgs false
namespace Go.Proofs.YtekieoamelahkaaGreat
open Go.RowKit Go.MapKept

def hasName (ns : List ByteArray) (k : ByteArray) : Bool := ns.any (fun n => k == n)
def pairOf (e : MapEntry) : Value × Value := (e.key, e.val)
def setPair (n : ByteArray) : Value × Value := (.string n, .bool true)
def SetAt (w : World) (b : Nat) (ns : List ByteArray) : Prop := ∃ es clock, w.heap[b]? = some (.map es clock) ∧ es.toList.map pairOf = ns.map setPair

theorem findNow_set : ∀ (l : List MapEntry) (ns : List ByteArray) (k : ByteArray) (i : Nat), l.map pairOf = ns.map setPair →
 (hasName ns k = false → Instr.findNow .string (.string k) l i = some none) ∧ (hasName ns k = true → ∃ j, Instr.findNow .string (.string k) l i = some (some (j, .bool true)))
 | [], [], k, i, _ => by simp [hasName, Instr.findNow]
 | [], n :: ns, k, i, h => by simp at h
 | e :: l, [], k, i, h => by simp at h
 | e :: l, n :: ns, k, i, h => by
  simp only [List.map_cons, List.cons.injEq, pairOf, setPair, Prod.mk.injEq] at h
  obtain ⟨⟨hk, hv⟩, hl⟩ := h
  obtain ⟨h0, h1⟩ := findNow_set l ns k (i + 1) hl
  have hc : hasName (n :: ns) k = (k == n || hasName ns k) := rfl
  rw [hc]
  simp only [Instr.findNow, hk, Instr.sameNow]
  cases hkn : (k == n)
  · simp only [Bool.false_or]
    exact ⟨h0, h1⟩
  · simp [hv]

theorem run_checkKey_text {P : Program} {w : World} {kt : TypeId} {em : Bool} {k : ByteArray} (hd : P.underlying kt = some .string) : (Instr.checkKey em 10000 kt (.string k)).run P w = .ok () w :=
 MapKept.run_checkKey hd (by simp [IsKey]) em 9999

theorem SetAt.look {P : Program} {w : World} {b : Nat} {ns : List ByteArray} (h : SetAt w b ns) {t kt et : TypeId} (hm : P.underlying t = some (.map kt et)) (hd : P.underlying kt = some .string) (hz : (zeroValue et).run P w = .ok (.bool false) w) (k : ByteArray) :
 (Instr.lookup t (.map (some b)) (.string k) false).run P w = .ok (.bool (hasName ns k)) w := by
 obtain ⟨es, clock, hb, hp⟩ := h
 obtain ⟨h0, h1⟩ := findNow_set es.toList ns k 0 hp
 unfold Instr.lookup
 cases hh : hasName ns k with
 | false =>
  have hf := MapKept.run_findKey (P := P) (w := w) hd (h0 hh)
  simp [run_underlying hm, MapKept.run_getObj_map hb, run_checkKey_text hd, hf, hz, Result.andThen]
 | true =>
  obtain ⟨j, hj⟩ := h1 hh
  have hf := MapKept.run_findKey (P := P) (w := w) hd hj
  simp [run_underlying hm, MapKept.run_getObj_map hb, run_checkKey_text hd, hf, Result.andThen]

def putMap (w : World) (b : Nat) (k : ByteArray) : Obj :=
 match w.heap[b]? with
 | some (.map es clock) => .map (es.push { key := .string k, val := .bool true, born := clock }) (clock + 1)
 | _ => .map #[] 0
theorem putMap_map (w : World) (b : Nat) (k : ByteArray) : ∃ es clock, putMap w b k = .map es clock := by
 unfold putMap
 split
 · exact ⟨_, _, rfl⟩
 · exact ⟨_, _, rfl⟩
theorem SetAt.run_put {P : Program} {w : World} {b : Nat} {ns : List ByteArray} (h : SetAt w b ns) {t kt et : TypeId} (hm : P.underlying t = some (.map kt et)) (hd : P.underlying kt = some .string) {k : ByteArray} (hk : hasName ns k = false) :
 (Instr.mapUpdate t (.map (some b)) (.string k) (.bool true)).run P w = .ok () (w.putObj b (putMap w b k)) := by
 obtain ⟨es, clock, hb, hp⟩ := h
 have hf := MapKept.run_findKey (P := P) (w := w) hd ((findNow_set es.toList ns k 0 hp).1 hk)
 unfold Instr.mapUpdate putMap
 simp [run_underlying hm, MapKept.run_getObj_map hb, run_checkKey_text hd, hf, MapKept.run_setObj_map _ hb, World.putObj, hb, Result.andThen]
theorem SetAt.put {w : World} {b : Nat} {ns : List ByteArray} (h : SetAt w b ns) (k : ByteArray) : SetAt (w.putObj b (putMap w b k)) b (ns ++ [k]) := by
 obtain ⟨es, clock, hb, hp⟩ := h
 refine ⟨es.push { key := .string k, val := .bool true, born := clock }, clock + 1, ?_, by simp [hp, pairOf, setPair]⟩
 rw [World.putObj_heap_same (Array.getElem?_eq_some_iff.1 hb).1]
 unfold putMap
 rw [hb]
theorem SetAt.other {w : World} {b c : Nat} {ns : List ByteArray} (h : SetAt w b ns) (hne : b ≠ c) (o : Obj) : SetAt (w.putObj c o) b ns := by
 obtain ⟨es, clock, hb, hp⟩ := h
 exact ⟨es, clock, (World.putObj_heap_other hne).trans hb, hp⟩
theorem SetAt.has {w : World} {b : Nat} {ns : List ByteArray} (h : SetAt w b ns) : w.Has b := by
 obtain ⟨es, clock, hb, hp⟩ := h
 exact (Array.getElem?_eq_some_iff.1 hb).1
theorem SetAt.ne {w : World} {b n i : Nat} {v : Value} {ns : List ByteArray} (h : SetAt w b ns) (hc : w.cell? ⟨n, i, none⟩ = some v) : n ≠ b := fun e => by
 obtain ⟨es, c, hm, _⟩ := h
 subst e
 unfold World.cell? at hc
 rw [hm] at hc
 cases hc
theorem SetAt.of_block {w w' : World} {b : Nat} {ns : List ByteArray} (h : SetAt w b ns) (hb : w'.heap[b]? = w.heap[b]?) : SetAt w' b ns := by
 obtain ⟨es, clock, h1, hp⟩ := h
 exact ⟨es, clock, hb.trans h1, hp⟩

structure Touch (bs : List Nat) (w w' : World) : Prop where
 os : w'.os = w.os
 tape : w'.tape = w.tape
 output : w'.output = w.output
 size : w.heap.size ≤ w'.heap.size
 block : ∀ k, k < w.heap.size → k ∉ bs → w'.heap[k]? = w.heap[k]?
 was : ∀ b ∈ bs, ∃ es c, w.heap[b]? = some (.map es c)
 now : ∀ b ∈ bs, ∃ es c, w'.heap[b]? = some (.map es c)

theorem Touch.of_below {bs : List Nat} {w w' : World} (h : Below w.heap.size w w') (hm : ∀ b ∈ bs, ∃ es c, w.heap[b]? = some (.map es c)) : Touch bs w w' :=
 ⟨h.os, h.tape, h.output, h.size, fun k hk _ => h.block k hk, hm, fun b hb => by
  obtain ⟨es, c, hbb⟩ := hm b hb
  exact ⟨es, c, (h.block b (Array.getElem?_eq_some_iff.1 hbb).1).trans hbb⟩⟩
theorem Touch.sim {bs : List Nat} {w W W' : World} (h : Touch bs w W) (s : Sim w.heap.size W W') : Touch bs w W' :=
 ⟨s.os.trans h.os, s.tape.trans h.tape, s.output.trans h.output, Nat.le_trans h.size s.size, fun k hk hn => by
  have hl : k < W.heap.size := Nat.lt_of_lt_of_le hk h.size
  rw [← h.block k hk hn, Array.getElem?_eq_getElem hl]
  exact s.same k _ (Array.getElem?_eq_getElem hl) (.inr hk), h.was, fun b hb => by
  obtain ⟨es, c, hw⟩ := h.was b hb
  obtain ⟨es', c', hx⟩ := h.now b hb
  exact ⟨es', c', s.same b _ hx (.inr (Array.getElem?_eq_some_iff.1 hw).1)⟩⟩
theorem Touch.ext {bs : List Nat} {w W : World} (h : Touch bs w W) (x : Ext) : Touch bs w (W.ext x) := h.sim (Sim.ext _ _ _)
theorem Touch.trans {bs : List Nat} {a b c : World} (h : Touch bs a b) (k : Touch bs b c) : Touch bs a c :=
 ⟨k.os.trans h.os, k.tape.trans h.tape, k.output.trans h.output, Nat.le_trans h.size k.size, fun i hi hn => (k.block i (Nat.lt_of_lt_of_le hi h.size) hn).trans (h.block i hi hn), h.was, k.now⟩
theorem Touch.kept {bs : List Nat} {w w' : World} (h : Touch bs w w') : Kept w w' :=
 ⟨fun {p v} hc => by
  have hl := has_cell hc
  by_cases hp : p.block ∈ bs
  · obtain ⟨es, c, hm⟩ := h.was _ hp
    unfold World.cell? at hc
    rw [hm] at hc
    cases hc
  · exact (World.cell?_of_block (a := p) (h.block _ hl hp)).trans hc, h.size⟩
theorem Touch.below {bs : List Nat} {D : Nat} {w w' : World} (h : Touch bs w w') (hD : D ≤ w.heap.size) (hb : ∀ b ∈ bs, D ≤ b) : Below D w w' :=
 ⟨h.os, h.tape, h.output, h.size, fun k hk => h.block k (by omega) (fun hm => absurd (hb k hm) (by omega))⟩
theorem Touch.step {bs : List Nat} {w W W' : World} (h : Touch bs w W) (b : Below w.heap.size W W') : Touch bs w W' :=
 ⟨b.os.trans h.os, b.tape.trans h.tape, b.output.trans h.output, Nat.le_trans h.size b.size, fun k hk hn => (b.block k hk).trans (h.block k hk hn), h.was, fun c hc => by
  obtain ⟨es, cl, hw⟩ := h.was c hc
  obtain ⟨es', cl', hx⟩ := h.now c hc
  exact ⟨es', cl', (b.block c (Array.getElem?_eq_some_iff.1 hw).1).trans hx⟩⟩
theorem Touch.not_map {bs : List Nat} {w w' : World} (h : Touch bs w w') {n i : Nat} {v : Value} (hc : w.cell? ⟨n, i, none⟩ = some v) : n ∉ bs := fun hn => by
 obtain ⟨es, c, hm⟩ := h.was _ hn
 unfold World.cell? at hc
 rw [hm] at hc
 cases hc
theorem Touch.frozen {bs : List Nat} {w w' : World} (h : Touch bs w w') {n i : Nat} {v : Value} (hc : w.cell? ⟨n, i, none⟩ = some v) (hf : w.frozen? ⟨n, i, none⟩ = false) : w'.frozen? ⟨n, i, none⟩ = false :=
 (World.frozen?_of_block (w := w) (h.block n (has_cell hc) (h.not_map hc))).trans hf
theorem Touch.put {bs : List Nat} {w : World} {b : Nat} {o : Obj} (hb : b ∈ bs) (ho : ∃ es clock, o = .map es clock) (hm : ∀ b ∈ bs, ∃ es c, w.heap[b]? = some (.map es c)) : Touch bs w (w.putObj b o) := by
 refine ⟨rfl, rfl, rfl, by simp, fun k hk hn => World.putObj_heap_other (fun e => hn (e ▸ hb)), hm, fun c hc => ?_⟩
 by_cases e : c = b
 · subst e
   obtain ⟨es, cl, rfl⟩ := ho
   obtain ⟨_, _, hx⟩ := hm c hc
   exact ⟨es, cl, World.putObj_heap_same (Array.getElem?_eq_some_iff.1 hx).1⟩
 · obtain ⟨es, cl, hx⟩ := hm c hc
   exact ⟨es, cl, (World.putObj_heap_other e).trans hx⟩
theorem SetAt.sim {B : Nat} {W W' : World} {b : Nat} {ns : List ByteArray} (h : SetAt W b ns) (s : Sim B W W') (hb : b < B) : SetAt W' b ns := by
 obtain ⟨es, c, hbb, hp⟩ := h
 exact ⟨es, c, s.same b _ hbb (.inr hb), hp⟩
theorem SetAt.below {w w' : World} {b : Nat} {ns : List ByteArray} (h : SetAt w b ns) (hb : Below w.heap.size w w') : SetAt w' b ns := by
 obtain ⟨es, c, hbb, hp⟩ := h
 exact ⟨es, c, (hb.block b (Array.getElem?_eq_some_iff.1 hbb).1).trans hbb, hp⟩
theorem SetAt.touch {bs : List Nat} {w w' : World} {b : Nat} {ns : List ByteArray} (h : SetAt w b ns) (hb : Touch bs w w') (hn : b ∉ bs) : SetAt w' b ns := by
 obtain ⟨es, c, hbb, hp⟩ := h
 exact ⟨es, c, (hb.block b (Array.getElem?_eq_some_iff.1 hbb).1 hn).trans hbb, hp⟩
theorem SetAt.map {w : World} {b : Nat} {ns : List ByteArray} (h : SetAt w b ns) : ∃ es c, w.heap[b]? = some (.map es c) := by
 obtain ⟨es, c, hbb, _⟩ := h
 exact ⟨es, c, hbb⟩

/-! ### for the walk -/
theorem SetAt_ext {w : World} {b : Nat} {ns : List ByteArray} (x : Ext) (h : w.Has b) : SetAt (w.ext x) b ns = SetAt w b ns := by
 unfold SetAt; rw [World.ext_heap_lt w x b h]
theorem SetAt_alloc {w : World} {b : Nat} {ns : List ByteArray} (o : Obj) (h : w.Has b) : SetAt (w.alloc o) b ns = SetAt w b ns := by
 unfold SetAt; rw [Below.heap_alloc w o b h]
theorem SetAt_hole {w : World} {b r : Nat} {ns : List ByteArray} (x : Hol) (h : w.Has b) (hr : b ≠ r) : SetAt (w.hole r x) b ns = SetAt w b ns := by
 unfold SetAt; rw [World.hole_block w r x b h hr]
theorem SetAt_drew {w : World} {b : Nat} {ns : List ByteArray} : SetAt w.drew b ns = SetAt w b ns := rfl
theorem SetAt_drewN {w : World} {b n : Nat} {ns : List ByteArray} : SetAt (w.drewN n) b ns = SetAt w b ns := rfl
attribute [simp, go_sem] SetAt_ext SetAt_alloc SetAt_hole SetAt_drew SetAt_drewN
theorem HoleRel.putObj {B r : Nat} {a w : World} (h : HoleRel B r a w) {l : Nat} (hp : l = r ∨ B ≤ l) (o : Obj) : HoleRel B r a (w.putObj l o) :=
 h.trans ⟨rfl, rfl, rfl, by simp, fun k hk hr => World.putObj_heap_other (by rcases hp with hp | hp <;> omega)⟩

structure Names (w : World) (M F T : Nat) (ms fs ts : List ByteArray) : Prop where
 m : SetAt w M ms
 f : SetAt w F fs
 t : SetAt w T ts
 mf : M ≠ F
 mt : M ≠ T
 ft : F ≠ T
variable {w w' : World} {M F T : Nat} {ms fs ts : List ByteArray}
theorem Names.maps (h : Names w M F T ms fs ts) : ∀ b ∈ [M, F, T], ∃ es c, w.heap[b]? = some (.map es c) := by
 intro b hb
 simp only [List.mem_cons, List.not_mem_nil, or_false] at hb
 rcases hb with rfl | rfl | rfl
 · exact h.m.map
 · exact h.f.map
 · exact h.t.map
theorem Names.below (h : Names w M F T ms fs ts) (hb : Below w.heap.size w w') : Names w' M F T ms fs ts := ⟨h.m.below hb, h.f.below hb, h.t.below hb, h.mf, h.mt, h.ft⟩
theorem Names.belowD {D : Nat} (h : Names w M F T ms fs ts) (hb : Below D w w') (hm : M < D) (hf : F < D) (ht : T < D) : Names w' M F T ms fs ts :=
 ⟨h.m.of_block (hb.block _ hm), h.f.of_block (hb.block _ hf), h.t.of_block (hb.block _ ht), h.mf, h.mt, h.ft⟩
theorem Names.touch (h : Names w M F T ms fs ts) (hb : Below w.heap.size w w') : Touch [M, F, T] w w' := .of_below hb h.maps
theorem Names.addM (h : Names w M F T ms fs ts) (k : ByteArray) : Names (w.putObj M (putMap w M k)) M F T (ms ++ [k]) fs ts := ⟨h.m.put k, h.f.other h.mf.symm _, h.t.other h.mt.symm _, h.mf, h.mt, h.ft⟩
theorem Names.addF (h : Names w M F T ms fs ts) (k : ByteArray) : Names (w.putObj F (putMap w F k)) M F T ms (fs ++ [k]) ts := ⟨h.m.other h.mf _, h.f.put k, h.t.other h.ft.symm _, h.mf, h.mt, h.ft⟩
theorem Names.addT (h : Names w M F T ms fs ts) (k : ByteArray) : Names (w.putObj T (putMap w T k)) M F T ms fs (ts ++ [k]) := ⟨h.m.other h.mt _, h.f.other h.ft _, h.t.put k, h.mf, h.mt, h.ft⟩
theorem Names.touchPut (h : Names w M F T ms fs ts) {b : Nat} (hb : b ∈ [M, F, T]) (k : ByteArray) : Touch [M, F, T] w (w.putObj b (putMap w b k)) := .put hb (putMap_map _ _ _) h.maps
theorem Names.sim {B : Nat} (h : Names w M F T ms fs ts) (s : Sim B w w') (hm : M < B) (hf : F < B) (ht : T < B) : Names w' M F T ms fs ts := ⟨h.m.sim s hm, h.f.sim s hf, h.t.sim s ht, h.mf, h.mt, h.ft⟩

structure SurAt (w : World) (b : Nat) (H : Hal) (M F T : Nat) : Prop where
 room : Room w b H ⟨[], []⟩
 m : w.cell? ⟨b, 11, none⟩ = some (.map (some M))
 f : w.cell? ⟨b, 12, none⟩ = some (.map (some F))
 t : w.cell? ⟨b, 13, none⟩ = some (.map (some T))
theorem SurAt.kept {b : Nat} {H : Hal} (h : SurAt w b H M F T) (k : Kept w w') : SurAt w' b H M F T := ⟨h.room.kept k, k.cell h.m, k.cell h.f, k.cell h.t⟩
theorem SurAt.below {b : Nat} {H : Hal} (h : SurAt w b H M F T) (hb : Below w.heap.size w w') : SurAt w' b H M F T := h.kept (.of_below hb)
def faultV (l n e : Int) : Value := .agg #[.int .i64 l, .int .i64 n, .int .i64 e]
end Go.Proofs.YtekieoamelahkaaGreat
