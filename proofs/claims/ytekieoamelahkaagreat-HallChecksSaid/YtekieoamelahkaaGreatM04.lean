/- A range over an iterator that yields a known number of values and only reads and makes memory; the iterator may be a method's value (a receiver bound ahead). (No program.) -/
import Derived.Test.YtekieoamelahkaaGreatM03
import Derived.RangeFuncNested
import Derived.RangeFuncBound
import Derived.RangeFuncLeaves
set_option linter.unusedVariables false
set_option linter.unusedSimpArgs false
namespace Go
open Go.RowKit

structure Sim (B : Nat) (W W' : World) : Prop where
 os : W'.os = W.os
 tape : W'.tape = W.tape
 output : W'.output = W.output
 size : W.heap.size ≤ W'.heap.size
 same : ∀ (k : Nat) (o : Obj), W.heap[k]? = some o → (o.isCells = true ∨ k < B) → W'.heap[k]? = some o

theorem Sim.refl (B : Nat) (W : World) : Sim B W W := ⟨rfl, rfl, rfl, Nat.le_refl _, fun _ _ h _ => h⟩
theorem Sim.trans {B : Nat} {X Y Z : World} (h : Sim B X Y) (k : Sim B Y Z) : Sim B X Z := ⟨k.os.trans h.os, k.tape.trans h.tape, k.output.trans h.output, Nat.le_trans h.size k.size, fun i o hi ho => k.same i o (h.same i o hi ho) ho⟩
theorem Sim.ext (B : Nat) (W : World) (x : Ext) : Sim B W (W.ext x) := ⟨rfl, rfl, rfl, by simp, fun k o h _ => (World.ext_heap_lt W x k (Array.getElem?_eq_some_iff.1 h).1).trans h⟩
theorem Sim.alloc (B : Nat) (W : World) (o : Obj) : Sim B W (W.alloc o) := ⟨rfl, rfl, rfl, by simp, fun k p h _ => (Below.heap_alloc W o k (Array.getElem?_eq_some_iff.1 h).1).trans h⟩
theorem Sim.putObj {B : Nat} {W : World} {l : Nat} {o : Obj} (o' : Obj) (hB : B ≤ l) (hl : W.heap[l]? = some o) (ho : o.isCells = false) : Sim B W (W.putObj l o') :=
 ⟨rfl, rfl, rfl, by simp, fun k p h hp => by
  have hne : k ≠ l := fun e => by
   subst e
   have : p = o := Option.some.inj (h.symm.trans hl)
   subst this
   rcases hp with hp | hp
   · rw [ho] at hp; cases hp
   · omega
  exact (World.putObj_heap_other hne).trans h⟩
theorem Sim.below_of {B n₀ : Nat} {w W W' : World} (h : Sim B W W') (hb : Below n₀ w W) (hn : n₀ ≤ B) (hw : n₀ ≤ w.heap.size) : Below n₀ w W' :=
 ⟨h.os.trans hb.os, h.tape.trans hb.tape, h.output.trans hb.output, Nat.le_trans hb.size h.size, fun k hk => by
  have hlt : k < W.heap.size := Nat.lt_of_lt_of_le hk (Nat.le_trans hw hb.size)
  rw [← hb.block k hk, Array.getElem?_eq_getElem hlt]
  exact h.same k _ (Array.getElem?_eq_getElem hlt) (.inr (by omega))⟩
theorem Sim.cell {B : Nat} {W W' : World} (h : Sim B W W') {p : Addr} {v : Value} (hc : W.cell? p = some v) : W'.cell? p = some v := by
 unfold World.cell? at hc ⊢
 split at hc
 · rename_i c e f hh
   rw [h.same _ _ hh (.inl rfl)]
   exact hc
 · cases hc
theorem Sim.frozen {B : Nat} {W W' : World} (h : Sim B W W') {p : Addr} {v : Value} (hc : W.cell? p = some v) (hf : W.frozen? p = false) : W'.frozen? p = false := by
 unfold World.cell? at hc
 unfold World.frozen? at hf ⊢
 split at hc
 · rename_i c e f hh
   rw [hh] at hf
   rw [h.same _ _ hh (.inl rfl)]
   exact hf
 · cases hc

theorem RowKit.Below.putObjStep {B : Nat} {a W : World} (h : Below B a W) {l : Nat} (hl : B ≤ l) (o : Obj) : Below B a (W.putObj l o) :=
 h.trans ⟨rfl, rfl, rfl, by simp, fun k hk => World.putObj_heap_other (by omega)⟩
structure KeepsAll (B : Nat) (W W' : World) : Prop where
 size : W.heap.size ≤ W'.heap.size
 same : ∀ (k : Nat) (o : Obj), B ≤ k → W.heap[k]? = some o → W'.heap[k]? = some o
theorem KeepsAll.refl (B : Nat) (W : World) : KeepsAll B W W := ⟨Nat.le_refl _, fun _ _ _ h => h⟩
theorem KeepsAll.trans {B : Nat} {X Y Z : World} (h : KeepsAll B X Y) (k : KeepsAll B Y Z) : KeepsAll B X Z := ⟨Nat.le_trans h.size k.size, fun i o hi ho => k.same i o hi (h.same i o hi ho)⟩
theorem KeepsAll.up {B D : Nat} {X Y : World} (h : KeepsAll B X Y) (hD : B ≤ D) : KeepsAll D X Y := ⟨h.size, fun i o hi ho => h.same i o (by omega) ho⟩
theorem KeepsAll.of_below {B : Nat} {W X : World} (h : Below W.heap.size W X) : KeepsAll B W X := ⟨h.size, fun k o _ ho => (h.block k (Array.getElem?_eq_some_iff.1 ho).1).trans ho⟩
theorem KeepsAll.alloc (B : Nat) (W : World) (o : Obj) : KeepsAll B W (W.alloc o) := .of_below ((Below.refl _ _).alloc (Nat.le_refl _) _)
theorem KeepsAll.setCell {B : Nat} (W : World) (p : Addr) (v : Value) (h : p.block < B) : KeepsAll B W (W.setCell p v) := ⟨by simp [World.setCell], fun k o hk ho => (Below.heap_setCell _ _ _ _ (by omega)).trans ho⟩
theorem KeepsAll.putObj {B : Nat} (W : World) (l : Nat) (o' : Obj) (h : l < B) : KeepsAll B W (W.putObj l o') := ⟨by simp, fun k o hk ho => (World.putObj_heap_other (by omega)).trans ho⟩
theorem KeepsAll.cell {B : Nat} {W X : World} (h : KeepsAll B W X) {n i : Nat} {v : Value} (hn : B ≤ n) (hc : W.cell? ⟨n, i, none⟩ = some v) : X.cell? ⟨n, i, none⟩ = some v := by
 unfold World.cell? at hc ⊢
 split at hc
 · rename_i c e f hh
   rw [h.same _ _ hn hh]
   exact hc
 · cases hc

theorem KeepsFrom.ext (B : Nat) (W : World) (x : Ext) : KeepsFrom B W (W.ext x) := ⟨by simp, fun k o _ h _ => (World.ext_heap_lt W x k (Array.getElem?_eq_some_iff.1 h).1).trans h⟩

variable {F : Fence} {n : Nat} {P : Program}

def IterP (F : Fence) (n : Nat) (P : Program) (gf : Nat) (pre : Array Value) (encs : Nat → Array Value) (N n₀ : Nat) (w : World) : Prop :=
 ∀ (l : Nat) (J : Nat → World → Prop) (Jx : World → Prop) (W : World), (∀ k W x, J k W → J k (W.ext x)) → (∀ W x, Jx W → Jx (W.ext x)) → Below n₀ w W →
  (∀ k W1, k < N → J k W1 → Below n₀ w W1 → YieldAt F (n - 1) P l (encs k) W1 fun e W' => (Below n₀ w W' ∧ KeepsAll W.heap.size W1 W') ∧ ((e = .returned (.bool true) ∧ J (k + 1) W') ∨ (e = .returned (.bool false) ∧ Jx W'))) →
  J 0 W → CallsIn F n P gf (pre ++ #[.func (.yield l) #[] #[]]) W fun e W' => (∃ v, e = .returned v) ∧ Below n₀ w W' ∧ (J N W' ∨ Jx W')

def bodyQ (B n₀ : Nat) (w W : World) (I' : World → Prop) (Ix : Code → World → Prop) : Exit → Act → World → Prop
 | .normal, _, W' => KeepsAll B W W' ∧ Below n₀ w W' ∧ I' W'
 | .ret, _, W' => KeepsAll B W W' ∧ Below n₀ w W' ∧ Ix .ret W'
 | .exit id, _, W' => KeepsAll B W W' ∧ Below n₀ w W' ∧ Ix (.exit id) W'
 | _, _, _ => False

theorem range_core {g : Operand} {ps : Array Tmp} {assign body : Code} {Q : Exit → Act → World → Prop} {a : Act} {w : World}
 {gf : Nat} {pre : Array Value} (h1 : 1 ≤ n) (hg : a.eval g = .func (.func gf) pre #[]) (hFg : F.fn gf) (eg : ∀ args w, (callFunc gf args).run P w = .ok (.enter gf args) w)
 {encs : Nat → Array Value} {N n₀ : Nat} (hn₀ : n₀ ≤ w.heap.size) (hit : IterP F (n - 1) P gf pre encs N n₀ w) (hps : ∀ k, (encs k).size = ps.size)
 (l dd : Nat) (mark : List Deferred) (W₁ : Nat → World) (hlw : w.heap.size ≤ l)
 (hent : ∀ fn, (Instr.enterLoop fn a.tmps ps assign body F.round).run P w = .ok (l, mark) (W₁ fn))
 (hl₁ : ∀ fn, (W₁ fn).heap[l]? = some (.loop { state := .ready, pending := none, fn, tmps := a.tmps, params := ps, assign, body, defers := dd }))
 (hb₁ : ∀ fn, Below n₀ w (W₁ fn)) (Kd : World → Prop) (hKd₁ : ∀ fn, Kd (W₁ fn)) (hKs : ∀ W x, Kd W → Kd (W.ext x)) (hKk : ∀ W W', KeepsAll w.heap.size W W' → Kd W → Kd W') (hKp : ∀ W o, Kd W → Kd (W.putObj l o))
 (I : Nat → World → Prop) (Ix : Code → World → Prop) (hI : ∀ k W W', Sim w.heap.size W W' → I k W → I k W') (hIx : ∀ c W W', Sim w.heap.size W W' → Ix c W → Ix c W') (h0 : ∀ fn, I 0 (W₁ fn))
 (Ax : Nat → Act → World → Prop) (hAx : ∀ k a' W W', Sim w.heap.size W W' → Ax k a' W → Ax k a' W')
 (hassign : ∀ (l k : Nat) (W : World) (K : Act → World → Prop), k < N → I k W → Below n₀ w W → (∀ a' W', KeepsAll w.heap.size W W' → Below n₀ w W' → I k W' → Ax k a' W' → K a' W') →
  assign.wpIn (F.inRound l) (n - 1 - 1) P (Exit.then K (fun _ _ _ => False)) { tmps := (ps.zip (encs k)).foldl (fun t (p, v) => t.setIfInBounds p v) a.tmps, defers := [] } W)
 (hbody : ∀ (l k : Nat) (a' : Act) (W : World), k < N → w.heap.size ≤ l → (∃ r, W.heap[l]? = some (.loop r)) → I k W → Ax k a' W → Below n₀ w W → body.wpIn (F.inRound l) (n - 1 - 1) P (bodyQ w.heap.size n₀ w W (I (k + 1)) Ix) a' W)
 (hdone : ∀ W, I N W → Below n₀ w W → Kd W → Q .normal { a with defers := mark ++ a.defers } W)
 (hstop : ∀ c W, Ix c W → Below n₀ w W → Kd W → c.wpIn F n P Q { a with defers := mark ++ a.defers } W) :
 (Code.rangeFunc g ps assign body).wpIn F n P Q a w := by
 refine wpIn_rangeFunc fun fn hfn => ?_
 have hK0 := hKd₁ fn
 have hlsz : l < (W₁ fn).heap.size := (Array.getElem?_eq_some_iff.1 (hl₁ fn)).1
 have hwsz : w.heap.size ≤ (W₁ fn).heap.size := by omega
 have hbW := hb₁ fn
 have hlW := hl₁ fn
 have h0W := h0 fn
 refine ⟨l, mark, W₁ fn, { target := .fn (.func gf) #[], args := pre ++ #[.func (.yield l) #[] #[]] }, W₁ fn, gf, pre ++ #[.func (.yield l) #[] #[]], W₁ fn, hent fn, ?_, ?_, ?_, fun _ => h1, ?_⟩
 · simp only [resolve, hg]
   simp [go_sem]
 · intro f' hf'; simp [Target.leads] at hf'; subst hf'; exact hFg
 · simp [invoke, go_sem, eg]
 generalize W₁ fn = W1 at *
 -- the record, in its states
 obtain ⟨rec, hrec⟩ : ∃ rec : LoopState → Option Code → Obj, rec = fun st pe => .loop { state := st, pending := pe, fn, tmps := a.tmps, params := ps, assign, body, defers := dd } := ⟨_, rfl⟩
 have hl0 : W1.heap[l]? = some (rec .ready none) := by rw [hrec]; exact hlW
 have notCells : ∀ st pe, (rec st pe).isCells = false := fun st pe => by rw [hrec]; rfl
 refine (hit l (fun k W => I k W ∧ W.heap[l]? = some (rec .ready none) ∧ Kd W) (fun W => ∃ c, Ix c W ∧ W.heap[l]? = some (rec .done (some c)) ∧ Kd W) W1
  (fun k W x h => ⟨hI k _ _ (Sim.ext _ W x) h.1, (World.ext_heap_lt W x l (Array.getElem?_eq_some_iff.1 h.2.1).1).trans h.2.1, hKs _ _ h.2.2⟩)
  (fun W x ⟨c, h⟩ => ⟨c, hIx c _ _ (Sim.ext _ W x) h.1, (World.ext_heap_lt W x l (Array.getElem?_eq_some_iff.1 h.2.1).1).trans h.2.1, hKs _ _ h.2.2⟩) hbW ?_ ⟨h0W, hl0, hK0⟩).mono ?_
 · -- one round
   rintro k W hk ⟨hi, hl, hkd⟩ hb
   have hlp : ∃ r : Loop, W.heap[l]? = some (.loop r) ∧ r.params = ps ∧ r.fn = fn ∧ r.tmps = a.tmps ∧ r.assign = assign ∧ r.body = body := by
    rw [hrec] at hl; exact ⟨_, hl, rfl, rfl, rfl, rfl, rfl⟩
   obtain ⟨r, hr, e1, e2, e3, e4, e5⟩ := hlp
   have hy := run_yield (P := P) (args := encs k) hr (by rw [e1]; exact hps k)
   rw [e1, e2, e3, e4, e5] at hy
   refine ⟨fn, _, assign, body, hy, roundIn_of_wpIn hfn (hassign _ k W _ hk hi hb ?_)⟩
   clear hy hr e1 e2 e3 e4 e5 r
   intro a' W2 hk2 hb2 hi2 hax
   have hl2 := hk2.same _ _ hlw hl
   have hkd2 := hKk _ _ hk2 hkd
   have hlt2 : l < W2.heap.size := (Array.getElem?_eq_some_iff.1 hl2).1
   have hbegin : (Instr.beginRound l).run P W2 = .ok () (W2.putObj l (rec .busy none)) := by
    have hl2' := hl2
    rw [hrec] at hl2' ⊢
    exact run_beginRound hl2' rfl
   refine ⟨_, hbegin, ?_⟩
   have s3 : Sim w.heap.size W2 (W2.putObj l (rec .busy none)) := Sim.putObj _ hlw hl2 (notCells _ _)
   have hl3 : (W2.putObj l (rec .busy none)).heap[l]? = some (rec .busy none) := World.putObj_heap_same hlt2
   have hb3 := s3.below_of hb2 hn₀ hn₀
   have hkd3 := hKp _ (rec .busy none) hkd2
   refine wpIn_mono (hbody l k a' _ hk hlw (by rw [hrec] at hl3 ⊢; exact ⟨_, hl3⟩) (hI _ _ _ s3 hi2) (hAx _ _ _ _ s3 hax) hb3) ?_
   have fin : ∀ (jump : Option Code) (W4 : World), KeepsAll w.heap.size (W2.putObj l (rec .busy none)) W4 → Below n₀ w W4 →
    (Instr.endRound l jump).run P W4 = .ok (.bool jump.isNone) (W4.putObj l (rec (if jump.isNone then .ready else .done) jump)) ∧
    Sim w.heap.size W4 (W4.putObj l (rec (if jump.isNone then .ready else .done) jump)) ∧
    (W4.putObj l (rec (if jump.isNone then .ready else .done) jump)).heap[l]? = some (rec (if jump.isNone then .ready else .done) jump) ∧
    Kd (W4.putObj l (rec (if jump.isNone then .ready else .done) jump)) ∧ Below n₀ w (W4.putObj l (rec (if jump.isNone then .ready else .done) jump)) := fun jump W4 hk4 hb4 => by
    have hl4 := hk4.same _ _ hlw hl3
    have s5 : Sim w.heap.size W4 (W4.putObj l (rec (if jump.isNone then .ready else .done) jump)) := Sim.putObj _ hlw hl4 (notCells _ _)
    refine ⟨?_, s5, World.putObj_heap_same (Array.getElem?_eq_some_iff.1 hl4).1, hKp _ _ (hKk _ _ hk4 hkd3), s5.below_of hb4 hn₀ hn₀⟩
    have hl4' := hl4
    rw [hrec] at hl4' ⊢
    exact run_endRound jump hl4'
   rintro e a3 W4 hp
   cases e with
   | normal =>
    obtain ⟨hk4, hb4, hi4⟩ := hp
    obtain ⟨hr, s5, hl5, hkd5, hb5⟩ := fin none W4 hk4 hb4
    exact ⟨_, _, hr, ⟨hb5, ((hk2.up hwsz).trans (((KeepsAll.putObj _ _ _ hlsz).trans (hk4.up hwsz)).trans (KeepsAll.putObj _ _ _ hlsz)))⟩, .inl ⟨rfl, hI _ _ _ s5 hi4, hl5, hkd5⟩⟩
   | ret =>
    obtain ⟨hk4, hb4, hi4⟩ := hp
    obtain ⟨hr, s5, hl5, hkd5, hb5⟩ := fin (some .ret) W4 hk4 hb4
    exact ⟨_, _, hr, ⟨hb5, ((hk2.up hwsz).trans (((KeepsAll.putObj _ _ _ hlsz).trans (hk4.up hwsz)).trans (KeepsAll.putObj _ _ _ hlsz)))⟩, .inr ⟨rfl, .ret, hIx _ _ _ s5 hi4, hl5, hkd5⟩⟩
   | exit id =>
    obtain ⟨hk4, hb4, hi4⟩ := hp
    obtain ⟨hr, s5, hl5, hkd5, hb5⟩ := fin (some (.exit id)) W4 hk4 hb4
    exact ⟨_, _, hr, ⟨hb5, ((hk2.up hwsz).trans (((KeepsAll.putObj _ _ _ hlsz).trans (hk4.up hwsz)).trans (KeepsAll.putObj _ _ _ hlsz)))⟩, .inr ⟨rfl, .exit id, hIx _ _ _ s5 hi4, hl5, hkd5⟩⟩
   | goto t => exact hp.elim
   | panic c => exact hp.elim
   | outgrown => exact hp.elim
 · -- behind the iterator
   rintro e W2 ⟨⟨v, rfl⟩, hb2, (⟨hi, hl, hkd⟩ | ⟨c, hi, hl, hkd⟩)⟩
   · have s := Sim.putObj (W := W2) (rec .exhausted none) hlw hl (notCells _ _)
     refine ⟨none, W2.putObj l (rec .exhausted none), ?_, hdone _ (hI _ _ _ s hi) (s.below_of hb2 hn₀ hn₀) (hKp _ _ hkd)⟩
     rw [hrec] at hl ⊢
     exact run_endLoop hl (by simp)
   · have s := Sim.putObj (W := W2) (rec .exhausted (some c)) hlw hl (notCells _ _)
     refine ⟨some c, W2.putObj l (rec .exhausted (some c)), ?_, hstop c _ (hIx _ _ _ s hi) (s.below_of hb2 hn₀ hn₀) (hKp _ _ hkd)⟩
     rw [hrec] at hl ⊢
     exact run_endLoop hl (by simp)

theorem range_outer {g : Operand} {ps : Array Tmp} {assign body : Code} {Q : Exit → Act → World → Prop} {a : Act} {w : World}
 (hro : F.round = none) {gf : Nat} {pre : Array Value} (h1 : 1 ≤ n) (hg : a.eval g = .func (.func gf) pre #[]) (hFg : F.fn gf) (eg : ∀ args w, (callFunc gf args).run P w = .ok (.enter gf args) w)
 {encs : Nat → Array Value} {N n₀ : Nat} (hn₀ : n₀ ≤ w.heap.size) (hit : IterP F (n - 1) P gf pre encs N n₀ w) (hps : ∀ k, (encs k).size = ps.size)
 (I : Nat → World → Prop) (Ix : Code → World → Prop) (hI : ∀ k W W', Sim w.heap.size W W' → I k W → I k W') (hIx : ∀ c W W', Sim w.heap.size W W' → Ix c W → Ix c W') (h0 : I 0 w)
 (Ax : Nat → Act → World → Prop) (hAx : ∀ k a' W W', Sim w.heap.size W W' → Ax k a' W → Ax k a' W')
 (hassign : ∀ (l k : Nat) (W : World) (K : Act → World → Prop), k < N → I k W → Below n₀ w W → (∀ a' W', KeepsAll w.heap.size W W' → Below n₀ w W' → I k W' → Ax k a' W' → K a' W') →
  assign.wpIn (F.inRound l) (n - 1 - 1) P (Exit.then K (fun _ _ _ => False)) { tmps := (ps.zip (encs k)).foldl (fun t (p, v) => t.setIfInBounds p v) a.tmps, defers := [] } W)
 (hbody : ∀ (l k : Nat) (a' : Act) (W : World), k < N → w.heap.size ≤ l → (∃ r, W.heap[l]? = some (.loop r)) → I k W → Ax k a' W → Below n₀ w W → body.wpIn (F.inRound l) (n - 1 - 1) P (bodyQ w.heap.size n₀ w W (I (k + 1)) Ix) a' W)
 (hdone : ∀ W, I N W → Below n₀ w W → W.heap[w.heap.size]? = some (.deferred (some [])) → Q .normal { a with defers := { target := .collected w.heap.size, args := #[] } :: a.defers } W)
 (hstop : ∀ c W, Ix c W → Below n₀ w W → W.heap[w.heap.size]? = some (.deferred (some [])) → c.wpIn F n P Q { a with defers := { target := .collected w.heap.size, args := #[] } :: a.defers } W) :
 (Code.rangeFunc g ps assign body).wpIn F n P Q a w := by
 have hD : ∀ o : Obj, ((w.alloc (.deferred (some []))).alloc o).heap[w.heap.size]? = some (.deferred (some [])) := fun o => (Below.heap_alloc _ _ _ (by simp)).trans (World.alloc_heap_new w _)
 refine range_core h1 hg hFg eg hn₀ hit hps (w.heap.size + 1) w.heap.size [{ target := .collected w.heap.size, args := #[] }]
  (fun fn => (w.alloc (.deferred (some []))).alloc (.loop { state := .ready, pending := none, fn, tmps := a.tmps, params := ps, assign, body, defers := w.heap.size })) (by omega)
  (fun fn => by rw [hro]; exact run_enterLoop_outer _ _ _ _ _)
  (fun fn => by have := World.alloc_heap_new (w.alloc (.deferred (some []))) (.loop { state := .ready, pending := none, fn, tmps := a.tmps, params := ps, assign, body, defers := w.heap.size }); rwa [World.size_alloc] at this)
  (fun fn => (((Below.refl n₀ w).alloc hn₀ _).alloc (by simp; omega) _))
  (fun W => W.heap[w.heap.size]? = some (.deferred (some []))) (fun fn => hD _)
  (fun W x h => (World.ext_heap_lt W x _ (Array.getElem?_eq_some_iff.1 h).1).trans h)
  (fun W W' hk h => hk.same _ _ (Nat.le_refl _) h) (fun W o h => (World.putObj_heap_other (by omega)).trans h)
  I Ix hI hIx (fun fn => hI _ _ _ ((Sim.alloc _ _ _).trans (Sim.alloc _ _ _)) h0) Ax hAx hassign hbody hdone hstop

theorem range_inner {g : Operand} {ps : Array Tmp} {assign body : Code} {Q : Exit → Act → World → Prop} {a : Act} {w : World}
 {l₀ : Nat} (hro : F.round = some l₀) (hl₀ : ∃ r₀, w.heap[l₀]? = some (.loop r₀)) {gf : Nat} {pre : Array Value} (h1 : 1 ≤ n) (hg : a.eval g = .func (.func gf) pre #[]) (hFg : F.fn gf) (eg : ∀ args w, (callFunc gf args).run P w = .ok (.enter gf args) w)
 {encs : Nat → Array Value} {N n₀ : Nat} (hn₀ : n₀ ≤ w.heap.size) (hit : IterP F (n - 1) P gf pre encs N n₀ w) (hps : ∀ k, (encs k).size = ps.size)
 (I : Nat → World → Prop) (Ix : Code → World → Prop) (hI : ∀ k W W', Sim w.heap.size W W' → I k W → I k W') (hIx : ∀ c W W', Sim w.heap.size W W' → Ix c W → Ix c W') (h0 : I 0 w)
 (Ax : Nat → Act → World → Prop) (hAx : ∀ k a' W W', Sim w.heap.size W W' → Ax k a' W → Ax k a' W')
 (hassign : ∀ (l k : Nat) (W : World) (K : Act → World → Prop), k < N → I k W → Below n₀ w W → (∀ a' W', KeepsAll w.heap.size W W' → Below n₀ w W' → I k W' → Ax k a' W' → K a' W') →
  assign.wpIn (F.inRound l) (n - 1 - 1) P (Exit.then K (fun _ _ _ => False)) { tmps := (ps.zip (encs k)).foldl (fun t (p, v) => t.setIfInBounds p v) a.tmps, defers := [] } W)
 (hbody : ∀ (l k : Nat) (a' : Act) (W : World), k < N → w.heap.size ≤ l → (∃ r, W.heap[l]? = some (.loop r)) → I k W → Ax k a' W → Below n₀ w W → body.wpIn (F.inRound l) (n - 1 - 1) P (bodyQ w.heap.size n₀ w W (I (k + 1)) Ix) a' W)
 (hdone : ∀ W, I N W → Below n₀ w W → Q .normal a W) (hstop : ∀ c W, Ix c W → Below n₀ w W → c.wpIn F n P Q a W) :
 (Code.rangeFunc g ps assign body).wpIn F n P Q a w := by
 obtain ⟨r₀, hl₀⟩ := hl₀
 exact range_core h1 hg hFg eg hn₀ hit hps w.heap.size r₀.defers []
  (fun fn => w.alloc (.loop { state := .ready, pending := none, fn, tmps := a.tmps, params := ps, assign, body, defers := r₀.defers })) (Nat.le_refl _)
  (fun fn => by rw [hro]; exact run_enterLoop_inner hl₀ _ _ _ _ _)
  (fun fn => World.alloc_heap_new w _) (fun fn => (Below.refl n₀ w).alloc hn₀ _)
  (fun _ => True) (fun _ => trivial) (fun _ _ _ => trivial) (fun _ _ _ _ => trivial) (fun _ _ _ => trivial)
  I Ix hI hIx (fun fn => hI _ _ _ (Sim.alloc _ _ _) h0) Ax hAx hassign hbody (fun W h hb _ => hdone W h hb) (fun c W h hb _ => hstop c W h hb)

theorem IterP.inRound {gf : Nat} {pre : Array Value} {encs : Nat → Array Value} {N n₀ : Nat} {w : World} (l : Nat) (h : IterP F n P gf pre encs N n₀ w) : IterP (F.inRound l) n P gf pre encs N n₀ w := h
end Go

/- The laws of Range, where the round may turn what lay before, as G allows. (No program.) -/
namespace Go
open Go.RowKit

variable {F : Fence} {n : Nat} {P : Program}

def IterG (F : Fence) (n : Nat) (P : Program) (gf : Nat) (pre : Array Value) (encs : Nat → Array Value) (N : Nat) (G : World → Prop) : Prop :=
 ∀ (l : Nat) (J : Nat → World → Prop) (Jx : World → Prop) (W : World), (∀ k W x, J k W → J k (W.ext x)) → (∀ W x, Jx W → Jx (W.ext x)) → G W →
  (∀ k W1, k < N → J k W1 → G W1 → YieldAt F (n - 1) P l (encs k) W1 fun e W' => (G W' ∧ KeepsAll W.heap.size W1 W') ∧ ((e = .returned (.bool true) ∧ J (k + 1) W') ∨ (e = .returned (.bool false) ∧ Jx W'))) →
  J 0 W → CallsIn F n P gf (pre ++ #[.func (.yield l) #[] #[]]) W fun e W' => (∃ v, e = .returned v) ∧ G W' ∧ (J N W' ∨ Jx W')

def bodyQG (B : Nat) (G : World → Prop) (W : World) (I' : World → Prop) (Ix : Code → World → Prop) : Exit → Act → World → Prop
 | .normal, _, W' => KeepsAll B W W' ∧ G W' ∧ I' W'
 | .ret, _, W' => KeepsAll B W W' ∧ G W' ∧ Ix .ret W'
 | .exit id, _, W' => KeepsAll B W W' ∧ G W' ∧ Ix (.exit id) W'
 | _, _, _ => False

theorem range_coreG {g : Operand} {ps : Array Tmp} {assign body : Code} {Q : Exit → Act → World → Prop} {a : Act} {w : World}
 {gf : Nat} {pre : Array Value} (h1 : 1 ≤ n) (hg : a.eval g = .func (.func gf) pre #[]) (hFg : F.fn gf) (eg : ∀ args w, (callFunc gf args).run P w = .ok (.enter gf args) w)
 {encs : Nat → Array Value} {N : Nat} {G : World → Prop} (hGs : ∀ W W', Sim w.heap.size W W' → G W → G W') (hit : IterG F (n - 1) P gf pre encs N G) (hps : ∀ k, (encs k).size = ps.size)
 (l dd : Nat) (mark : List Deferred) (W₁ : Nat → World) (hlw : w.heap.size ≤ l)
 (hent : ∀ fn, (Instr.enterLoop fn a.tmps ps assign body F.round).run P w = .ok (l, mark) (W₁ fn))
 (hl₁ : ∀ fn, (W₁ fn).heap[l]? = some (.loop { state := .ready, pending := none, fn, tmps := a.tmps, params := ps, assign, body, defers := dd }))
 (hb₁ : ∀ fn, G (W₁ fn)) (Kd : World → Prop) (hKd₁ : ∀ fn, Kd (W₁ fn)) (hKs : ∀ W x, Kd W → Kd (W.ext x)) (hKk : ∀ W W', KeepsAll w.heap.size W W' → Kd W → Kd W') (hKp : ∀ W o, Kd W → Kd (W.putObj l o))
 (I : Nat → World → Prop) (Ix : Code → World → Prop) (hI : ∀ k W W', Sim w.heap.size W W' → I k W → I k W') (hIx : ∀ c W W', Sim w.heap.size W W' → Ix c W → Ix c W') (h0 : ∀ fn, I 0 (W₁ fn))
 (Ax : Nat → Act → World → Prop) (hAx : ∀ k a' W W', Sim w.heap.size W W' → Ax k a' W → Ax k a' W')
 (hassign : ∀ (l k : Nat) (W : World) (K : Act → World → Prop), k < N → I k W → G W → (∀ a' W', KeepsAll w.heap.size W W' → G W' → I k W' → Ax k a' W' → K a' W') →
  assign.wpIn (F.inRound l) (n - 1 - 1) P (Exit.then K (fun _ _ _ => False)) { tmps := (ps.zip (encs k)).foldl (fun t (p, v) => t.setIfInBounds p v) a.tmps, defers := [] } W)
 (hbody : ∀ (l k : Nat) (a' : Act) (W : World), k < N → w.heap.size ≤ l → (∃ r, W.heap[l]? = some (.loop r)) → I k W → Ax k a' W → G W → body.wpIn (F.inRound l) (n - 1 - 1) P (bodyQG w.heap.size G W (I (k + 1)) Ix) a' W)
 (hdone : ∀ W, I N W → G W → Kd W → Q .normal { a with defers := mark ++ a.defers } W)
 (hstop : ∀ c W, Ix c W → G W → Kd W → c.wpIn F n P Q { a with defers := mark ++ a.defers } W) :
 (Code.rangeFunc g ps assign body).wpIn F n P Q a w := by
 refine wpIn_rangeFunc fun fn hfn => ?_
 have hK0 := hKd₁ fn
 have hlsz : l < (W₁ fn).heap.size := (Array.getElem?_eq_some_iff.1 (hl₁ fn)).1
 have hwsz : w.heap.size ≤ (W₁ fn).heap.size := by omega
 have hbW := hb₁ fn
 have hlW := hl₁ fn
 have h0W := h0 fn
 refine ⟨l, mark, W₁ fn, { target := .fn (.func gf) #[], args := pre ++ #[.func (.yield l) #[] #[]] }, W₁ fn, gf, pre ++ #[.func (.yield l) #[] #[]], W₁ fn, hent fn, ?_, ?_, ?_, fun _ => h1, ?_⟩
 · simp only [resolve, hg]
   simp [go_sem]
 · intro f' hf'; simp [Target.leads] at hf'; subst hf'; exact hFg
 · simp [invoke, go_sem, eg]
 generalize W₁ fn = W1 at *
 -- the record, in its states
 obtain ⟨rec, hrec⟩ : ∃ rec : LoopState → Option Code → Obj, rec = fun st pe => .loop { state := st, pending := pe, fn, tmps := a.tmps, params := ps, assign, body, defers := dd } := ⟨_, rfl⟩
 have hl0 : W1.heap[l]? = some (rec .ready none) := by rw [hrec]; exact hlW
 have notCells : ∀ st pe, (rec st pe).isCells = false := fun st pe => by rw [hrec]; rfl
 refine (hit l (fun k W => I k W ∧ W.heap[l]? = some (rec .ready none) ∧ Kd W) (fun W => ∃ c, Ix c W ∧ W.heap[l]? = some (rec .done (some c)) ∧ Kd W) W1
  (fun k W x h => ⟨hI k _ _ (Sim.ext _ W x) h.1, (World.ext_heap_lt W x l (Array.getElem?_eq_some_iff.1 h.2.1).1).trans h.2.1, hKs _ _ h.2.2⟩)
  (fun W x ⟨c, h⟩ => ⟨c, hIx c _ _ (Sim.ext _ W x) h.1, (World.ext_heap_lt W x l (Array.getElem?_eq_some_iff.1 h.2.1).1).trans h.2.1, hKs _ _ h.2.2⟩) hbW ?_ ⟨h0W, hl0, hK0⟩).mono ?_
 · -- one round
   rintro k W hk ⟨hi, hl, hkd⟩ hb
   have hlp : ∃ r : Loop, W.heap[l]? = some (.loop r) ∧ r.params = ps ∧ r.fn = fn ∧ r.tmps = a.tmps ∧ r.assign = assign ∧ r.body = body := by
    rw [hrec] at hl; exact ⟨_, hl, rfl, rfl, rfl, rfl, rfl⟩
   obtain ⟨r, hr, e1, e2, e3, e4, e5⟩ := hlp
   have hy := run_yield (P := P) (args := encs k) hr (by rw [e1]; exact hps k)
   rw [e1, e2, e3, e4, e5] at hy
   refine ⟨fn, _, assign, body, hy, roundIn_of_wpIn hfn (hassign _ k W _ hk hi hb ?_)⟩
   clear hy hr e1 e2 e3 e4 e5 r
   intro a' W2 hk2 hb2 hi2 hax
   have hl2 := hk2.same _ _ hlw hl
   have hkd2 := hKk _ _ hk2 hkd
   have hlt2 : l < W2.heap.size := (Array.getElem?_eq_some_iff.1 hl2).1
   have hbegin : (Instr.beginRound l).run P W2 = .ok () (W2.putObj l (rec .busy none)) := by
    have hl2' := hl2
    rw [hrec] at hl2' ⊢
    exact run_beginRound hl2' rfl
   refine ⟨_, hbegin, ?_⟩
   have s3 : Sim w.heap.size W2 (W2.putObj l (rec .busy none)) := Sim.putObj _ hlw hl2 (notCells _ _)
   have hl3 : (W2.putObj l (rec .busy none)).heap[l]? = some (rec .busy none) := World.putObj_heap_same hlt2
   have hb3 := hGs _ _ s3 hb2
   have hkd3 := hKp _ (rec .busy none) hkd2
   refine wpIn_mono (hbody l k a' _ hk hlw (by rw [hrec] at hl3 ⊢; exact ⟨_, hl3⟩) (hI _ _ _ s3 hi2) (hAx _ _ _ _ s3 hax) hb3) ?_
   have fin : ∀ (jump : Option Code) (W4 : World), KeepsAll w.heap.size (W2.putObj l (rec .busy none)) W4 → G W4 →
    (Instr.endRound l jump).run P W4 = .ok (.bool jump.isNone) (W4.putObj l (rec (if jump.isNone then .ready else .done) jump)) ∧
    Sim w.heap.size W4 (W4.putObj l (rec (if jump.isNone then .ready else .done) jump)) ∧
    (W4.putObj l (rec (if jump.isNone then .ready else .done) jump)).heap[l]? = some (rec (if jump.isNone then .ready else .done) jump) ∧
    Kd (W4.putObj l (rec (if jump.isNone then .ready else .done) jump)) ∧ G (W4.putObj l (rec (if jump.isNone then .ready else .done) jump)) := fun jump W4 hk4 hb4 => by
    have hl4 := hk4.same _ _ hlw hl3
    have s5 : Sim w.heap.size W4 (W4.putObj l (rec (if jump.isNone then .ready else .done) jump)) := Sim.putObj _ hlw hl4 (notCells _ _)
    refine ⟨?_, s5, World.putObj_heap_same (Array.getElem?_eq_some_iff.1 hl4).1, hKp _ _ (hKk _ _ hk4 hkd3), hGs _ _ s5 hb4⟩
    have hl4' := hl4
    rw [hrec] at hl4' ⊢
    exact run_endRound jump hl4'
   rintro e a3 W4 hp
   cases e with
   | normal =>
    obtain ⟨hk4, hb4, hi4⟩ := hp
    obtain ⟨hr, s5, hl5, hkd5, hb5⟩ := fin none W4 hk4 hb4
    exact ⟨_, _, hr, ⟨hb5, ((hk2.up hwsz).trans (((KeepsAll.putObj _ _ _ hlsz).trans (hk4.up hwsz)).trans (KeepsAll.putObj _ _ _ hlsz)))⟩, .inl ⟨rfl, hI _ _ _ s5 hi4, hl5, hkd5⟩⟩
   | ret =>
    obtain ⟨hk4, hb4, hi4⟩ := hp
    obtain ⟨hr, s5, hl5, hkd5, hb5⟩ := fin (some .ret) W4 hk4 hb4
    exact ⟨_, _, hr, ⟨hb5, ((hk2.up hwsz).trans (((KeepsAll.putObj _ _ _ hlsz).trans (hk4.up hwsz)).trans (KeepsAll.putObj _ _ _ hlsz)))⟩, .inr ⟨rfl, .ret, hIx _ _ _ s5 hi4, hl5, hkd5⟩⟩
   | exit id =>
    obtain ⟨hk4, hb4, hi4⟩ := hp
    obtain ⟨hr, s5, hl5, hkd5, hb5⟩ := fin (some (.exit id)) W4 hk4 hb4
    exact ⟨_, _, hr, ⟨hb5, ((hk2.up hwsz).trans (((KeepsAll.putObj _ _ _ hlsz).trans (hk4.up hwsz)).trans (KeepsAll.putObj _ _ _ hlsz)))⟩, .inr ⟨rfl, .exit id, hIx _ _ _ s5 hi4, hl5, hkd5⟩⟩
   | goto t => exact hp.elim
   | panic c => exact hp.elim
   | outgrown => exact hp.elim
 · -- behind the iterator
   rintro e W2 ⟨⟨v, rfl⟩, hb2, (⟨hi, hl, hkd⟩ | ⟨c, hi, hl, hkd⟩)⟩
   · have s := Sim.putObj (W := W2) (rec .exhausted none) hlw hl (notCells _ _)
     refine ⟨none, W2.putObj l (rec .exhausted none), ?_, hdone _ (hI _ _ _ s hi) (hGs _ _ s hb2) (hKp _ _ hkd)⟩
     rw [hrec] at hl ⊢
     exact run_endLoop hl (by simp)
   · have s := Sim.putObj (W := W2) (rec .exhausted (some c)) hlw hl (notCells _ _)
     refine ⟨some c, W2.putObj l (rec .exhausted (some c)), ?_, hstop c _ (hIx _ _ _ s hi) (hGs _ _ s hb2) (hKp _ _ hkd)⟩
     rw [hrec] at hl ⊢
     exact run_endLoop hl (by simp)

theorem range_outerG {g : Operand} {ps : Array Tmp} {assign body : Code} {Q : Exit → Act → World → Prop} {a : Act} {w : World}
 (hro : F.round = none) {gf : Nat} {pre : Array Value} (h1 : 1 ≤ n) (hg : a.eval g = .func (.func gf) pre #[]) (hFg : F.fn gf) (eg : ∀ args w, (callFunc gf args).run P w = .ok (.enter gf args) w)
 {encs : Nat → Array Value} {N : Nat} {G : World → Prop} (hGs : ∀ W W', Sim w.heap.size W W' → G W → G W') (hG0 : G w) (hit : IterG F (n - 1) P gf pre encs N G) (hps : ∀ k, (encs k).size = ps.size)
 (I : Nat → World → Prop) (Ix : Code → World → Prop) (hI : ∀ k W W', Sim w.heap.size W W' → I k W → I k W') (hIx : ∀ c W W', Sim w.heap.size W W' → Ix c W → Ix c W') (h0 : I 0 w)
 (Ax : Nat → Act → World → Prop) (hAx : ∀ k a' W W', Sim w.heap.size W W' → Ax k a' W → Ax k a' W')
 (hassign : ∀ (l k : Nat) (W : World) (K : Act → World → Prop), k < N → I k W → G W → (∀ a' W', KeepsAll w.heap.size W W' → G W' → I k W' → Ax k a' W' → K a' W') →
  assign.wpIn (F.inRound l) (n - 1 - 1) P (Exit.then K (fun _ _ _ => False)) { tmps := (ps.zip (encs k)).foldl (fun t (p, v) => t.setIfInBounds p v) a.tmps, defers := [] } W)
 (hbody : ∀ (l k : Nat) (a' : Act) (W : World), k < N → w.heap.size ≤ l → (∃ r, W.heap[l]? = some (.loop r)) → I k W → Ax k a' W → G W → body.wpIn (F.inRound l) (n - 1 - 1) P (bodyQG w.heap.size G W (I (k + 1)) Ix) a' W)
 (hdone : ∀ W, I N W → G W → W.heap[w.heap.size]? = some (.deferred (some [])) → Q .normal { a with defers := { target := .collected w.heap.size, args := #[] } :: a.defers } W)
 (hstop : ∀ c W, Ix c W → G W → W.heap[w.heap.size]? = some (.deferred (some [])) → c.wpIn F n P Q { a with defers := { target := .collected w.heap.size, args := #[] } :: a.defers } W) :
 (Code.rangeFunc g ps assign body).wpIn F n P Q a w := by
 have hD : ∀ o : Obj, ((w.alloc (.deferred (some []))).alloc o).heap[w.heap.size]? = some (.deferred (some [])) := fun o => (Below.heap_alloc _ _ _ (by simp)).trans (World.alloc_heap_new w _)
 refine range_coreG h1 hg hFg eg hGs hit hps (w.heap.size + 1) w.heap.size [{ target := .collected w.heap.size, args := #[] }]
  (fun fn => (w.alloc (.deferred (some []))).alloc (.loop { state := .ready, pending := none, fn, tmps := a.tmps, params := ps, assign, body, defers := w.heap.size })) (by omega)
  (fun fn => by rw [hro]; exact run_enterLoop_outer _ _ _ _ _)
  (fun fn => by have := World.alloc_heap_new (w.alloc (.deferred (some []))) (.loop { state := .ready, pending := none, fn, tmps := a.tmps, params := ps, assign, body, defers := w.heap.size }); rwa [World.size_alloc] at this)
  (fun fn => hGs _ _ ((Sim.alloc _ _ _).trans (Sim.alloc _ _ _)) hG0)
  (fun W => W.heap[w.heap.size]? = some (.deferred (some []))) (fun fn => hD _)
  (fun W x h => (World.ext_heap_lt W x _ (Array.getElem?_eq_some_iff.1 h).1).trans h)
  (fun W W' hk h => hk.same _ _ (Nat.le_refl _) h) (fun W o h => (World.putObj_heap_other (by omega)).trans h)
  I Ix hI hIx (fun fn => hI _ _ _ ((Sim.alloc _ _ _).trans (Sim.alloc _ _ _)) h0) Ax hAx hassign hbody hdone hstop

end Go
