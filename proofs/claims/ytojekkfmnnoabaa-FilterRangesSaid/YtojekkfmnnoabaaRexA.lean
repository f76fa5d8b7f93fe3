/- An executor of the program's functions on trees of values, proved sound. -/
import Derived.RangeFuncLeaves
import Derived.RangeFuncRecord
import Derived.OrdersIn
import Derived.Below
import Derived.LoopNIn
set_option linter.unusedSimpArgs false
set_option linter.unusedVariables false
set_option linter.defProp false
namespace Go.Rex
open Go.RowKit

/-- where a name lies: the block, the first cell, how many cells are its own, how many cells an element has -/
structure Info where
  block : Nat
  off : Nat
  ext : Nat
  es : Nat
abbrev NMap := Nat → Info

/-- a value with names in place of blocks, and a value -/
inductive VR (D : Nat → Prop) (m : NMap) : Value → Value → Prop
  | bool (b : Bool) : VR D m (.bool b) (.bool b)
  | int (k : IntKind) (n : Int) : VR D m (.int k n) (.int k n)
  | float (k : FloatKind) (b : Nat) : VR D m (.float k b) (.float k b)
  | complex (k : FloatKind) (a b : Nat) : VR D m (.complex k a b) (.complex k a b)
  | string (s : ByteArray) : VR D m (.string s) (.string s)
  | nilPtr : VR D m (.pointer none) (.pointer none)
  | ptr (n o : Nat) (h : D n) : VR D m (.pointer (some ⟨n, o, none⟩)) (.pointer (some ⟨(m n).block, (m n).off + o, none⟩))
  | nilSlice (l c : Nat) : VR D m (.slice none l c) (.slice none l c)
  | slice (n o l c c' : Nat) (h : D n) (hl : l ≤ c) (hc : c ≤ c') (he : (m n).es = 0 ∨ o + c' * (m n).es ≤ (m n).ext) : VR D m (.slice (some ⟨n, o, none⟩) l c) (.slice (some ⟨(m n).block, (m n).off + o, none⟩) l c')
  | nilMap : VR D m (.map none) (.map none)
  | map (n : Nat) (h : D n) : VR D m (.map (some n)) (.map (some (m n).block))
  | func (f : FuncId) (a b a' b' : List Value) (la : a'.length = a.length) (ha : ∀ (i : Nat) v v', a[i]? = some v → a'[i]? = some v' → VR D m v v')
      (lb : b'.length = b.length) (hb : ∀ (i : Nat) v v', b[i]? = some v → b'[i]? = some v' → VR D m v v') : VR D m (.func (.func f) ⟨a⟩ ⟨b⟩) (.func (.func f) ⟨a'⟩ ⟨b'⟩)
  | yield (n : Nat) (h : D n) : VR D m (.func (.yield n) #[] #[]) (.func (.yield (m n).block) #[] #[])
  | nilFunc : VR D m .nilFunc .nilFunc
  | nilIface : VR D m .nilIface .nilIface
  | iface (t : TypeId) (v v' : Value) (h : VR D m v v') : VR D m (.iface t v) (.iface t v')
  | agg (a a' : List Value) (la : a'.length = a.length) (ha : ∀ (i : Nat) v v', a[i]? = some v → a'[i]? = some v' → VR D m v v') : VR D m (.agg ⟨a⟩) (.agg ⟨a'⟩)
  | tuple (a a' : List Value) (la : a'.length = a.length) (ha : ∀ (i : Nat) v v', a[i]? = some v → a'[i]? = some v' → VR D m v v') : VR D m (.tuple ⟨a⟩) (.tuple ⟨a'⟩)

structure VRs (D : Nat → Prop) (m : NMap) (a a' : List Value) : Prop where
  len : a'.length = a.length
  at' : ∀ (i : Nat) v v', a[i]? = some v → a'[i]? = some v' → VR D m v v'

theorem VRs.at {D : Nat → Prop} {m : NMap} {a a' : List Value} (h : VRs D m a a') {i : Nat} {v : Value} (hv : a[i]? = some v) : ∃ v', a'[i]? = some v' ∧ VR D m v v' := by
  have hi := (List.getElem?_eq_some_iff.1 hv).1
  have hi' : i < a'.length := by rw [h.len]; exact hi
  exact ⟨a'[i], List.getElem?_eq_getElem hi', h.at' i _ _ hv (List.getElem?_eq_getElem hi')⟩

theorem VR.mono {D D' : Nat → Prop} {m m' : NMap} {v v' : Value} (h : VR D m v v') (hD : ∀ n, D n → D' n) (hm : ∀ n, D n → m' n = m n) : VR D' m' v v' := by
  induction h with
  | bool b => exact .bool b
  | int k n => exact .int k n
  | float k b => exact .float k b
  | complex k a b => exact .complex k a b
  | string s => exact .string s
  | nilPtr => exact .nilPtr
  | ptr n o h => rw [← hm n h]; exact .ptr n o (hD n h)
  | nilSlice l c => exact .nilSlice l c
  | slice n o l c c' h hl hc he => rw [← hm n h]; rw [← hm n h] at he; exact .slice n o l c c' (hD n h) hl hc he
  | nilMap => exact .nilMap
  | map n h => rw [← hm n h]; exact .map n (hD n h)
  | func f a b a' b' la ha lb hb iha ihb => exact .func f a b a' b' la iha lb ihb
  | yield n h => rw [← hm n h]; exact .yield n (hD n h)
  | nilFunc => exact .nilFunc
  | nilIface => exact .nilIface
  | iface t v v' h ih => exact .iface t v v' ih
  | agg a a' la ha ih => exact .agg a a' la ih
  | tuple a a' la ha ih => exact .tuple a a' la ih

theorem VRs.mono {D D' : Nat → Prop} {m m' : NMap} {a a' : List Value} (h : VRs D m a a') (hD : ∀ n, D n → D' n) (hm : ∀ n, D n → m' n = m n) : VRs D' m' a a' :=
  ⟨h.len, fun i v v' hv hv' => (h.at' i v v' hv hv').mono hD hm⟩

theorem VRs.nil {D : Nat → Prop} {m : NMap} : VRs D m [] [] := ⟨rfl, fun i v v' h => by simp at h⟩
theorem VRs.cons {D : Nat → Prop} {m : NMap} {v v' : Value} {a a' : List Value} (h : VR D m v v') (hs : VRs D m a a') : VRs D m (v :: a) (v' :: a') := by
  refine ⟨by simp [hs.len], fun i x x' hx hx' => ?_⟩
  cases i with
  | zero => simp at hx hx'; subst hx hx'; exact h
  | succ i => simp at hx hx'; exact hs.at' i _ _ hx hx'
theorem VRs.append {D : Nat → Prop} {m : NMap} {a a' b b' : List Value} (h : VRs D m a a') (hb : VRs D m b b') : VRs D m (a ++ b) (a' ++ b') := by
  refine ⟨by simp [h.len, hb.len], fun i x x' hx hx' => ?_⟩
  rw [List.getElem?_append] at hx hx'
  rw [h.len] at hx'
  split at hx
  · rename_i hi; rw [if_pos hi] at hx'; exact h.at' i _ _ hx hx'
  · rename_i hi; rw [if_neg hi] at hx'; exact hb.at' _ _ _ hx hx'
theorem VRs.extract {D : Nat → Prop} {m : NMap} {a a' : List Value} (h : VRs D m a a') (i j : Nat) : VRs D m ((a.drop i).take j) ((a'.drop i).take j) := by
  refine ⟨by simp [h.len], fun k x x' hx hx' => ?_⟩
  simp only [List.getElem?_take, List.getElem?_drop] at hx hx'
  split at hx
  · rename_i hk; rw [if_pos hk] at hx'; exact h.at' _ _ _ hx hx'
  · cases hx
theorem VRs.set {D : Nat → Prop} {m : NMap} {a a' : List Value} (h : VRs D m a a') (i : Nat) {v v' : Value} (hv : VR D m v v') : VRs D m (a.set i v) (a'.set i v') := by
  refine ⟨by simp [h.len], fun k x x' hx hx' => ?_⟩
  rw [List.getElem?_set] at hx hx'
  split at hx
  · rename_i hk
    rw [if_pos hk, h.len] at hx'
    split at hx
    · rename_i hlt; rw [if_pos hlt] at hx'; cases hx; cases hx'; exact hv
    · cases hx
  · rename_i hk; rw [if_neg hk] at hx'; exact h.at' _ _ _ hx hx'
theorem VRs.replicate {D : Nat → Prop} {m : NMap} {v v' : Value} (hv : VR D m v v') (n : Nat) : VRs D m (List.replicate n v) (List.replicate n v') := by
  refine ⟨by simp, fun k x x' hx hx' => ?_⟩
  rw [List.getElem?_replicate] at hx hx'
  split at hx
  · rename_i hk; rw [if_pos hk] at hx'; cases hx; cases hx'; exact hv
  · cases hx
theorem VR.undef {D : Nat → Prop} {m : NMap} : VR D m undef undef := .tuple [] [] rfl (fun i v v' h => by simp at h)
theorem VRs.getD {D : Nat → Prop} {m : NMap} {a a' : List Value} (h : VRs D m a a') (i : Nat) {d d' : Value} (hd : VR D m d d') : VR D m (a[i]?.getD d) (a'[i]?.getD d') := by
  cases hv : a[i]? with
  | none =>
    have : a'[i]? = none := by
      rw [List.getElem?_eq_none_iff] at hv ⊢
      rw [h.len]; exact hv
    rw [this]; exact hd
  | some v =>
    obtain ⟨v', hv', hr⟩ := h.at hv
    rw [hv']; exact hr
theorem VRs.refl_of {D : Nat → Prop} {m : NMap} {a : List Value} (h : ∀ v ∈ a, VR D m v v) : VRs D m a a :=
  ⟨rfl, fun i v v' hv hv' => by rw [hv] at hv'; cases hv'; exact h v (List.mem_of_getElem? hv)⟩
theorem VR.agg' {D : Nat → Prop} {m : NMap} {a a' : List Value} (h : VRs D m a a') : VR D m (.agg ⟨a⟩) (.agg ⟨a'⟩) := .agg a a' h.len h.at'
theorem VR.tuple' {D : Nat → Prop} {m : NMap} {a a' : List Value} (h : VRs D m a a') : VR D m (.tuple ⟨a⟩) (.tuple ⟨a'⟩) := .tuple a a' h.len h.at'

/-- no names in a value -/
def clean : Nat → Value → Bool
  | 0, _ => false
  | d + 1, v => match v with
    | .bool _ => true | .int _ _ => true | .float _ _ => true | .complex _ _ _ => true | .string _ => true
    | .pointer none => true | .slice none _ _ => true | .map none => true | .nilFunc => true | .nilIface => true
    | .func (.func _) ⟨a⟩ ⟨b⟩ => a.all (clean d) && b.all (clean d)
    | .iface _ v => clean d v
    | .agg ⟨l⟩ => l.all (clean d)
    | .tuple ⟨l⟩ => l.all (clean d)
    | _ => false

theorem VR.of_clean {D : Nat → Prop} {m : NMap} : ∀ (d : Nat) (v : Value), clean d v = true → VR D m v v := by
  intro d
  induction d with
  | zero => intro v h; simp [clean] at h
  | succ d ih =>
    intro v h
    have key : ∀ l : List Value, l.all (clean d) = true → VRs D m l l := fun l hl => VRs.refl_of fun v hv => ih v (by simpa using (List.all_eq_true.1 hl) v hv)
    unfold clean at h
    split at h
    · exact .bool _
    · exact .int _ _
    · exact .float _ _
    · exact .complex _ _ _
    · exact .string _
    · exact .nilPtr
    · exact .nilSlice _ _
    · exact .nilMap
    · exact .nilFunc
    · exact .nilIface
    · rename_i f a b
      simp only [Bool.and_eq_true] at h
      exact .func _ _ _ _ _ (key a h.1).len (key a h.1).at' (key b h.2).len (key b h.2).at'
    · exact .iface _ _ _ (ih _ h)
    · exact .agg' (key _ h)
    · exact .tuple' (key _ h)
    · cases h

theorem VRs.eq_of {D : Nat → Prop} {m : NMap} {a a' : List Value} (h : VRs D m a a') (hc : ∀ v ∈ a, ∀ v', VR D m v v' → v' = v) : a' = a := by
  apply List.ext_getElem? 
  intro i
  cases hv : a[i]? with
  | none =>
    rw [List.getElem?_eq_none_iff] at hv ⊢
    rw [h.len]; exact hv
  | some v =>
    obtain ⟨v', hv', hr⟩ := h.at hv
    rw [hv', hc v (List.mem_of_getElem? hv) v' hr]

theorem VR.eq_of_clean {D : Nat → Prop} {m : NMap} : ∀ (d : Nat) (v v' : Value), clean d v = true → VR D m v v' → v' = v := by
  intro d
  induction d with
  | zero => intro v v' h; simp [clean] at h
  | succ d ih =>
    intro v v' h hr
    have key : ∀ l l' : List Value, l.all (clean d) = true → VRs D m l l' → l' = l := fun l l' hl hs => hs.eq_of fun v hv v' hr => ih v v' (by simpa using (List.all_eq_true.1 hl) v hv) hr
    cases hr with
    | bool => rfl
    | int => rfl
    | float => rfl
    | complex => rfl
    | string => rfl
    | nilPtr => rfl
    | ptr => simp [clean] at h
    | nilSlice => rfl
    | slice => simp [clean] at h
    | nilMap => rfl
    | map => simp [clean] at h
    | func f a b a' b' la ha lb hb =>
      simp only [clean, Bool.and_eq_true] at h
      rw [key a a' h.1 ⟨la, ha⟩, key b b' h.2 ⟨lb, hb⟩]
    | yield => simp [clean] at h
    | nilFunc => rfl
    | nilIface => rfl
    | iface t v v' hv => rw [ih v v' (by simpa [clean] using h) hv]
    | agg a a' la ha => rw [key a a' (by simpa only [clean] using h) ⟨la, ha⟩]
    | tuple a a' la ha => rw [key a a' (by simpa only [clean] using h) ⟨la, ha⟩]

/-- what stands under a name -/
inductive Blk
  | dead
  | cells (es : Nat) (c : List Value)
  | loop (st : LoopState) (pend : Option Code) (tmps : List Value) (ps : Array Tmp) (assign body : Code) (dfr : Nat)
  | dfr
  | iter (s : ByteArray) (pos : Nat)

def BlkOk (D : Nat → Prop) (m : NMap) (w : World) (n : Nat) : Blk → Prop
  | .dead => True
  | .cells es c => (m n).es = es ∧ ∀ (i : Nat) v, c[i]? = some v → ∃ v', w.cell? ⟨(m n).block, (m n).off + i, none⟩ = some v' ∧ VR D m v v'
  | .loop st pend tmps ps assign body dfr => D dfr ∧ ∃ fn tmps', w.heap[(m n).block]? = some (.loop { state := st, pending := pend, fn, tmps := ⟨tmps'⟩, params := ps, assign, body, defers := (m dfr).block }) ∧ VRs D m tmps tmps'
  | .dfr => w.heap[(m n).block]? = some (.deferred (some []))
  | .iter s pos => w.heap[(m n).block]? = some (.stringIter s pos) ∧ (m n).off = 0

/-- cells that may be written -/
def Owns (m : NMap) (w : World) (n : Nat) : Blk → Prop
  | .cells _ c => c.length ≤ (m n).ext ∧ ∀ k, k < (m n).ext → (∃ v, w.cell? ⟨(m n).block, (m n).off + k, none⟩ = some v) ∧ w.frozen? ⟨(m n).block, (m n).off + k, none⟩ = false
  | _ => True

/-- a heap of names, and a world -/
structure Rel (B lo : Nat) (D : Nat → Prop) (m : NMap) (h : List Blk) (w : World) : Prop where
  le : B ≤ w.heap.size
  dom : ∀ n, D n → n < h.length
  ok : ∀ n b, D n → h[n]? = some b → BlkOk D m w n b
  lt : ∀ n b, D n → h[n]? = some b → b ≠ .dead → (m n).block < w.heap.size
  base : ∀ n b, D n → lo ≤ n → h[n]? = some b → b ≠ .dead → B ≤ (m n).block
  low : ∀ n b, D n → n < lo → h[n]? = some b → b ≠ .dead → (m n).block < B
  own : ∀ n b, D n → lo ≤ n → h[n]? = some b → Owns m w n b
  inj : ∀ n n' b b', D n → D n' → lo ≤ n → lo ≤ n' → h[n]? = some b → h[n']? = some b' → b ≠ .dead → b' ≠ .dead → (m n).block = (m n').block → n = n'

/-- names from a to b beside D -/
def Dx (D : Nat → Prop) (a b : Nat) : Nat → Prop := fun n => D n ∨ (a ≤ n ∧ n < b)
theorem Dx.trans {D : Nat → Prop} {a b c : Nat} (h1 : a ≤ b) (h2 : b ≤ c) : Dx (Dx D a b) b c = Dx D a c := by
  funext n; apply propext; unfold Dx
  constructor
  · rintro ((h | h) | h)
    · exact .inl h
    · exact .inr ⟨h.1, by omega⟩
    · exact .inr ⟨by omega, h.2⟩
  · rintro (h | h)
    · exact .inl (.inl h)
    · rcases Nat.lt_or_ge n b with h' | h'
      · exact .inl (.inr ⟨h.1, h'⟩)
      · exact .inr ⟨h', h.2⟩
theorem Dx.refl {D : Nat → Prop} {a : Nat} : Dx D a a = D := by
  funext n; apply propext; unfold Dx
  constructor
  · rintro (h | h)
    · exact h
    · omega
  · exact .inl
theorem Dx.l {D : Nat → Prop} {a b n : Nat} (h : D n) : Dx D a b n := .inl h

/-- what a step of the names' heap says of the world -/
structure Post (B lo : Nat) (D : Nat → Prop) (m : NMap) (h : List Blk) (w : World) (m' : NMap) (h' : List Blk) (w' : World) : Prop where
  agree : ∀ n, D n → m' n = m n
  rel : Rel B lo (Dx D h.length h'.length) m' h' w'
  below : Below B w w'
  grow : h.length ≤ h'.length

theorem Post.refl {B lo : Nat} {D : Nat → Prop} {m : NMap} {h : List Blk} {w : World} (hr : Rel B lo D m h w) : Post B lo D m h w m h w :=
  ⟨fun _ _ => rfl, by rw [Dx.refl]; exact hr, Below.refl _ _, Nat.le_refl _⟩
theorem Post.trans {B lo : Nat} {D : Nat → Prop} {m m₁ m₂ : NMap} {h h₁ h₂ : List Blk} {w w₁ w₂ : World} (p : Post B lo D m h w m₁ h₁ w₁)
    (q : Post B lo (Dx D h.length h₁.length) m₁ h₁ w₁ m₂ h₂ w₂) : Post B lo D m h w m₂ h₂ w₂ :=
  ⟨fun n hn => (q.agree n (.inl hn)).trans (p.agree n hn), by have := q.rel; rwa [Dx.trans p.grow q.grow] at this, p.below.trans q.below, Nat.le_trans p.grow q.grow⟩
theorem Post.vr {B lo : Nat} {D : Nat → Prop} {m m₁ : NMap} {h h₁ : List Blk} {w w₁ : World} (p : Post B lo D m h w m₁ h₁ w₁) {v v' : Value} (hv : VR D m v v') : VR (Dx D h.length h₁.length) m₁ v v' :=
  hv.mono (fun _ h => .inl h) p.agree
theorem Post.vrs {B lo : Nat} {D : Nat → Prop} {m m₁ : NMap} {h h₁ : List Blk} {w w₁ : World} (p : Post B lo D m h w m₁ h₁ w₁) {v v' : List Value} (hv : VRs D m v v') : VRs (Dx D h.length h₁.length) m₁ v v' :=
  hv.mono (fun _ h => .inl h) p.agree

/-- the frame: what lay before is as it was -/
theorem BlkOk.keep {D : Nat → Prop} {m : NMap} {w w' : World} {n : Nat} {b : Blk} (h : BlkOk D m w n b) (hb : b ≠ .dead → w'.heap[(m n).block]? = w.heap[(m n).block]?) : BlkOk D m w' n b := by
  cases b with
  | dead => trivial
  | cells es c =>
    refine ⟨h.1, fun i v hv => ?_⟩
    obtain ⟨v', hc, hr⟩ := h.2 i v hv
    exact ⟨v', (World.cell?_of_block (hb (by simp))).trans hc, hr⟩
  | loop st pend tmps ps assign body dfr =>
    obtain ⟨hd, fn, tmps', hh, hr⟩ := h
    exact ⟨hd, fn, tmps', (hb (by simp)).trans hh, hr⟩
  | dfr => exact (hb (by simp)).trans h
  | iter s pos => exact ⟨(hb (by simp)).trans h.1, h.2⟩
theorem Owns.keep {m : NMap} {w w' : World} {n : Nat} {b : Blk} (h : Owns m w n b) (hb : b ≠ .dead → w'.heap[(m n).block]? = w.heap[(m n).block]?) : Owns m w' n b := by
  cases b with
  | cells es c =>
    refine ⟨h.1, fun k hk => ?_⟩
    obtain ⟨⟨v, hc⟩, hf⟩ := h.2 k hk
    exact ⟨⟨v, (World.cell?_of_block (hb (by simp))).trans hc⟩, (World.frozen?_of_block (hb (by simp))).trans hf⟩
  | _ => trivial
theorem Rel.frame {B lo : Nat} {D : Nat → Prop} {m : NMap} {h : List Blk} {w w' : World} (hr : Rel B lo D m h w) (hb : Below w.heap.size w w') : Rel B lo D m h w' :=
  ⟨Nat.le_trans hr.le hb.size, hr.dom, fun n b hD hn => (hr.ok n b hD hn).keep fun hd => hb.block _ (hr.lt n b hD hn hd),
   fun n b hD hn hd => Nat.lt_of_lt_of_le (hr.lt n b hD hn hd) hb.size, hr.base, hr.low,
   fun n b hD hl hn => (hr.own n b hD hl hn).keep fun hd => hb.block _ (hr.lt n b hD hn hd), hr.inj⟩
theorem Post.frame {B lo : Nat} {D : Nat → Prop} {m : NMap} {h : List Blk} {w w' : World} (hr : Rel B lo D m h w) (hb : Below w.heap.size w w') : Post B lo D m h w m h w' :=
  ⟨fun _ _ => rfl, by rw [Dx.refl]; exact hr.frame hb, hb.mono hr.le, Nat.le_refl _⟩
/-- all names as those of others: nothing may be written -/
theorem Rel.still {B lo : Nat} {D : Nat → Prop} {m : NMap} {h : List Blk} {w : World} (hr : Rel B lo D m h w) (lo' : Nat) (hl : h.length ≤ lo') : Rel w.heap.size lo' D m h w :=
  ⟨Nat.le_refl _, hr.dom, hr.ok, hr.lt, fun n b hD hn => by have := hr.dom n hD; omega, fun n b hD _ hn hd => hr.lt n b hD hn hd, fun n b hD hn => by have := hr.dom n hD; omega, fun n n' b b' hD hD' hn => by have := hr.dom n hD; omega⟩
end Go.Rex
