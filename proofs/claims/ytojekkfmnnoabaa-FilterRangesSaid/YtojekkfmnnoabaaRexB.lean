/- An executor of the program's functions on trees of values, proved sound. -/
import Derived.Test.YtojekkfmnnoabaaRexA
import Derived.Laws.IdiomCopy
set_option linter.unusedSimpArgs false
set_option linter.unusedVariables false
set_option linter.defProp false
namespace Go.Rex
open Go.RowKit

def upd (m : NMap) (n : Nat) (i : Info) : NMap := fun k => if k = n then i else m k
theorem upd_same {m : NMap} {n : Nat} {i : Info} : upd m n i n = i := by simp [upd]
theorem upd_other {m : NMap} {n k : Nat} {i : Info} (h : k ≠ n) : upd m n i k = m k := by simp [upd, h]

theorem BlkOk.mono {D D' : Nat → Prop} {m m' : NMap} {w : World} {n : Nat} {b : Blk} (h : BlkOk D m w n b) (hD : ∀ k, D k → D' k) (hm : ∀ k, D k → m' k = m k) (hn : m' n = m n) : BlkOk D' m' w n b := by
  cases b with
  | dead => trivial
  | cells es c =>
    refine ⟨by rw [hn]; exact h.1, fun i v hv => ?_⟩
    obtain ⟨v', hc, hr⟩ := h.2 i v hv
    exact ⟨v', by rw [hn]; exact hc, hr.mono hD hm⟩
  | loop st pend tmps ps assign body dfr =>
    obtain ⟨hd, fn, tmps', hh, hr⟩ := h
    exact ⟨hD _ hd, fn, tmps', by rw [hn, hm _ hd]; exact hh, hr.mono hD hm⟩
  | dfr => show w.heap[(m' n).block]? = _; rw [hn]; exact h
  | iter s pos => exact ⟨by rw [hn]; exact h.1, by rw [hn]; exact h.2⟩
theorem Owns.congr {m m' : NMap} {w : World} {n : Nat} {b : Blk} (h : Owns m w n b) (hn : m' n = m n) : Owns m' w n b := by
  cases b with
  | cells es c => unfold Owns at *; rw [hn]; exact h
  | _ => trivial

/-- a new block -/
theorem Rel.push {B lo : Nat} {D : Nat → Prop} {m : NMap} {h : List Blk} {w : World} (hr : Rel B lo D m h w) (o : Obj) (b : Blk) (i : Info) (hi : i.block = w.heap.size) (hlo : lo ≤ h.length)
    (hok : BlkOk (Dx D h.length (h.length + 1)) (upd m h.length i) (w.alloc o) h.length b) (hown : Owns (upd m h.length i) (w.alloc o) h.length b) :
    Post B lo D m h w (upd m h.length i) (h ++ [b]) (w.alloc o) := by
  have hm : ∀ n, D n → upd m h.length i n = m n := fun n hn => upd_other (by have := hr.dom n hn; omega)
  have hb : Below w.heap.size w (w.alloc o) := (Below.refl _ _).alloc (Nat.le_refl _) o
  have old : ∀ n b', Dx D h.length (h.length + 1) n → (h ++ [b])[n]? = some b' → (D n ∧ h[n]? = some b') ∨ (n = h.length ∧ b' = b) := by
    intro n b' hn hb'
    rcases hn with hn | hn
    · left
      refine ⟨hn, ?_⟩
      rwa [List.getElem?_append_left (hr.dom n hn)] at hb'
    · right
      obtain rfl : n = h.length := by omega
      simp at hb'
      exact ⟨rfl, hb'.symm⟩
  refine ⟨hm, ?_, hb.mono hr.le, by simp⟩
  rw [show (h ++ [b]).length = h.length + 1 by simp]
  refine ⟨by have := hr.le; simp; omega, ?_, ?_, ?_, ?_, ?_, ?_, ?_⟩
  · intro n hn
    rcases hn with hn | hn
    · have := hr.dom n hn; simp; omega
    · simp; omega
  · intro n b' hn hb'
    rcases old n b' hn hb' with ⟨hD, h'⟩ | ⟨rfl, rfl⟩
    · exact ((hr.ok n b' hD h').mono (fun _ => .inl) hm (hm n hD)).keep fun hd => by rw [hm n hD]; exact hb.block _ (hr.lt n b' hD h' hd)
    · exact hok
  · intro n b' hn hb' hd
    rcases old n b' hn hb' with ⟨hD, h'⟩ | ⟨rfl, rfl⟩
    · rw [hm n hD]; have := hr.lt n b' hD h' hd; simp; omega
    · rw [upd_same, hi]; simp
  · intro n b' hn hl hb' hd
    rcases old n b' hn hb' with ⟨hD, h'⟩ | ⟨rfl, rfl⟩
    · rw [hm n hD]; exact hr.base n b' hD hl h' hd
    · rw [upd_same, hi]; exact hr.le
  · intro n b' hn hl hb' hd
    rcases old n b' hn hb' with ⟨hD, h'⟩ | ⟨rfl, rfl⟩
    · rw [hm n hD]; exact hr.low n b' hD hl h' hd
    · omega
  · intro n b' hn hl hb'
    rcases old n b' hn hb' with ⟨hD, h'⟩ | ⟨rfl, rfl⟩
    · exact ((hr.own n b' hD hl h').congr (hm n hD)).keep fun hd => by rw [hm n hD]; exact hb.block _ (hr.lt n b' hD h' hd)
    · exact hown
  · intro n n' b1 b2 hn hn' hl hl' h1 h2 hd hd' he
    rcases old n b1 hn h1 with ⟨hD, h1'⟩ | ⟨rfl, rfl⟩ <;> rcases old n' b2 hn' h2 with ⟨hD', h2'⟩ | ⟨rfl, rfl⟩
    · rw [hm n hD, hm n' hD'] at he; exact hr.inj n n' b1 b2 hD hD' hl hl' h1' h2' hd hd' he
    · rw [hm n hD, upd_same, hi] at he; have := hr.lt n b1 hD h1' hd; omega
    · rw [hm n' hD', upd_same, hi] at he; have := hr.lt n' b2 hD' h2' hd'; omega
    · rfl

/-- a change of a name's own block -/
theorem Rel.modify {B lo : Nat} {D : Nat → Prop} {m : NMap} {h : List Blk} {w w' : World} (hr : Rel B lo D m h w) {n : Nat} {b : Blk} (hD : D n) (hl : lo ≤ n) (hn : h[n]? = some b) (hb : b ≠ .dead)
    (hos : w'.os = w.os) (htp : w'.tape = w.tape) (hout : w'.output = w.output) (hsz : w'.heap.size = w.heap.size) (hoth : ∀ k, k ≠ (m n).block → w'.heap[k]? = w.heap[k]?)
    (b' : Blk) (hok : BlkOk D m w' n b') (hown : Owns m w' n b') : Post B lo D m h w m (h.set n b') w' := by
  have hlt : n < h.length := hr.dom n hD
  have hB := hr.base n b hD hl hn hb
  have old : ∀ k c, D k → (h.set n b')[k]? = some c → (k ≠ n ∧ h[k]? = some c) ∨ (k = n ∧ c = b') := by
    intro k c hk hc
    by_cases e : k = n
    · subst e; rw [List.getElem?_set_self hlt] at hc; exact .inr ⟨rfl, (Option.some.inj hc).symm⟩
    · rw [List.getElem?_set_ne (Ne.symm e)] at hc; exact .inl ⟨e, hc⟩
  have apart : ∀ k c, D k → k ≠ n → h[k]? = some c → c ≠ .dead → (m k).block ≠ (m n).block := by
    intro k c hk hne hc hd he
    rcases Nat.lt_or_ge k lo with h' | h'
    · have := hr.low k c hk h' hc hd; omega
    · exact hne (hr.inj k n c b hk hD h' hl hc hn hd hb he)
  refine ⟨fun _ _ => rfl, ?_, ⟨hos, htp, hout, by omega, fun k hk => hoth k (by omega)⟩, by simp⟩
  rw [show (h.set n b').length = h.length by simp, Dx.refl]
  refine ⟨by have := hr.le; omega, by simpa using hr.dom, ?_, ?_, ?_, ?_, ?_, ?_⟩
  · intro k c hk hc
    rcases old k c hk hc with ⟨hne, h'⟩ | ⟨rfl, rfl⟩
    · exact (hr.ok k c hk h').keep fun hd => hoth _ (apart k c hk hne h' hd)
    · exact hok
  · intro k c hk hc hd
    rcases old k c hk hc with ⟨hne, h'⟩ | ⟨rfl, rfl⟩
    · rw [hsz]; exact hr.lt k c hk h' hd
    · rw [hsz]; exact hr.lt k b hk hn hb
  · intro k c hk hl' hc hd
    rcases old k c hk hc with ⟨hne, h'⟩ | ⟨rfl, rfl⟩
    · exact hr.base k c hk hl' h' hd
    · exact hB
  · intro k c hk hl' hc hd
    rcases old k c hk hc with ⟨hne, h'⟩ | ⟨rfl, rfl⟩
    · exact hr.low k c hk hl' h' hd
    · omega
  · intro k c hk hl' hc
    rcases old k c hk hc with ⟨hne, h'⟩ | ⟨rfl, rfl⟩
    · exact (hr.own k c hk hl' h').keep fun hd => hoth _ (apart k c hk hne h' hd)
    · exact hown
  · intro k k' c c' hk hk' hl1 hl2 hc hc' hd hd' he
    rcases old k c hk hc with ⟨hne, h1⟩ | ⟨rfl, rfl⟩ <;> rcases old k' c' hk' hc' with ⟨hne', h2⟩ | ⟨rfl, rfl⟩
    · exact hr.inj k k' c c' hk hk' hl1 hl2 h1 h2 hd hd' he
    · exact absurd he (apart k c hk hne h1 hd)
    · exact absurd he.symm (apart k' c' hk' hne' h2 hd')
    · rfl

/-- a name is forgotten -/
theorem Rel.kill {B lo : Nat} {D : Nat → Prop} {m : NMap} {h : List Blk} {w : World} (hr : Rel B lo D m h w) (n : Nat) : Rel B lo D m (h.set n .dead) w := by
  have old : ∀ (k : Nat) (c : Blk), (h.set n Blk.dead)[k]? = some c → (h[k]? = some c) ∨ c = Blk.dead := by
    intro k c hc
    rw [List.getElem?_set] at hc
    split at hc
    · split at hc
      · exact .inr (Option.some.inj hc).symm
      · cases hc
    · exact .inl hc
  refine ⟨hr.le, by simpa using hr.dom, ?_, ?_, ?_, ?_, ?_, ?_⟩
  · intro k c hk hc
    rcases old k c hc with h' | rfl
    · exact hr.ok k c hk h'
    · trivial
  · intro k c hk hc hd
    rcases old k c hc with h' | rfl
    · exact hr.lt k c hk h' hd
    · exact absurd rfl hd
  · intro k c hk hl hc hd
    rcases old k c hc with h' | rfl
    · exact hr.base k c hk hl h' hd
    · exact absurd rfl hd
  · intro k c hk hl hc hd
    rcases old k c hc with h' | rfl
    · exact hr.low k c hk hl h' hd
    · exact absurd rfl hd
  · intro k c hk hl hc
    rcases old k c hc with h' | rfl
    · exact hr.own k c hk hl h'
    · trivial
  · intro k k' c c' hk hk' hl1 hl2 hc hc' hd hd' he
    rcases old k c hc with h' | rfl
    · rcases old k' c' hc' with h'' | rfl
      · exact hr.inj k k' c c' hk hk' hl1 hl2 h' h'' hd hd' he
      · exact absurd rfl hd'
    · exact absurd rfl hd
theorem Post.kill {B lo : Nat} {D : Nat → Prop} {m : NMap} {h : List Blk} {w : World} (hr : Rel B lo D m h w) (n : Nat) : Post B lo D m h w m (h.set n .dead) w :=
  ⟨fun _ _ => rfl, by rw [show (h.set n .dead).length = h.length by simp, Dx.refl]; exact hr.kill n, Below.refl _ _, by simp⟩

/-- new cells -/
theorem Rel.pushCells {B lo : Nat} {D : Nat → Prop} {m : NMap} {h : List Blk} {w : World} (hr : Rel B lo D m h w) (hlo : lo ≤ h.length) (es : Nat) {c c' : List Value} (hc : VRs D m c c') (t : TypeId) :
    Post B lo D m h w (upd m h.length ⟨w.heap.size, 0, c.length, es⟩) (h ++ [.cells es c]) (w.alloc (.cells ⟨c'⟩ t)) := by
  have hm : ∀ n, D n → upd m h.length ⟨w.heap.size, 0, c.length, es⟩ n = m n := fun n hn => upd_other (by have := hr.dom n hn; omega)
  refine hr.push _ _ _ rfl hlo ⟨by rw [upd_same], fun i v hv => ?_⟩ ?_
  · obtain ⟨v', hv', hvr⟩ := hc.at hv
    refine ⟨v', ?_, hvr.mono (fun _ => .inl) hm⟩
    rw [upd_same]
    simp [hv']
  · unfold Owns
    rw [upd_same]
    refine ⟨Nat.le_refl _, fun k hk => ⟨⟨c'[k]'(by rw [hc.len]; exact hk), ?_⟩, by simp⟩⟩
    simp only [Nat.zero_add, World.cell?_alloc_new]
    simp [List.getElem?_eq_getElem (show k < c'.length by rw [hc.len]; exact hk)]
/-- .. with more room -/
theorem Rel.pushRoom {B lo : Nat} {D : Nat → Prop} {m : NMap} {h : List Blk} {w : World} (hr : Rel B lo D m h w) (hlo : lo ≤ h.length) (es : Nat) {c c' : List Value} (hc : VRs D m c c') (rest : List Value) (t : TypeId) :
    Post B lo D m h w (upd m h.length ⟨w.heap.size, 0, c.length + rest.length, es⟩) (h ++ [.cells es c]) (w.alloc (.cells ⟨c' ++ rest⟩ t)) := by
  have hm : ∀ n, D n → upd m h.length ⟨w.heap.size, 0, c.length + rest.length, es⟩ n = m n := fun n hn => upd_other (by have := hr.dom n hn; omega)
  refine hr.push _ _ _ rfl hlo ⟨by rw [upd_same], fun i v hv => ?_⟩ ?_
  · obtain ⟨v', hv', hvr⟩ := hc.at hv
    refine ⟨v', ?_, hvr.mono (fun _ => .inl) hm⟩
    rw [upd_same]
    have hi : i < c'.length := (List.getElem?_eq_some_iff.1 hv').1
    simp [List.getElem?_append_left hi, hv']
  · unfold Owns
    rw [upd_same]
    refine ⟨Nat.le_add_right _ _, fun k hk => ⟨⟨(c' ++ rest)[k]'(by simp only [List.length_append, hc.len]; exact hk), ?_⟩, by simp⟩⟩
    simp only [Nat.zero_add, World.cell?_alloc_new]
    simp [List.getElem?_eq_getElem (show k < (c' ++ rest).length by simp only [List.length_append, hc.len]; exact hk)]

/-- the world behind a store of cells -/
theorem setCells_below {b : Nat} : ∀ (vs : List Value) (o : Nat) (w : World), (w.setCells b o vs).os = w.os ∧ (w.setCells b o vs).tape = w.tape ∧ (w.setCells b o vs).output = w.output ∧ (w.setCells b o vs).heap.size = w.heap.size ∧ ∀ k, k ≠ b → (w.setCells b o vs).heap[k]? = w.heap[k]?
  | [], o, w => ⟨rfl, rfl, rfl, rfl, fun _ _ => rfl⟩
  | v :: r, o, w => by
    have ih := setCells_below (b := b) r (o + 1) (w.setCell ⟨b, o, none⟩ v)
    simp only [World.setCells]
    refine ⟨ih.1, ih.2.1, ih.2.2.1, by rw [ih.2.2.2.1]; simp, fun k hk => (ih.2.2.2.2 k hk).trans (Below.heap_setCell _ _ _ _ hk)⟩

def splice (c : List Value) (o : Nat) (vs : List Value) : List Value := c.take o ++ vs ++ c.drop (o + vs.length)
theorem splice_len {c : List Value} {o : Nat} {vs : List Value} (h : o + vs.length ≤ c.length) : (splice c o vs).length = c.length := by
  unfold splice; simp; omega
theorem splice_in {c : List Value} {o : Nat} {vs : List Value} (h : o + vs.length ≤ c.length) {i : Nat} (h1 : o ≤ i) (h2 : i < o + vs.length) : (splice c o vs)[i]? = vs[i - o]? := by
  unfold splice
  rw [List.append_assoc, List.getElem?_append_right (by simp; omega), List.getElem?_append_left (by simp; omega)]
  simp [Nat.min_eq_left (show o ≤ c.length by omega)]
theorem splice_out {c : List Value} {o : Nat} {vs : List Value} (h : o + vs.length ≤ c.length) {i : Nat} (h1 : i < o ∨ o + vs.length ≤ i) : (splice c o vs)[i]? = c[i]? := by
  unfold splice
  rcases h1 with h1 | h1
  · rw [List.append_assoc, List.getElem?_append_left (by simp; omega), List.getElem?_take, if_pos h1]
  · rw [List.getElem?_append_right (by simp; omega), List.getElem?_drop]
    congr 1
    simp; omega

/-- a store of cells into a name's own block -/
theorem Rel.writeCells {B lo : Nat} {D : Nat → Prop} {m : NMap} {h : List Blk} {w : World} (hr : Rel B lo D m h w) {n es o : Nat} {c vs vs' : List Value} (hD : D n) (hl : lo ≤ n) (hn : h[n]? = some (.cells es c))
    (hfit : o + vs.length ≤ c.length) (hv : VRs D m vs vs') : Post B lo D m h w m (h.set n (.cells es (splice c o vs))) (w.setCells (m n).block ((m n).off + o) vs') := by
  obtain ⟨s1, s2, s3, s4, s5⟩ := setCells_below (b := (m n).block) vs' ((m n).off + o) w
  have hown := hr.own n _ hD hl hn
  have hok := hr.ok n _ hD hn
  refine hr.modify hD hl hn (by simp) s1 s2 s3 s4 s5 _ ⟨hok.1, fun i v hi => ?_⟩ ⟨by rw [splice_len hfit]; exact hown.1, fun k hk => ?_⟩
  · have hx : ∀ j, j < vs'.length → (w.cell? ⟨(m n).block, (m n).off + o + j, none⟩).isSome = true := fun j hj => by
      rw [hv.len] at hj
      have := hown.1
      obtain ⟨⟨u, hu⟩, _⟩ := hown.2 (o + j) (by omega)
      rw [Nat.add_assoc, hu]; rfl
    by_cases hin : o ≤ i ∧ i < o + vs.length
    · rw [splice_in hfit hin.1 hin.2] at hi
      obtain ⟨v', hv', hvr⟩ := hv.at hi
      refine ⟨v', ?_, hvr⟩
      have hj : i - o < vs'.length := (List.getElem?_eq_some_iff.1 hv').1
      have := World.cell?_setCells_in (m n).block vs' ((m n).off + o) w hx (i - o) hj
      rw [show (m n).off + o + (i - o) = (m n).off + i by omega] at this
      rw [this, ← hv', List.getElem?_eq_getElem hj]
    · rw [splice_out hfit (by omega)] at hi
      obtain ⟨v', hc, hvr⟩ := hok.2 i v hi
      exact ⟨v', by rw [World.cell?_setCells_out _ _ _ _ _ (fun _ _ => by simp; have := hv.len; omega)]; exact hc, hvr⟩
  · obtain ⟨⟨u, hu⟩, hf⟩ := hown.2 k hk
    refine ⟨?_, by rw [World.frozen?_setCells]; exact hf⟩
    by_cases hin : o ≤ k ∧ k < o + vs'.length
    · have hx : ∀ j, j < vs'.length → (w.cell? ⟨(m n).block, (m n).off + o + j, none⟩).isSome = true := fun j hj => by
        rw [hv.len] at hj
        have := hown.1
        obtain ⟨⟨u, hu⟩, _⟩ := hown.2 (o + j) (by omega)
        rw [Nat.add_assoc, hu]; rfl
      have := World.cell?_setCells_in (m n).block vs' ((m n).off + o) w hx (k - o) (by omega)
      rw [show (m n).off + o + (k - o) = (m n).off + k by omega] at this
      exact ⟨_, this⟩
    · exact ⟨u, by rw [World.cell?_setCells_out _ _ _ _ _ (fun _ _ => by simp; omega)]; exact hu⟩
end Go.Rex
