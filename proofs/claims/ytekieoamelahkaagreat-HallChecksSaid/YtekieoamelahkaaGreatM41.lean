/- Canopies in a row of one's own. -/
import Derived.Test.YtekieoamelahkaaGreatM30
import Derived.Test.YtekieoamelahkaaGreatM22
set_option maxRecDepth 100000
set_option maxHeartbeats 1000000
set_option linter.unusedVariables false
set_option linter.unusedSimpArgs false
namespace Go.Proofs.YtekieoamelahkaaGreat
open Go.RowKit Go.Shelf

theorem own_same {w w' : World} {base : Nat} {e : TypeId} {size : Nat} {v : Value} {n : Nat} {xs : List Value} (h : w.ownsRow base e size v n xs) (hs : ∀ g, v.ownBlock = some g → g < w.heap.size → w'.heap[g]? = w.heap[g]?) : w'.ownsRow base e size v n xs := by
 have hl := h.lt
 obtain ⟨h1, h | ⟨g, cap, cur, rfl, h2, h3, h4⟩⟩ := h
 · exact ⟨h1, .inl h⟩
 · exact ⟨h1, .inr ⟨g, cap, cur, rfl, h2, (hs g rfl (hl g rfl).2).trans h3, h4⟩⟩
def CansAt (H : Hal) (b : Nat) (w : World) (l : Value) (k : Nat) (vs : List Value) : Prop :=
 ∀ j, j < k → ∀ q, q < 7 → ∃ u, vs[j * 7 + q]? = some u ∧ encCan.at_ w (canAt H.cans j) q u ∧ (q = 6 → ∀ g o s n c, u = .slice (some ⟨g, o, s⟩) n c → b ≤ g ∧ g < w.heap.size ∧ l.ownBlock ≠ some g)
theorem CansAt.zero (H : Hal) (b : Nat) (w : World) (l : Value) : CansAt H b w l 0 [] := fun j hj => absurd hj (Nat.not_lt_zero j)
theorem flat_int : ∀ (w w' : World) (x : Int) (j : Nat) (v : Value), encInt.at_ w x j v → encInt.at_ w' x j v := fun _ _ _ _ _ h => h
theorem can_move {H : Hal} {b : Nat} {w w' : World} {j q : Nat} {u : Value} (hat : encCan.at_ w (canAt H.cans j) q u) (hs : w.heap.size ≤ w'.heap.size) (hb : q = 6 → ∀ g o s n c, u = .slice (some ⟨g, o, s⟩) n c → g < w.heap.size → w'.heap[g]? = w.heap[g]?) : encCan.at_ w' (canAt H.cans j) q u := by
 change (if q = 6 then _ else _) at hat
 show if q = 6 then _ else _
 by_cases h6 : q = 6
 · rw [if_pos h6] at hat ⊢
   exact hat.block flat_int hs (hb h6)
 · rw [if_neg h6] at hat ⊢
   exact hat
theorem CansAt.next {H : Hal} {b C : Nat} {wr w1 wm : World} {l l' : Value} {k : Nat} {vs : List Value} {D : Option Addr} {e : Nat} (h : CansAt H b wr l k vs) (hlen : vs.length = k * 7) (hC : C = wr.heap.size)
 (hlo : ∀ g, l.ownBlock = some g → g < wr.heap.size) (hl' : l'.ownBlock = l.ownBlock ∨ l'.ownBlock = some wm.heap.size) (hbC : b ≤ C)
 (hS : SlcAt encInt wm (.slice D (canAt H.cans k).hs.length e) (canAt H.cans k).hs) (hD : FromB (C + 1) (.slice D (canAt H.cans k).hs.length e)) (hDl : ∀ g o s, D = some ⟨g, o, s⟩ → g < wm.heap.size)
 (h1 : ∀ g, g < wr.heap.size → l.ownBlock ≠ some g → w1.heap[g]? = wr.heap[g]?) (h2 : ∀ g, C < g → g < wm.heap.size → w1.heap[g]? = wm.heap[g]?) (hs1 : wr.heap.size ≤ wm.heap.size) (hs2 : wm.heap.size ≤ w1.heap.size) :
 CansAt H b w1 l' (k + 1) (vs ++ [.string (canAt H.cans k).name, .string (canAt H.cans k).mat, .int .i64 (canAt H.cans k).f.x, .int .i64 (canAt H.cans k).f.y, .int .i64 (canAt H.cans k).t.x, .int .i64 (canAt H.cans k).t.y, .slice D (canAt H.cans k).hs.length e]) := by
 intro j hj q hq
 rcases Nat.lt_or_ge j k with hjk | hjk
 · obtain ⟨u, hu, hat, hn⟩ := h j hjk q hq
   have hlt : j * 7 + q < vs.length := by omega
   refine ⟨u, by rw [List.getElem?_append_left hlt]; exact hu, can_move (b := b) hat (by omega) (fun h6 g o s n c he hg => h1 g hg (hn h6 g o s n c he).2.2), fun h6 g o s n c he => ?_⟩
   obtain ⟨g1, g2, g3⟩ := hn h6 g o s n c he
   refine ⟨g1, by omega, ?_⟩
   rcases hl' with hl' | hl' <;> rw [hl']
   · exact g3
   · intro h; simp only [Option.some.injEq] at h; omega
 · obtain rfl : j = k := by omega
   have hi : ∀ m (hm : m < 7), (vs ++ [Value.string (canAt H.cans j).name, .string (canAt H.cans j).mat, .int .i64 (canAt H.cans j).f.x, .int .i64 (canAt H.cans j).f.y, .int .i64 (canAt H.cans j).t.x, .int .i64 (canAt H.cans j).t.y, .slice D (canAt H.cans j).hs.length e])[j * 7 + m]? = [Value.string (canAt H.cans j).name, .string (canAt H.cans j).mat, .int .i64 (canAt H.cans j).f.x, .int .i64 (canAt H.cans j).f.y, .int .i64 (canAt H.cans j).t.x, .int .i64 (canAt H.cans j).t.y, .slice D (canAt H.cans j).hs.length e][m]? := fun m hm => by
    rw [List.getElem?_append_right (by omega), hlen]
    congr 1
    omega
   have hq7 : q = 0 ∨ q = 1 ∨ q = 2 ∨ q = 3 ∨ q = 4 ∨ q = 5 ∨ q = 6 := by omega
   rcases hq7 with rfl | rfl | rfl | rfl | rfl | rfl | rfl
   · exact ⟨_, by rw [hi 0 (by omega)]; rfl, rfl, fun h => absurd h (by decide)⟩
   · exact ⟨_, by rw [hi 1 (by omega)]; rfl, rfl, fun h => absurd h (by decide)⟩
   · exact ⟨_, by rw [hi 2 (by omega)]; rfl, rfl, fun h => absurd h (by decide)⟩
   · exact ⟨_, by rw [hi 3 (by omega)]; rfl, rfl, fun h => absurd h (by decide)⟩
   · exact ⟨_, by rw [hi 4 (by omega)]; rfl, rfl, fun h => absurd h (by decide)⟩
   · exact ⟨_, by rw [hi 5 (by omega)]; rfl, rfl, fun h => absurd h (by decide)⟩
   · refine ⟨_, by rw [hi 6 (by omega)]; rfl, ?_, fun _ g o s n c he => ?_⟩
     · show SlcAt encInt w1 _ _
       refine hS.block flat_int hs2 fun g o s n c he hg => h2 g ?_ hg
       have := hD g o s n c he
       omega
     · have hdg := hD g o s n c he
       simp only [Value.slice.injEq] at he
       have hgl := hDl g o s he.1
       refine ⟨by omega, by omega, ?_⟩
       rcases hl' with hl' | hl' <;> rw [hl']
       · intro h; have := hlo g h; omega
       · intro h; simp only [Option.some.injEq] at h; omega
theorem CansAt.slc {H : Hal} {b base : Nat} {w w' : World} {l : Value} {vs : List Value} {e : TypeId} (h : CansAt H b w l H.cans.length vs) (ho : w.ownsRow base e 7 l H.cans.length vs) (hl : H.cans.length ≤ 1000000) (hs : w.heap.size ≤ w'.heap.size) (hsame : ∀ g, base ≤ g ∨ b ≤ g → g < w.heap.size → w'.heap[g]? = w.heap[g]?) : SlcAt encCan w' l H.cans := by
 refine ⟨hl, ?_⟩
 by_cases h0 : H.cans.length = 0
 · obtain ⟨A, c, rfl⟩ := own_form ho
   exact ⟨A, c, rfl, fun hp => by omega⟩
 · have hlt := ho.lt
   have hcells := @World.ownsRow.cells _ _ _ _ _ _ _ ho
   obtain ⟨g, cap, cur, rfl, hb, hg, _⟩ : ∃ g cap cur, l = .slice (some ⟨g, 0, none⟩) H.cans.length cap ∧ base ≤ g ∧ w.heap[g]? = some (.cells cur e (0, 0)) ∧ True := by
    obtain ⟨_, ⟨rfl, h1⟩ | ⟨g, cap, cur, rfl, hb, hg, _⟩⟩ := ho
    · exact absurd h1 h0
    · exact ⟨g, cap, cur, rfl, hb, hg, trivial⟩
   have hgl := (hlt g rfl).2
   have hgs := hsame g (.inl hb) hgl
   refine ⟨_, cap, rfl, fun _ => ⟨g, 0, rfl, Nat.lt_of_lt_of_le hgl hs, ?_⟩⟩
   intro i x hx j hj
   obtain ⟨hi, rfl⟩ := List.getElem?_eq_some_iff.1 hx
   obtain ⟨u, hu, hat, hn⟩ := h i hi j hj
   have e1 : canAt H.cans i = H.cans[i] := by unfold canAt; rw [List.getElem?_eq_getElem hi]; rfl
   refine ⟨u, ?_, ?_⟩
   · have := hcells (g := g) rfl (i * 7 + j) u hu
     have h2 : w'.cell? ((⟨g, 0, none⟩ : Addr).add (i * 7 + j)) = some u := by
      refine (World.cell?_of_block ?_).trans this
      have : ((⟨g, 0, none⟩ : Addr).add (i * 7 + j)).block = g := by unfold Addr.add; split <;> rfl
      rw [this]; exact hgs
     rw [← h2]
     unfold Addr.add
     split
     · rename_i hz
       show w'.cell? ⟨g, 0 + i * 7 + j, none⟩ = _
       rw [Nat.add_assoc, hz]
     · show w'.cell? ⟨g, 0 + i * 7 + j, none⟩ = w'.cell? ⟨g, 0 + (i * 7 + j), none⟩
       rw [Nat.add_assoc]
   · rw [← e1]
     exact can_move (b := b) hat hs (fun h6 g o s n c he hg => hsame g (.inr (hn h6 g o s n c he).1) hg)
end Go.Proofs.YtekieoamelahkaaGreat

/- A hall whose slices and texts have any sizes; which halls are few. -/
namespace Go.Proofs.YtekieoamelahkaaGreat
open Go.RowKit Go.Shelf
attribute [local go_sem] Oper.semAt_some

def SlcW {α : Type} (E : Enc α) (w : World) (v : Value) (xs : List α) : Prop :=
 xs.length ≤ 9223372036854775807 ∧ ∃ A c, v = .slice A xs.length c ∧ (0 < xs.length → ∃ g o, A = some ⟨g, o, none⟩ ∧ w.Has g ∧ ∀ (i : Nat) (x : α), xs[i]? = some x → ∀ j, j < E.size → ∃ u, w.cell? ⟨g, o + i * E.size + j, none⟩ = some u ∧ E.at_ w x j u)
theorem SlcW.kept {α : Type} {E : Enc α} {w w' : World} {v : Value} {xs : List α} (hb : Kept w w') (h : SlcW E w v xs) : SlcW E w' v xs := by
 obtain ⟨hl, A, c, rfl, h⟩ := h
 refine ⟨hl, A, c, rfl, fun hn => ?_⟩
 obtain ⟨g, o, rfl, hg, hc⟩ := h hn
 refine ⟨g, o, rfl, hb.has hg, fun i x hx j hj => ?_⟩
 obtain ⟨u, hu, hat⟩ := hc i x hx j hj
 exact ⟨u, hb.cell hu, E.keep hb hat⟩
theorem SlcW.below {α : Type} {E : Enc α} {w w' : World} {v : Value} {xs : List α} (hb : Below w.heap.size w w') (h : SlcW E w v xs) : SlcW E w' v xs := h.kept (.of_below hb)
theorem SlcW.few {α : Type} {E : Enc α} {w : World} {v : Value} {xs : List α} (h : SlcW E w v xs) (hn : xs.length ≤ 1000000) : SlcAt E w v xs := ⟨hn, h.2⟩
theorem slcW_form {α : Type} {E : Enc α} {w : World} {v : Value} {xs : List α} (h : SlcW E w v xs) : ∃ A c, v = .slice A xs.length c ∧ SlcW E w (.slice A xs.length c) xs := by
 obtain ⟨hl, A, c, rfl, h'⟩ := h
 exact ⟨A, c, rfl, hl, A, c, rfl, h'⟩
theorem encCanW_keep {w w' : World} {m : Can} {j : Nat} {v : Value} {q : Value} (hb : Kept w w') (h : if j = 6 then SlcW encInt w v m.hs else v = q) : if j = 6 then SlcW encInt w' v m.hs else v = q := by
 split
 · rename_i h6; simp only [h6, if_true] at h; exact h.kept hb
 · rename_i h6; simp only [h6, if_false] at h; exact h
def encCanW : Enc Can := { size := 7, at_ := fun w m j v => if j = 6 then SlcW encInt w v m.hs else v = if j = 0 then .string m.name else if j = 1 then .string m.mat else .int .i64 (if j = 2 then m.f.x else if j = 3 then m.f.y else if j = 4 then m.t.x else m.t.y), keep := fun hb h => encCanW_keep hb h }
structure HalW (w : World) (v4 v5 v6 v7 v8 : Value) (H : Hal) : Prop where
 mats : SlcW encMat w v4 H.mats
 cors : SlcW encCor w v5 H.cors
 wals : SlcW encWal w v6 H.wals
 cans : SlcW encCanW w v7 H.cans
 seas : SlcW encSea w v8 H.seas
theorem HalW.below {w w' : World} {v4 v5 v6 v7 v8 : Value} {H : Hal} (hb : Below w.heap.size w w') (h : HalW w v4 v5 v6 v7 v8 H) : HalW w' v4 v5 v6 v7 v8 H := ⟨h.mats.below hb, h.cors.below hb, h.wals.below hb, h.cans.below hb, h.seas.below hb⟩

def mostB (n u l : Int) : Bool := decide (n ≤ u) || (decide (l < n) && decide (n ≤ l + 2))
def txtB (t : ByteArray) : Bool := decide ((t.size : Int) ≤ 20)
def fewM (H : Hal) (k : Nat) : Bool := txtB (matAt H.mats k).name
def fewW (H : Hal) (k : Nat) : Bool := txtB (walAt H.wals k).name && (txtB (walAt H.wals k).mat && txtB (walAt H.wals k).cur)
def fewC (H : Hal) (k : Nat) : Bool := txtB (canAt H.cans k).name && (txtB (canAt H.cans k).mat && decide (((canAt H.cans k).hs.length : Int) ≤ 6))
def fewS (H : Hal) (k : Nat) : Bool := txtB (seaAt H.seas k).name
def fewN (H : Hal) : Bool := mostB H.cors.length 8 12 && (mostB H.wals.length 8 12 && (mostB H.mats.length 3 10 && (mostB H.cans.length 3 4 && mostB H.seas.length 3 40)))
def fewT (H : Hal) : Bool := txtB H.name && (txtB H.floor && txtB H.ceil)
def fewB (H : Hal) : Bool := fewN H && (fewT H && ((List.range H.mats.length).all (fewM H) && ((List.range H.wals.length).all (fewW H) && ((List.range H.cans.length).all (fewC H) && (List.range H.seas.length).all (fewS H)))))
theorem all_stop {n k : Nat} {f : Nat → Bool} (hk : k < n) (h : f k = false) : (List.range n).all f = false := by
 rw [List.all_eq_false]; exact ⟨k, by simpa using hk, by simp [h]⟩
theorem all_end {n : Nat} {f : Nat → Bool} (h : ∀ k, k < n → f k = true) : (List.range n).all f = true := by
 rw [List.all_eq_true]; intro k hk; exact h k (by simpa using hk)
theorem all_get {n : Nat} {f : Nat → Bool} (h : (List.range n).all f = true) (k : Nat) (hk : k < n) : f k = true := List.all_eq_true.1 h k (by simpa using hk)
theorem few_n {H : Hal} (h : fewN H = false) : fewB H = false := by unfold fewB; rw [h]; rfl
theorem few_t {H : Hal} (h : fewT H = false) : fewB H = false := by unfold fewB; rw [h]; simp
theorem few_m {H : Hal} {k : Nat} (hk : k < H.mats.length) (h : fewM H k = false) : fewB H = false := by unfold fewB; rw [all_stop hk h]; simp
theorem few_w {H : Hal} {k : Nat} (hk : k < H.wals.length) (h : fewW H k = false) : fewB H = false := by unfold fewB; rw [all_stop hk h]; simp
theorem few_c {H : Hal} {k : Nat} (hk : k < H.cans.length) (h : fewC H k = false) : fewB H = false := by unfold fewB; rw [all_stop hk h]; simp
theorem few_s {H : Hal} {k : Nat} (hk : k < H.seas.length) (h : fewS H k = false) : fewB H = false := by unfold fewB; rw [all_stop hk h]; simp
theorem few_end {H : Hal} (h1 : fewN H = true) (h2 : fewT H = true) (h3 : ∀ k, k < H.mats.length → fewM H k = true) (h4 : ∀ k, k < H.wals.length → fewW H k = true) (h5 : ∀ k, k < H.cans.length → fewC H k = true) (h6 : ∀ k, k < H.seas.length → fewS H k = true) : fewB H = true := by
 unfold fewB; rw [h1, h2, all_end h3, all_end h4, all_end h5, all_end h6]; rfl
theorem most_le {n u l : Int} (h : mostB n u l = true) (hu : u ≤ l + 2) : n ≤ l + 2 := by unfold mostB at h; simp at h; omega
theorem few_sizes {H : Hal} (h : fewN H = true) : H.cors.length ≤ 14 ∧ H.wals.length ≤ 14 ∧ H.mats.length ≤ 12 ∧ H.cans.length ≤ 6 ∧ H.seas.length ≤ 42 := by
 unfold fewN at h
 simp only [Bool.and_eq_true] at h
 obtain ⟨h1, h2, h3, h4, h5⟩ := h
 have := most_le h1 (by omega); have := most_le h2 (by omega); have := most_le h3 (by omega); have := most_le h4 (by omega); have := most_le h5 (by omega)
 omega
theorem HalW.few {w : World} {v4 v5 v6 v7 v8 : Value} {H : Hal} (h : HalW w v4 v5 v6 v7 v8 H) (hf : fewB H = true) : HalVs w v4 v5 v6 v7 v8 H := by
 unfold fewB at hf
 simp only [Bool.and_eq_true] at hf
 obtain ⟨h1, h2, h3, h4, h5, h6⟩ := hf
 obtain ⟨n1, n2, n3, n4, n5⟩ := few_sizes h1
 unfold fewT at h2
 simp only [Bool.and_eq_true, txtB, decide_eq_true_eq] at h2
 have get : ∀ {α : Type} {l : List α} {m : α}, m ∈ l → ∃ k, ∃ hk : k < l.length, l[k] = m := fun hm => List.getElem_of_mem hm
 refine ⟨⟨by omega, by omega, by omega, fun m hm => ?_, fun m hm => ?_, fun m hm => ?_, fun m hm => ?_⟩, h.mats.few (by omega), h.cors.few (by omega), h.wals.few (by omega), ?_, h.seas.few (by omega)⟩
 · obtain ⟨k, hk, rfl⟩ := get hm
   have := all_get h3 k hk
   unfold fewM txtB matAt at this
   rw [List.getElem?_eq_getElem hk] at this
   simp at this; omega
 · obtain ⟨k, hk, rfl⟩ := get hm
   have := all_get h4 k hk
   unfold fewW txtB walAt at this
   rw [List.getElem?_eq_getElem hk] at this
   simp at this; omega
 · obtain ⟨k, hk, rfl⟩ := get hm
   have := all_get h5 k hk
   unfold fewC txtB canAt at this
   rw [List.getElem?_eq_getElem hk] at this
   simp at this; omega
 · obtain ⟨k, hk, rfl⟩ := get hm
   have := all_get h6 k hk
   unfold fewS txtB seaAt at this
   rw [List.getElem?_eq_getElem hk] at this
   simp at this; omega
 · obtain ⟨_, A, c, rfl, hc⟩ := h.cans
   refine ⟨by omega, A, c, rfl, fun hn => ?_⟩
   obtain ⟨g, o, rfl, hg, hc⟩ := hc hn
   refine ⟨g, o, rfl, hg, fun i x hx j hj => ?_⟩
   obtain ⟨u, hu, hat⟩ := hc i x hx j hj
   refine ⟨u, hu, ?_⟩
   obtain ⟨hi, rfl⟩ := List.getElem?_eq_some_iff.1 hx
   have := all_get h5 i hi
   unfold fewC txtB canAt at this
   rw [List.getElem?_eq_getElem hi] at this
   simp at this
   show if j = 6 then _ else _
   change (if j = 6 then _ else _) at hat
   split
   · rename_i h6; simp only [h6, if_true] at hat; exact hat.few (by omega)
   · rename_i h6; simp only [h6, if_false] at hat; exact hat
theorem canW_at {w : World} {A : Option Addr} {n c : Nat} {xs : List Can} (h : SlcW encCanW w (.slice A n c) xs) {i : Nat} (hi : i < xs.length) :
 ∃ g o, A = some ⟨g, o, none⟩ ∧ w.Has g ∧ ∀ k, k < xs.length → w.cell? ⟨g, o + k * 7, none⟩ = some (.string (canAt xs k).name) ∧ w.cell? ⟨g, o + k * 7 + 1, none⟩ = some (.string (canAt xs k).mat) ∧
  ∃ A' c', w.cell? ⟨g, o + k * 7 + 6, none⟩ = some (.slice A' (canAt xs k).hs.length c') := by
 obtain ⟨_, A', c', he, h⟩ := h
 simp only [Value.slice.injEq] at he
 obtain ⟨rfl, rfl, rfl⟩ := he
 obtain ⟨g, o, rfl, hg, hc⟩ := h (by omega)
 refine ⟨g, o, rfl, hg, fun k hk => ?_⟩
 have h1 := hc k xs[k] (List.getElem?_eq_getElem hk)
 obtain ⟨u0, e0, q0⟩ := h1 0 (by decide)
 obtain ⟨u1, e1, q1⟩ := h1 1 (by decide)
 obtain ⟨u6, e6, q6⟩ := h1 6 (by decide)
 have q : canAt xs k = xs[k] := by unfold canAt; rw [List.getElem?_eq_getElem hk]; rfl
 rw [q]
 simp [encCanW] at e0 e1 e6 q0 q1 q6
 subst q0 q1
 obtain ⟨A', c', rfl, _⟩ := slcW_form q6
 exact ⟨by simpa using e0, by simpa using e1, A', c', by simpa using e6⟩

theorem most_any (n u l : Int) (w : World) (hl : -1000 ≤ l ∧ l ≤ 1000) : Calls Tryz.prog 67 #[.int .i64 n, .int .i64 u, .int .i64 l] w (RetX w (.bool (mostB n u l))) := by
 have e1 : IntKind.i64.wrap (l + 2) = l + 2 := IntWalk.i64_in _ (by omega)
 have hm : Hid (mostB n u l = (decide (n ≤ u) || (decide (l < n) && decide (n ≤ l + 2)))) := rfl
 rw [hm.out]
 clear hm hl
 cases q1 : decide (n ≤ u) with
 | true =>
  go_enter Tryz.func67, Tryz.ntmps67
  go_wp2
  go_ret
  refine retX_bool (by simp) ?_
  (repeat' first | with_reducible (first | apply bz0 | assumption | apply bz1 | apply bz2 | apply bz3 | apply bz4 | apply bz5) | (simp <;> omega))
 | false =>
  cases q2 : decide (l < n) with
  | true =>
   go_enter Tryz.func67, Tryz.ntmps67
   go_wp2
   go_ret
   refine retX_bool (by simp) ?_
   (repeat' first | with_reducible (first | apply bz0 | assumption | apply bz1 | apply bz2 | apply bz3 | apply bz4 | apply bz5) | (simp <;> omega))
  | false =>
   go_enter Tryz.func67, Tryz.ntmps67
   go_wp2
   go_ret
   refine retX_bool (by simp) ?_
   (repeat' first | with_reducible (first | apply bz0 | assumption | apply bz1 | apply bz2 | apply bz3 | apply bz4 | apply bz5) | (simp <;> omega))
end Go.Proofs.YtekieoamelahkaaGreat
