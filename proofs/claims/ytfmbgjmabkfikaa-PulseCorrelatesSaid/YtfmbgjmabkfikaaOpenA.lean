import Derived.Test.YtfmbgjmabkfikaaCor6
import Derived.ChangeShapes
import Derived.ChangeArms
import Derived.WideShapes
import Derived.Lib.SmallJoins
namespace Go.Proofs.Ytfmbgjmabkfikaa
open Go Go.Rex Go.RowKit Go.ChangeShapes
/-- an argument that is a slice of numbers: its name's block, and where it stands -/
structure SlArg (W : World) (v' : Value) (xs : List Int) (av : Nat → Value) (b : Blk) (i : Info) : Prop where
  vr : ∀ (D : Nat → Prop) (m : NMap) n, D n → m n = i → VR D m (av n) v'
  slv : ∀ (h : List Blk) n, h[n]? = some b → SlV h (av n) xs
  ok : ∀ (D : Nat → Prop) (m : NMap) n, m n = i → BlkOk D m W n b
  lt : b ≠ .dead → i.block < W.heap.size
/-- names for arguments only -/
theorem rel_args {W : World} (bs : List Blk) (m : NMap) (hok : ∀ (n : Nat) b, bs[n]? = some b → BlkOk (fun k => k < bs.length) m W n b) (hlt : ∀ (n : Nat) b, bs[n]? = some b → b ≠ .dead → (m n).block < W.heap.size) :
    Rel W.heap.size bs.length (fun k => k < bs.length) m bs W :=
  ⟨Nat.le_refl _, fun _ h => h, fun n b _ hb => hok n b hb, fun n b _ hb hd => hlt n b hb hd, fun n b hD hl => absurd hD (by omega), fun n b _ _ hb hd => hlt n b hb hd, fun n b hD hl => absurd hD (by omega), fun n n' b b' hD _ hl => absurd hD (by omega)⟩
theorem choose_list {α : Type} {Q : Nat → α → Prop} : ∀ n, (∀ i, i < n → ∃ x, Q i x) → ∃ xs : List α, xs.length = n ∧ ∀ (i : Nat) x, xs[i]? = some x → Q i x
  | 0, _ => ⟨[], rfl, fun i x h => by simp at h⟩
  | n + 1, h => by
    obtain ⟨xs, hl, hq⟩ := choose_list n (fun i hi => h i (by omega))
    obtain ⟨x, hx⟩ := h n (by omega)
    refine ⟨xs ++ [x], by simp [hl], fun i y hy => ?_⟩
    rcases Nat.lt_or_ge i n with hi | hi
    · rw [List.getElem?_append_left (by omega)] at hy
      exact hq i y hy
    · rw [List.getElem?_append_right (by omega), hl] at hy
      have : i = n := by
        rcases Nat.lt_or_ge 0 (i - n) with g | g
        · rw [List.getElem?_eq_none (by simp; omega)] at hy; cases hy
        · omega
      subst this
      simp at hy
      subst hy
      exact hx
section
variable {H : Type} {enc : TypeId × Value → H} {W : World} {base : Nat} {spare : Nat → Bool} {held : Bool}
theorem open_ints {P : Program} {t te : TypeId} (ht : P.underlying t = some (.slice te)) (hte : P.underlying te = some (.int .i64)) (hC : P.cellsOf te = 1) {r : Reach} {b0 : Nat} {v' : Value} (hval : Value.okWide P W r b0 t v')
    {fuel : Nat} {x : DataW H × List MemPlace} (h : DataW.trod enc P W base spare held fuel t [v'] = some x) : ∃ xs av b i, SlArg W v' xs av b i := by
  rcases DataW.trod_slice ht h with ⟨hv, _⟩ | ⟨a, len, cap, elems, rest, n, _, hv, _, hb, hlc, hcm, hel, hel2, _, _⟩
  · obtain rfl : v' = .slice none 0 0 := by simpa using hv
    exact ⟨[], fun _ => .slice none 0 0, .dead, ⟨0, 0, 0, 0⟩, fun _ _ _ _ _ => .nilSlice 0 0, fun _ _ _ => .inl ⟨rfl, rfl⟩, fun _ _ _ _ => trivial, fun h => absurd rfl h⟩
  · obtain rfl : v' = .slice (some a) len cap := by simpa using hv
    have hok : len ≤ cap ∧ (cap : Int) ≤ IntKind.i64.max ∧ W.has P r b0 a te cap := by
      unfold Value.okWide at hval
      simp only [ht] at hval
      unfold Cell.okWide at hval
      simp only [ht] at hval
      unfold Cell.ok at hval
      simpa only [ht] using hval
    obtain ⟨g, o, s⟩ := a
    obtain ⟨_, _, _, hs, row, cells, hsh, _⟩ := hok
    simp only at hs hsh
    subst hs
    have hg : g < W.heap.size := by
      unfold World.shape? at hsh
      rcases Nat.lt_or_ge g W.heap.size with hg | hg
      · exact hg
      · rw [Array.getElem?_eq_none hg] at hsh
        simp at hsh
    have key : ∀ i, i < len → ∃ x : Int, W.cell? ⟨g, o + i, none⟩ = some (.int .i64 x) := fun i hi => by
      have h1 := hel2 i hi
      rw [List.getElem?_eq_getElem (by omega), Option.bind_eq_some_iff] at h1
      obtain ⟨cs, hcs, htr⟩ := h1
      rw [hC] at hcs
      obtain ⟨y, rfl, _⟩ := DataW.trod_int hte htr
      unfold World.cells? at hcs
      split at hcs
      · have := mapM_some_get hcs 0 0 (by simp)
        refine ⟨y, ?_⟩
        have e : ((⟨g, o, none⟩ : Addr).add (i * 1)).add 0 = ⟨g, o + i, none⟩ := by
          unfold Addr.add
          split <;> simp_all
        rw [← e]
        simpa using this
      · cases hcs
    obtain ⟨xs, hl, hq⟩ := choose_list len key
    subst hl
    refine ⟨xs, fun n => .slice (some ⟨n, 0, none⟩) xs.length xs.length, .cells 1 (xs.map (.int .i64)), ⟨g, o, cap, 1⟩, fun D m n hD hm => ?_, fun h n hb => ?_, fun D m n hm => ?_, fun _ => hg⟩
    · have := VR.slice (D := D) (m := m) n 0 xs.length xs.length cap hD (Nat.le_refl _) hlc (by rw [hm]; simp)
      rw [hm] at this
      exact this
    · exact .inr ⟨n, 0, xs.length, 1, _, rfl, hb, by simp, fun i x hx => by rw [Nat.zero_add, List.getElem?_map, hx]; rfl⟩
    · refine ⟨by rw [hm], fun i v hv => ?_⟩
      rw [List.getElem?_map, Option.map_eq_some_iff] at hv
      obtain ⟨x, hx, rfl⟩ := hv
      refine ⟨.int .i64 x, by rw [hm]; exact hq i x hx, .int _ _⟩
end

end Go.Proofs.Ytfmbgjmabkfikaa
