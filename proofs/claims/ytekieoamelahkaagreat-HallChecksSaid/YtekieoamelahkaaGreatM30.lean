/- A store of a point (four whole numbers). -/
import Derived.Test.YtekieoamelahkaaGreatM29
import Derived.Test.YtekieoamelahkaaGreatM25
set_option maxRecDepth 100000
set_option maxHeartbeats 1000000
set_option linter.unusedVariables false
set_option linter.unusedSimpArgs false
namespace Go.Proofs.YtekieoamelahkaaGreat
open Go.RowKit Go.Shelf
@[reducible] def set4 (W : World) (B : Nat) (a b c d : Int) : World :=
 (((W.setCell ⟨B, 0, none⟩ (.int .i64 a)).setCell ⟨B, 1, none⟩ (.int .i64 b)).setCell ⟨B, 2, none⟩ (.int .i64 c)).setCell ⟨B, 3, none⟩ (.int .i64 d)
theorem store_pt {W : World} {B : Nat} {a' b' c' d' : Int} (h : Four a' b' c' d' B W) (hf : ∀ i, W.frozen? ⟨B, i, none⟩ = false) (a b c d : Int) : (Instr.storeAt 95 (.pointer (some ⟨B, 0, none⟩)) (.agg #[.int .i64 a, .int .i64 b, .int .i64 c, .int .i64 d])).run Tryz.prog W = .ok () (set4 W B a b c d) := by
 obtain ⟨h0, h1, h2, h3⟩ := h
 have hB := has_of_cell h0
 unfold set4
 simp [go_sem, h0, h1, h2, h3, hf, hB]
theorem set4_other {W : World} {B n i : Nat} (a b c d : Int) (h : n ≠ B) : (set4 W B a b c d).cell? ⟨n, i, none⟩ = W.cell? ⟨n, i, none⟩ := by
 unfold set4
 refine World.cell?_of_block ?_
 repeat (refine (Below.heap_setCell _ _ _ _ h).trans ?_)
 rfl
theorem set4_fother {W : World} {B n i : Nat} (a b c d : Int) (h : n ≠ B) : (set4 W B a b c d).frozen? ⟨n, i, none⟩ = W.frozen? ⟨n, i, none⟩ := by
 unfold set4
 refine World.frozen?_of_block ?_
 repeat (refine (Below.heap_setCell _ _ _ _ h).trans ?_)
 rfl
theorem set4_below {W0 W : World} {n B : Nat} {a b c d : Int} (h : Below n W0 W) (hB : n ≤ B) : Below n W0 (set4 W B a b c d) :=
 (((h.setCell hB _).setCell hB _).setCell hB _).setCell hB _
theorem set4_four {W : World} {B : Nat} {a' b' c' d' : Int} (h : Four a' b' c' d' B W) (a b c d : Int) : Four a b c d B (set4 W B a b c d) := by
 obtain ⟨h0, h1, h2, h3⟩ := h
 unfold set4
 constructor <;> simp [go_sem, h0, h1, h2, h3]
end Go.Proofs.YtekieoamelahkaaGreat

/- CopyInts, of any list. -/
namespace Go.Proofs.YtekieoamelahkaaGreat
open Go.RowKit Go.Shelf
attribute [local go_sem] Oper.semAt_some

def FromB (b : Nat) (v : Value) : Prop := ∀ g o s n c, v = .slice (some ⟨g, o, s⟩) n c → b ≤ g
theorem encInt_1 : ∀ (w : World) (x : Int) (j : Nat), j < encInt.size → encInt.at_ w x j (fInt x j) := fun _ _ _ _ => rfl
theorem encInt_2 : ∀ (w : World) (x : Int) (j : Nat) (v : Value), j < encInt.size → encInt.at_ w x j v → v = fInt x j := fun _ _ _ _ _ h => h
theorem CopyInts_any (xs : List Int) (A : Option Addr) (n c : Nat) (w : World) (hX : SlcAt encInt w (.slice A n c) xs) :
 Calls Tryz.prog 76 #[.slice A n c] w (fun e w' => Below w.heap.size w w' ∧ ∃ v, e = .returned v ∧ SlcAt encInt w' v xs ∧ FromB w.heap.size v ∧ (∀ g o s n c, v = .slice (some ⟨g, o, s⟩) n c → g < w'.heap.size)) := by
 obtain ⟨i0, hi, hz0, hz1, hz2⟩ := info_parts info_int
 have hX' : SlcAt encInt (w.alloc (.cells #[] 3)) (.slice A n c) xs := hX.below (by (repeat' first | with_reducible (first | apply bz0 | assumption | apply bz1 | apply bz2 | apply bz3 | apply bz4 | apply bz5) | (simp <;> omega)))
 go_enter Tryz.func76, Tryz.ntmps76
 go_wp2_with (first
  | (at_builtin; refine wpList_append_slc rfl _ _ 51 rfl 3 i0 (.int .i64 0) 8 u_ints hi hz0 hz1 hz2 rfl (by decide) encInt_1 encInt_2 (fun _ _ => rfl) w.heap.size rfl ?c1 A n c xs rfl hX' (by omega) ?_))
 case c1 => show (w.heap.push _)[w.heap.size]? = _; simp
 intro v' w1 hS hF hg
 have hB : Below w.heap.size w w1 := Below.grown (show Below w.heap.size w _ by (repeat' first | with_reducible (first | apply bz0 | assumption | apply bz1 | apply bz2 | apply bz3 | apply bz4 | apply bz5) | (simp <;> omega))) hg (by simp) (fun k hk => by cases hk; exact Nat.le_refl _)
 clear hg
 go_wp2
 go_ret
 exact ⟨hB, _, rfl, hS, fun g o s n c he => (hF g o s n c he).1, fun g o s n c he => (hF g o s n c he).2⟩
end Go.Proofs.YtekieoamelahkaaGreat
