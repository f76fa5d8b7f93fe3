/- Ways and walls of a plan: what blocks, touches and holds, as facts on numbers; a rectangle that no wall meets. -/
import Derived.Test.YtekieoamelahkaaGreatM39
import Derived.Test.YtekieoamelahkaaGreatM47
import Derived.Test.YtekieoamelahkaaGreatM12
import Derived.Test.YtekieoamelahkaaGreatM19
set_option linter.unusedVariables false
set_option linter.unusedSimpArgs false
namespace Go.Proofs.YtekieoamelahkaaGreat
open Go.RowKit Go.Shelf

def oppB (m n : Int) : Bool := decide (m < 0 ∧ 0 < n ∨ 0 < m ∧ n < 0)
def sameB (m n : Int) : Bool := decide (m < 0 ∧ n < 0 ∨ 0 < m ∧ 0 < n)
theorem spans_scale {n : Int} (h : 0 < n) (a b c d X Y W : Int) : spansB a b c d (n * X) (n * Y) (n * W) = spansB a b c d X Y W := by
 have e : ∀ m : Int, m * (n * W) = n * (m * W) := fun m => by rw [← Int.mul_assoc, Int.mul_comm m n, Int.mul_assoc]
 have l : ∀ p q : Int, decide (n * p ≤ n * q) = decide (p ≤ q) := fun p q => by
  rw [decide_eq_decide]; exact ⟨fun g => Int.le_of_mul_le_mul_left g h, fun g => Int.mul_le_mul_of_nonneg_left g (by omega)⟩
 unfold spansB
 rw [e, e, e, e, l, l, l, l]
theorem blk_core {a b c d x y x2 y2 : Int} (n u0 v0 o f : Int) (hn : 0 < n) (hx : x2 = x + n * u0) (hy : y2 = y + n * v0) (hf : offP (plK a b c d) (plA a b c d) x y 0 1 = f) (hg : offP (plK a b c d) (plA a b c d) x2 y2 0 1 = f + n * o) :
 blocksB a b c d x y 1 x2 y2 1 = if f < 0 ∧ 0 < f + n * o then spansB a b c d (x * o - u0 * f) (y * o - v0 * f) o else if 0 < f ∧ f + n * o < 0 then spansB a b c d (-(x * o - u0 * f)) (-(y * o - v0 * f)) (-o) else false := by
 unfold blocksB
 simp only [hf, hg]
 have e1 : x2 * -f - x * -(f + n * o) = n * (x * o - u0 * f) := by rw [hx]; grind
 have e2 : y2 * -f - y * -(f + n * o) = n * (y * o - v0 * f) := by rw [hy]; grind
 have e3 : 1 * -f - 1 * -(f + n * o) = n * o := by grind
 have e4 : x2 * f - x * (f + n * o) = n * -(x * o - u0 * f) := by rw [hx]; grind
 have e5 : y2 * f - y * (f + n * o) = n * -(y * o - v0 * f) := by rw [hy]; grind
 have e6 : 1 * f - 1 * (f + n * o) = n * -o := by grind
 rw [e1, e2, e3, e4, e5, e6, spans_scale hn, spans_scale hn]
theorem kind0 {a b c d : Int} (h : a = c) : plK a b c d = 0 ∧ plA a b c d = a := by unfold plK plA; rw [if_pos h, if_pos h]; exact ⟨rfl, rfl⟩
theorem kind1 {a b c d : Int} (h : a ≠ c) (h' : b = d) : plK a b c d = 1 ∧ plA a b c d = b := by unfold plK plA; rw [if_neg h, if_neg h, if_pos h', if_pos h']; exact ⟨rfl, rfl⟩
theorem kind4 {a b c d : Int} (h : a ≠ c) (h' : c - a = d - b) : plK a b c d = 4 ∧ plA a b c d = a - b := by
 have hb : b ≠ d := by omega
 unfold plK plA; rw [if_neg h, if_neg h, if_neg hb, if_neg hb, if_pos h', if_pos h']; exact ⟨rfl, rfl⟩
theorem kind3 {a b c d : Int} (h : a ≠ c) (h2 : b ≠ d) (h' : c - a = b - d) : plK a b c d = 3 ∧ plA a b c d = a + b := by
 unfold plK plA; have hb : ¬ (c - a = d - b) := by omega
 rw [if_neg h, if_neg h, if_neg h2, if_neg h2, if_neg hb, if_neg hb]; exact ⟨rfl, rfl⟩
set_option maxHeartbeats 4000000 in
theorem blocks_iff {a b r s x y u v : Int} (hM : LineOk r s) (hL : LineOk u v) :
 blocksB a b (a + r) (b + s) x y 1 (x + u) (y + v) 1 = (oppB (besL a b r s x y) (besL a b r s (x + u) (y + v)) && !sameB (besL x y u v a b) (besL x y u v (a + r) (b + s))) := by
 unfold besL besI
 rcases dirs hM with ⟨rfl, h1⟩ | ⟨rfl, h1⟩ | ⟨h1, rfl⟩ | ⟨h1, rfl⟩ | ⟨h1, rfl⟩ | ⟨h1, rfl⟩ | ⟨h1, rfl⟩ | ⟨h1, rfl⟩
 · obtain ⟨k, A⟩ := kind0 (a := a) (b := b) (c := a + 0) (d := b + s) (by omega)
   rcases dirs hL with ⟨rfl, h2⟩ | ⟨rfl, h2⟩ | ⟨h2, rfl⟩ | ⟨h2, rfl⟩ | ⟨h2, rfl⟩ | ⟨h2, rfl⟩ | ⟨h2, rfl⟩ | ⟨h2, rfl⟩
   · rw [blk_core v 0 1 0 (x - a) (by omega) (by omega) (by omega) (by rw [k, A]; simp [offP]; try omega) (by rw [k, A]; simp [offP]; try omega), show signI 0 = 0 from rfl, sgn_pos h1, sgn_pos h2]
     (simp only [oppB, sameB, spansB]; split; (rw [Bool.eq_iff_iff]; simp; omega); split; (rw [Bool.eq_iff_iff]; simp; omega); (rw [Bool.eq_iff_iff]; simp; omega))
   · rw [blk_core (-v) 0 (-1) 0 (x - a) (by omega) (by omega) (by omega) (by rw [k, A]; simp [offP]; try omega) (by rw [k, A]; simp [offP]; try omega), show signI 0 = 0 from rfl, sgn_pos h1, sgn_neg h2]
     (simp only [oppB, sameB, spansB]; split; (rw [Bool.eq_iff_iff]; simp; omega); split; (rw [Bool.eq_iff_iff]; simp; omega); (rw [Bool.eq_iff_iff]; simp; omega))
   · rw [blk_core u 1 0 1 (x - a) (by omega) (by omega) (by omega) (by rw [k, A]; simp [offP]; try omega) (by rw [k, A]; simp [offP]; try omega), show signI 0 = 0 from rfl, sgn_pos h1, sgn_pos h2]
     (simp only [oppB, sameB, spansB]; split; (rw [Bool.eq_iff_iff]; simp; omega); split; (rw [Bool.eq_iff_iff]; simp; omega); (rw [Bool.eq_iff_iff]; simp; omega))
   · rw [blk_core (-u) (-1) 0 (-1) (x - a) (by omega) (by omega) (by omega) (by rw [k, A]; simp [offP]; try omega) (by rw [k, A]; simp [offP]; try omega), show signI 0 = 0 from rfl, sgn_pos h1, sgn_neg h2]
     (simp only [oppB, sameB, spansB]; split; (rw [Bool.eq_iff_iff]; simp; omega); split; (rw [Bool.eq_iff_iff]; simp; omega); (rw [Bool.eq_iff_iff]; simp; omega))
   · rw [blk_core v 1 1 1 (x - a) (by omega) (by omega) (by omega) (by rw [k, A]; simp [offP]; try omega) (by rw [k, A]; simp [offP]; try omega), show signI 0 = 0 from rfl, sgn_pos h1, sgn_pos h2]
     (simp only [oppB, sameB, spansB]; split; (rw [Bool.eq_iff_iff]; simp; omega); split; (rw [Bool.eq_iff_iff]; simp; omega); (rw [Bool.eq_iff_iff]; simp; omega))
   · rw [blk_core (-v) (-1) (-1) (-1) (x - a) (by omega) (by omega) (by omega) (by rw [k, A]; simp [offP]; try omega) (by rw [k, A]; simp [offP]; try omega), show signI 0 = 0 from rfl, sgn_pos h1, sgn_neg h2]
     (simp only [oppB, sameB, spansB]; split; (rw [Bool.eq_iff_iff]; simp; omega); split; (rw [Bool.eq_iff_iff]; simp; omega); (rw [Bool.eq_iff_iff]; simp; omega))
   · rw [blk_core u 1 (-1) 1 (x - a) (by omega) (by omega) (by omega) (by rw [k, A]; simp [offP]; try omega) (by rw [k, A]; simp [offP]; try omega), show signI 0 = 0 from rfl, sgn_pos h1, sgn_pos h2, show signI (-u) = -1 by unfold signI; split <;> (try split) <;> omega]
     (simp only [oppB, sameB, spansB]; split; (rw [Bool.eq_iff_iff]; simp; omega); split; (rw [Bool.eq_iff_iff]; simp; omega); (rw [Bool.eq_iff_iff]; simp; omega))
   · rw [blk_core (-u) (-1) 1 (-1) (x - a) (by omega) (by omega) (by omega) (by rw [k, A]; simp [offP]; try omega) (by rw [k, A]; simp [offP]; try omega), show signI 0 = 0 from rfl, sgn_pos h1, sgn_neg h2, show signI (-u) = 1 by unfold signI; split <;> (try split) <;> omega]
     (simp only [oppB, sameB, spansB]; split; (rw [Bool.eq_iff_iff]; simp; omega); split; (rw [Bool.eq_iff_iff]; simp; omega); (rw [Bool.eq_iff_iff]; simp; omega))
 · obtain ⟨k, A⟩ := kind0 (a := a) (b := b) (c := a + 0) (d := b + s) (by omega)
   rcases dirs hL with ⟨rfl, h2⟩ | ⟨rfl, h2⟩ | ⟨h2, rfl⟩ | ⟨h2, rfl⟩ | ⟨h2, rfl⟩ | ⟨h2, rfl⟩ | ⟨h2, rfl⟩ | ⟨h2, rfl⟩
   · rw [blk_core v 0 1 0 (x - a) (by omega) (by omega) (by omega) (by rw [k, A]; simp [offP]; try omega) (by rw [k, A]; simp [offP]; try omega), show signI 0 = 0 from rfl, sgn_neg h1, sgn_pos h2]
     (simp only [oppB, sameB, spansB]; split; (rw [Bool.eq_iff_iff]; simp; omega); split; (rw [Bool.eq_iff_iff]; simp; omega); (rw [Bool.eq_iff_iff]; simp; omega))
   · rw [blk_core (-v) 0 (-1) 0 (x - a) (by omega) (by omega) (by omega) (by rw [k, A]; simp [offP]; try omega) (by rw [k, A]; simp [offP]; try omega), show signI 0 = 0 from rfl, sgn_neg h1, sgn_neg h2]
     (simp only [oppB, sameB, spansB]; split; (rw [Bool.eq_iff_iff]; simp; omega); split; (rw [Bool.eq_iff_iff]; simp; omega); (rw [Bool.eq_iff_iff]; simp; omega))
   · rw [blk_core u 1 0 1 (x - a) (by omega) (by omega) (by omega) (by rw [k, A]; simp [offP]; try omega) (by rw [k, A]; simp [offP]; try omega), show signI 0 = 0 from rfl, sgn_neg h1, sgn_pos h2]
     (simp only [oppB, sameB, spansB]; split; (rw [Bool.eq_iff_iff]; simp; omega); split; (rw [Bool.eq_iff_iff]; simp; omega); (rw [Bool.eq_iff_iff]; simp; omega))
   · rw [blk_core (-u) (-1) 0 (-1) (x - a) (by omega) (by omega) (by omega) (by rw [k, A]; simp [offP]; try omega) (by rw [k, A]; simp [offP]; try omega), show signI 0 = 0 from rfl, sgn_neg h1, sgn_neg h2]
     (simp only [oppB, sameB, spansB]; split; (rw [Bool.eq_iff_iff]; simp; omega); split; (rw [Bool.eq_iff_iff]; simp; omega); (rw [Bool.eq_iff_iff]; simp; omega))
   · rw [blk_core v 1 1 1 (x - a) (by omega) (by omega) (by omega) (by rw [k, A]; simp [offP]; try omega) (by rw [k, A]; simp [offP]; try omega), show signI 0 = 0 from rfl, sgn_neg h1, sgn_pos h2]
     (simp only [oppB, sameB, spansB]; split; (rw [Bool.eq_iff_iff]; simp; omega); split; (rw [Bool.eq_iff_iff]; simp; omega); (rw [Bool.eq_iff_iff]; simp; omega))
   · rw [blk_core (-v) (-1) (-1) (-1) (x - a) (by omega) (by omega) (by omega) (by rw [k, A]; simp [offP]; try omega) (by rw [k, A]; simp [offP]; try omega), show signI 0 = 0 from rfl, sgn_neg h1, sgn_neg h2]
     (simp only [oppB, sameB, spansB]; split; (rw [Bool.eq_iff_iff]; simp; omega); split; (rw [Bool.eq_iff_iff]; simp; omega); (rw [Bool.eq_iff_iff]; simp; omega))
   · rw [blk_core u 1 (-1) 1 (x - a) (by omega) (by omega) (by omega) (by rw [k, A]; simp [offP]; try omega) (by rw [k, A]; simp [offP]; try omega), show signI 0 = 0 from rfl, sgn_neg h1, sgn_pos h2, show signI (-u) = -1 by unfold signI; split <;> (try split) <;> omega]
     (simp only [oppB, sameB, spansB]; split; (rw [Bool.eq_iff_iff]; simp; omega); split; (rw [Bool.eq_iff_iff]; simp; omega); (rw [Bool.eq_iff_iff]; simp; omega))
   · rw [blk_core (-u) (-1) 1 (-1) (x - a) (by omega) (by omega) (by omega) (by rw [k, A]; simp [offP]; try omega) (by rw [k, A]; simp [offP]; try omega), show signI 0 = 0 from rfl, sgn_neg h1, sgn_neg h2, show signI (-u) = 1 by unfold signI; split <;> (try split) <;> omega]
     (simp only [oppB, sameB, spansB]; split; (rw [Bool.eq_iff_iff]; simp; omega); split; (rw [Bool.eq_iff_iff]; simp; omega); (rw [Bool.eq_iff_iff]; simp; omega))
 · obtain ⟨k, A⟩ := kind1 (a := a) (b := b) (c := a + r) (d := b + 0) (by omega) (by omega)
   rcases dirs hL with ⟨rfl, h2⟩ | ⟨rfl, h2⟩ | ⟨h2, rfl⟩ | ⟨h2, rfl⟩ | ⟨h2, rfl⟩ | ⟨h2, rfl⟩ | ⟨h2, rfl⟩ | ⟨h2, rfl⟩
   · rw [blk_core v 0 1 1 (y - b) (by omega) (by omega) (by omega) (by rw [k, A]; simp [offP]; try omega) (by rw [k, A]; simp [offP]; try omega), show signI 0 = 0 from rfl, sgn_pos h1, sgn_pos h2]
     (simp only [oppB, sameB, spansB]; split; (rw [Bool.eq_iff_iff]; simp; omega); split; (rw [Bool.eq_iff_iff]; simp; omega); (rw [Bool.eq_iff_iff]; simp; omega))
   · rw [blk_core (-v) 0 (-1) (-1) (y - b) (by omega) (by omega) (by omega) (by rw [k, A]; simp [offP]; try omega) (by rw [k, A]; simp [offP]; try omega), show signI 0 = 0 from rfl, sgn_pos h1, sgn_neg h2]
     (simp only [oppB, sameB, spansB]; split; (rw [Bool.eq_iff_iff]; simp; omega); split; (rw [Bool.eq_iff_iff]; simp; omega); (rw [Bool.eq_iff_iff]; simp; omega))
   · rw [blk_core u 1 0 0 (y - b) (by omega) (by omega) (by omega) (by rw [k, A]; simp [offP]; try omega) (by rw [k, A]; simp [offP]; try omega), show signI 0 = 0 from rfl, sgn_pos h1, sgn_pos h2]
     (simp only [oppB, sameB, spansB]; split; (rw [Bool.eq_iff_iff]; simp; omega); split; (rw [Bool.eq_iff_iff]; simp; omega); (rw [Bool.eq_iff_iff]; simp; omega))
   · rw [blk_core (-u) (-1) 0 0 (y - b) (by omega) (by omega) (by omega) (by rw [k, A]; simp [offP]; try omega) (by rw [k, A]; simp [offP]; try omega), show signI 0 = 0 from rfl, sgn_pos h1, sgn_neg h2]
     (simp only [oppB, sameB, spansB]; split; (rw [Bool.eq_iff_iff]; simp; omega); split; (rw [Bool.eq_iff_iff]; simp; omega); (rw [Bool.eq_iff_iff]; simp; omega))
   · rw [blk_core v 1 1 1 (y - b) (by omega) (by omega) (by omega) (by rw [k, A]; simp [offP]; try omega) (by rw [k, A]; simp [offP]; try omega), show signI 0 = 0 from rfl, sgn_pos h1, sgn_pos h2]
     (simp only [oppB, sameB, spansB]; split; (rw [Bool.eq_iff_iff]; simp; omega); split; (rw [Bool.eq_iff_iff]; simp; omega); (rw [Bool.eq_iff_iff]; simp; omega))
   · rw [blk_core (-v) (-1) (-1) (-1) (y - b) (by omega) (by omega) (by omega) (by rw [k, A]; simp [offP]; try omega) (by rw [k, A]; simp [offP]; try omega), show signI 0 = 0 from rfl, sgn_pos h1, sgn_neg h2]
     (simp only [oppB, sameB, spansB]; split; (rw [Bool.eq_iff_iff]; simp; omega); split; (rw [Bool.eq_iff_iff]; simp; omega); (rw [Bool.eq_iff_iff]; simp; omega))
   · rw [blk_core u 1 (-1) (-1) (y - b) (by omega) (by omega) (by omega) (by rw [k, A]; simp [offP]; try omega) (by rw [k, A]; simp [offP]; try omega), show signI 0 = 0 from rfl, sgn_pos h1, sgn_pos h2, show signI (-u) = -1 by unfold signI; split <;> (try split) <;> omega]
     (simp only [oppB, sameB, spansB]; split; (rw [Bool.eq_iff_iff]; simp; omega); split; (rw [Bool.eq_iff_iff]; simp; omega); (rw [Bool.eq_iff_iff]; simp; omega))
   · rw [blk_core (-u) (-1) 1 1 (y - b) (by omega) (by omega) (by omega) (by rw [k, A]; simp [offP]; try omega) (by rw [k, A]; simp [offP]; try omega), show signI 0 = 0 from rfl, sgn_pos h1, sgn_neg h2, show signI (-u) = 1 by unfold signI; split <;> (try split) <;> omega]
     (simp only [oppB, sameB, spansB]; split; (rw [Bool.eq_iff_iff]; simp; omega); split; (rw [Bool.eq_iff_iff]; simp; omega); (rw [Bool.eq_iff_iff]; simp; omega))
 · obtain ⟨k, A⟩ := kind1 (a := a) (b := b) (c := a + r) (d := b + 0) (by omega) (by omega)
   rcases dirs hL with ⟨rfl, h2⟩ | ⟨rfl, h2⟩ | ⟨h2, rfl⟩ | ⟨h2, rfl⟩ | ⟨h2, rfl⟩ | ⟨h2, rfl⟩ | ⟨h2, rfl⟩ | ⟨h2, rfl⟩
   · rw [blk_core v 0 1 1 (y - b) (by omega) (by omega) (by omega) (by rw [k, A]; simp [offP]; try omega) (by rw [k, A]; simp [offP]; try omega), show signI 0 = 0 from rfl, sgn_neg h1, sgn_pos h2]
     (simp only [oppB, sameB, spansB]; split; (rw [Bool.eq_iff_iff]; simp; omega); split; (rw [Bool.eq_iff_iff]; simp; omega); (rw [Bool.eq_iff_iff]; simp; omega))
   · rw [blk_core (-v) 0 (-1) (-1) (y - b) (by omega) (by omega) (by omega) (by rw [k, A]; simp [offP]; try omega) (by rw [k, A]; simp [offP]; try omega), show signI 0 = 0 from rfl, sgn_neg h1, sgn_neg h2]
     (simp only [oppB, sameB, spansB]; split; (rw [Bool.eq_iff_iff]; simp; omega); split; (rw [Bool.eq_iff_iff]; simp; omega); (rw [Bool.eq_iff_iff]; simp; omega))
   · rw [blk_core u 1 0 0 (y - b) (by omega) (by omega) (by omega) (by rw [k, A]; simp [offP]; try omega) (by rw [k, A]; simp [offP]; try omega), show signI 0 = 0 from rfl, sgn_neg h1, sgn_pos h2]
     (simp only [oppB, sameB, spansB]; split; (rw [Bool.eq_iff_iff]; simp; omega); split; (rw [Bool.eq_iff_iff]; simp; omega); (rw [Bool.eq_iff_iff]; simp; omega))
   · rw [blk_core (-u) (-1) 0 0 (y - b) (by omega) (by omega) (by omega) (by rw [k, A]; simp [offP]; try omega) (by rw [k, A]; simp [offP]; try omega), show signI 0 = 0 from rfl, sgn_neg h1, sgn_neg h2]
     (simp only [oppB, sameB, spansB]; split; (rw [Bool.eq_iff_iff]; simp; omega); split; (rw [Bool.eq_iff_iff]; simp; omega); (rw [Bool.eq_iff_iff]; simp; omega))
   · rw [blk_core v 1 1 1 (y - b) (by omega) (by omega) (by omega) (by rw [k, A]; simp [offP]; try omega) (by rw [k, A]; simp [offP]; try omega), show signI 0 = 0 from rfl, sgn_neg h1, sgn_pos h2]
     (simp only [oppB, sameB, spansB]; split; (rw [Bool.eq_iff_iff]; simp; omega); split; (rw [Bool.eq_iff_iff]; simp; omega); (rw [Bool.eq_iff_iff]; simp; omega))
   · rw [blk_core (-v) (-1) (-1) (-1) (y - b) (by omega) (by omega) (by omega) (by rw [k, A]; simp [offP]; try omega) (by rw [k, A]; simp [offP]; try omega), show signI 0 = 0 from rfl, sgn_neg h1, sgn_neg h2]
     (simp only [oppB, sameB, spansB]; split; (rw [Bool.eq_iff_iff]; simp; omega); split; (rw [Bool.eq_iff_iff]; simp; omega); (rw [Bool.eq_iff_iff]; simp; omega))
   · rw [blk_core u 1 (-1) (-1) (y - b) (by omega) (by omega) (by omega) (by rw [k, A]; simp [offP]; try omega) (by rw [k, A]; simp [offP]; try omega), show signI 0 = 0 from rfl, sgn_neg h1, sgn_pos h2, show signI (-u) = -1 by unfold signI; split <;> (try split) <;> omega]
     (simp only [oppB, sameB, spansB]; split; (rw [Bool.eq_iff_iff]; simp; omega); split; (rw [Bool.eq_iff_iff]; simp; omega); (rw [Bool.eq_iff_iff]; simp; omega))
   · rw [blk_core (-u) (-1) 1 1 (y - b) (by omega) (by omega) (by omega) (by rw [k, A]; simp [offP]; try omega) (by rw [k, A]; simp [offP]; try omega), show signI 0 = 0 from rfl, sgn_neg h1, sgn_neg h2, show signI (-u) = 1 by unfold signI; split <;> (try split) <;> omega]
     (simp only [oppB, sameB, spansB]; split; (rw [Bool.eq_iff_iff]; simp; omega); split; (rw [Bool.eq_iff_iff]; simp; omega); (rw [Bool.eq_iff_iff]; simp; omega))
 · obtain ⟨k, A⟩ := kind4 (a := a) (b := b) (c := a + s) (d := b + s) (by omega) (by omega)
   rcases dirs hL with ⟨rfl, h2⟩ | ⟨rfl, h2⟩ | ⟨h2, rfl⟩ | ⟨h2, rfl⟩ | ⟨h2, rfl⟩ | ⟨h2, rfl⟩ | ⟨h2, rfl⟩ | ⟨h2, rfl⟩
   · rw [blk_core v 0 1 (-1) (x - y - (a - b)) (by omega) (by omega) (by omega) (by rw [k, A]; simp [offP]; try omega) (by rw [k, A]; simp [offP]; try omega), sgn_pos h1, show signI 0 = 0 from rfl, sgn_pos h2]
     (simp only [oppB, sameB, spansB]; split; (rw [Bool.eq_iff_iff]; simp; omega); split; (rw [Bool.eq_iff_iff]; simp; omega); (rw [Bool.eq_iff_iff]; simp; omega))
   · rw [blk_core (-v) 0 (-1) 1 (x - y - (a - b)) (by omega) (by omega) (by omega) (by rw [k, A]; simp [offP]; try omega) (by rw [k, A]; simp [offP]; try omega), sgn_pos h1, show signI 0 = 0 from rfl, sgn_neg h2]
     (simp only [oppB, sameB, spansB]; split; (rw [Bool.eq_iff_iff]; simp; omega); split; (rw [Bool.eq_iff_iff]; simp; omega); (rw [Bool.eq_iff_iff]; simp; omega))
   · rw [blk_core u 1 0 1 (x - y - (a - b)) (by omega) (by omega) (by omega) (by rw [k, A]; simp [offP]; try omega) (by rw [k, A]; simp [offP]; try omega), sgn_pos h1, show signI 0 = 0 from rfl, sgn_pos h2]
     (simp only [oppB, sameB, spansB]; split; (rw [Bool.eq_iff_iff]; simp; omega); split; (rw [Bool.eq_iff_iff]; simp; omega); (rw [Bool.eq_iff_iff]; simp; omega))
   · rw [blk_core (-u) (-1) 0 (-1) (x - y - (a - b)) (by omega) (by omega) (by omega) (by rw [k, A]; simp [offP]; try omega) (by rw [k, A]; simp [offP]; try omega), sgn_pos h1, show signI 0 = 0 from rfl, sgn_neg h2]
     (simp only [oppB, sameB, spansB]; split; (rw [Bool.eq_iff_iff]; simp; omega); split; (rw [Bool.eq_iff_iff]; simp; omega); (rw [Bool.eq_iff_iff]; simp; omega))
   · rw [blk_core v 1 1 0 (x - y - (a - b)) (by omega) (by omega) (by omega) (by rw [k, A]; simp [offP]; try omega) (by rw [k, A]; simp [offP]; try omega), sgn_pos h1, sgn_pos h2]
     (simp only [oppB, sameB, spansB]; split; (rw [Bool.eq_iff_iff]; simp; omega); split; (rw [Bool.eq_iff_iff]; simp; omega); (rw [Bool.eq_iff_iff]; simp; omega))
   · rw [blk_core (-v) (-1) (-1) 0 (x - y - (a - b)) (by omega) (by omega) (by omega) (by rw [k, A]; simp [offP]; try omega) (by rw [k, A]; simp [offP]; try omega), sgn_pos h1, sgn_neg h2]
     (simp only [oppB, sameB, spansB]; split; (rw [Bool.eq_iff_iff]; simp; omega); split; (rw [Bool.eq_iff_iff]; simp; omega); (rw [Bool.eq_iff_iff]; simp; omega))
   · rw [blk_core u 1 (-1) 2 (x - y - (a - b)) (by omega) (by omega) (by omega) (by rw [k, A]; simp [offP]; try omega) (by rw [k, A]; simp [offP]; try omega), sgn_pos h1, sgn_pos h2, show signI (-u) = -1 by unfold signI; split <;> (try split) <;> omega]
     (simp only [oppB, sameB, spansB]; split; (rw [Bool.eq_iff_iff]; simp; omega); split; (rw [Bool.eq_iff_iff]; simp; omega); (rw [Bool.eq_iff_iff]; simp; omega))
   · rw [blk_core (-u) (-1) 1 (-2) (x - y - (a - b)) (by omega) (by omega) (by omega) (by rw [k, A]; simp [offP]; try omega) (by rw [k, A]; simp [offP]; try omega), sgn_pos h1, sgn_neg h2, show signI (-u) = 1 by unfold signI; split <;> (try split) <;> omega]
     (simp only [oppB, sameB, spansB]; split; (rw [Bool.eq_iff_iff]; simp; omega); split; (rw [Bool.eq_iff_iff]; simp; omega); (rw [Bool.eq_iff_iff]; simp; omega))
 · obtain ⟨k, A⟩ := kind4 (a := a) (b := b) (c := a + s) (d := b + s) (by omega) (by omega)
   rcases dirs hL with ⟨rfl, h2⟩ | ⟨rfl, h2⟩ | ⟨h2, rfl⟩ | ⟨h2, rfl⟩ | ⟨h2, rfl⟩ | ⟨h2, rfl⟩ | ⟨h2, rfl⟩ | ⟨h2, rfl⟩
   · rw [blk_core v 0 1 (-1) (x - y - (a - b)) (by omega) (by omega) (by omega) (by rw [k, A]; simp [offP]; try omega) (by rw [k, A]; simp [offP]; try omega), sgn_neg h1, show signI 0 = 0 from rfl, sgn_pos h2]
     (simp only [oppB, sameB, spansB]; split; (rw [Bool.eq_iff_iff]; simp; omega); split; (rw [Bool.eq_iff_iff]; simp; omega); (rw [Bool.eq_iff_iff]; simp; omega))
   · rw [blk_core (-v) 0 (-1) 1 (x - y - (a - b)) (by omega) (by omega) (by omega) (by rw [k, A]; simp [offP]; try omega) (by rw [k, A]; simp [offP]; try omega), sgn_neg h1, show signI 0 = 0 from rfl, sgn_neg h2]
     (simp only [oppB, sameB, spansB]; split; (rw [Bool.eq_iff_iff]; simp; omega); split; (rw [Bool.eq_iff_iff]; simp; omega); (rw [Bool.eq_iff_iff]; simp; omega))
   · rw [blk_core u 1 0 1 (x - y - (a - b)) (by omega) (by omega) (by omega) (by rw [k, A]; simp [offP]; try omega) (by rw [k, A]; simp [offP]; try omega), sgn_neg h1, show signI 0 = 0 from rfl, sgn_pos h2]
     (simp only [oppB, sameB, spansB]; split; (rw [Bool.eq_iff_iff]; simp; omega); split; (rw [Bool.eq_iff_iff]; simp; omega); (rw [Bool.eq_iff_iff]; simp; omega))
   · rw [blk_core (-u) (-1) 0 (-1) (x - y - (a - b)) (by omega) (by omega) (by omega) (by rw [k, A]; simp [offP]; try omega) (by rw [k, A]; simp [offP]; try omega), sgn_neg h1, show signI 0 = 0 from rfl, sgn_neg h2]
     (simp only [oppB, sameB, spansB]; split; (rw [Bool.eq_iff_iff]; simp; omega); split; (rw [Bool.eq_iff_iff]; simp; omega); (rw [Bool.eq_iff_iff]; simp; omega))
   · rw [blk_core v 1 1 0 (x - y - (a - b)) (by omega) (by omega) (by omega) (by rw [k, A]; simp [offP]; try omega) (by rw [k, A]; simp [offP]; try omega), sgn_neg h1, sgn_pos h2]
     (simp only [oppB, sameB, spansB]; split; (rw [Bool.eq_iff_iff]; simp; omega); split; (rw [Bool.eq_iff_iff]; simp; omega); (rw [Bool.eq_iff_iff]; simp; omega))
   · rw [blk_core (-v) (-1) (-1) 0 (x - y - (a - b)) (by omega) (by omega) (by omega) (by rw [k, A]; simp [offP]; try omega) (by rw [k, A]; simp [offP]; try omega), sgn_neg h1, sgn_neg h2]
     (simp only [oppB, sameB, spansB]; split; (rw [Bool.eq_iff_iff]; simp; omega); split; (rw [Bool.eq_iff_iff]; simp; omega); (rw [Bool.eq_iff_iff]; simp; omega))
   · rw [blk_core u 1 (-1) 2 (x - y - (a - b)) (by omega) (by omega) (by omega) (by rw [k, A]; simp [offP]; try omega) (by rw [k, A]; simp [offP]; try omega), sgn_neg h1, sgn_pos h2, show signI (-u) = -1 by unfold signI; split <;> (try split) <;> omega]
     (simp only [oppB, sameB, spansB]; split; (rw [Bool.eq_iff_iff]; simp; omega); split; (rw [Bool.eq_iff_iff]; simp; omega); (rw [Bool.eq_iff_iff]; simp; omega))
   · rw [blk_core (-u) (-1) 1 (-2) (x - y - (a - b)) (by omega) (by omega) (by omega) (by rw [k, A]; simp [offP]; try omega) (by rw [k, A]; simp [offP]; try omega), sgn_neg h1, sgn_neg h2, show signI (-u) = 1 by unfold signI; split <;> (try split) <;> omega]
     (simp only [oppB, sameB, spansB]; split; (rw [Bool.eq_iff_iff]; simp; omega); split; (rw [Bool.eq_iff_iff]; simp; omega); (rw [Bool.eq_iff_iff]; simp; omega))
 · obtain ⟨k, A⟩ := kind3 (a := a) (b := b) (c := a + r) (d := b + -r) (by omega) (by omega) (by omega)
   rcases dirs hL with ⟨rfl, h2⟩ | ⟨rfl, h2⟩ | ⟨h2, rfl⟩ | ⟨h2, rfl⟩ | ⟨h2, rfl⟩ | ⟨h2, rfl⟩ | ⟨h2, rfl⟩ | ⟨h2, rfl⟩
   · rw [blk_core v 0 1 1 (x + y - (a + b)) (by omega) (by omega) (by omega) (by rw [k, A]; simp [offP]; try omega) (by rw [k, A]; simp [offP]; try omega), sgn_pos h1, show signI (-r) = -1 by unfold signI; split <;> (try split) <;> omega, show signI 0 = 0 from rfl, sgn_pos h2]
     (simp only [oppB, sameB, spansB]; split; (rw [Bool.eq_iff_iff]; simp; omega); split; (rw [Bool.eq_iff_iff]; simp; omega); (rw [Bool.eq_iff_iff]; simp; omega))
   · rw [blk_core (-v) 0 (-1) (-1) (x + y - (a + b)) (by omega) (by omega) (by omega) (by rw [k, A]; simp [offP]; try omega) (by rw [k, A]; simp [offP]; try omega), sgn_pos h1, show signI (-r) = -1 by unfold signI; split <;> (try split) <;> omega, show signI 0 = 0 from rfl, sgn_neg h2]
     (simp only [oppB, sameB, spansB]; split; (rw [Bool.eq_iff_iff]; simp; omega); split; (rw [Bool.eq_iff_iff]; simp; omega); (rw [Bool.eq_iff_iff]; simp; omega))
   · rw [blk_core u 1 0 1 (x + y - (a + b)) (by omega) (by omega) (by omega) (by rw [k, A]; simp [offP]; try omega) (by rw [k, A]; simp [offP]; try omega), sgn_pos h1, show signI (-r) = -1 by unfold signI; split <;> (try split) <;> omega, show signI 0 = 0 from rfl, sgn_pos h2]
     (simp only [oppB, sameB, spansB]; split; (rw [Bool.eq_iff_iff]; simp; omega); split; (rw [Bool.eq_iff_iff]; simp; omega); (rw [Bool.eq_iff_iff]; simp; omega))
   · rw [blk_core (-u) (-1) 0 (-1) (x + y - (a + b)) (by omega) (by omega) (by omega) (by rw [k, A]; simp [offP]; try omega) (by rw [k, A]; simp [offP]; try omega), sgn_pos h1, show signI (-r) = -1 by unfold signI; split <;> (try split) <;> omega, show signI 0 = 0 from rfl, sgn_neg h2]
     (simp only [oppB, sameB, spansB]; split; (rw [Bool.eq_iff_iff]; simp; omega); split; (rw [Bool.eq_iff_iff]; simp; omega); (rw [Bool.eq_iff_iff]; simp; omega))
   · rw [blk_core v 1 1 2 (x + y - (a + b)) (by omega) (by omega) (by omega) (by rw [k, A]; simp [offP]; try omega) (by rw [k, A]; simp [offP]; try omega), sgn_pos h1, show signI (-r) = -1 by unfold signI; split <;> (try split) <;> omega, sgn_pos h2]
     (simp only [oppB, sameB, spansB]; split; (rw [Bool.eq_iff_iff]; simp; omega); split; (rw [Bool.eq_iff_iff]; simp; omega); (rw [Bool.eq_iff_iff]; simp; omega))
   · rw [blk_core (-v) (-1) (-1) (-2) (x + y - (a + b)) (by omega) (by omega) (by omega) (by rw [k, A]; simp [offP]; try omega) (by rw [k, A]; simp [offP]; try omega), sgn_pos h1, show signI (-r) = -1 by unfold signI; split <;> (try split) <;> omega, sgn_neg h2]
     (simp only [oppB, sameB, spansB]; split; (rw [Bool.eq_iff_iff]; simp; omega); split; (rw [Bool.eq_iff_iff]; simp; omega); (rw [Bool.eq_iff_iff]; simp; omega))
   · rw [blk_core u 1 (-1) 0 (x + y - (a + b)) (by omega) (by omega) (by omega) (by rw [k, A]; simp [offP]; try omega) (by rw [k, A]; simp [offP]; try omega), sgn_pos h1, show signI (-r) = -1 by unfold signI; split <;> (try split) <;> omega, sgn_pos h2, show signI (-u) = -1 by unfold signI; split <;> (try split) <;> omega]
     (simp only [oppB, sameB, spansB]; split; (rw [Bool.eq_iff_iff]; simp; omega); split; (rw [Bool.eq_iff_iff]; simp; omega); (rw [Bool.eq_iff_iff]; simp; omega))
   · rw [blk_core (-u) (-1) 1 0 (x + y - (a + b)) (by omega) (by omega) (by omega) (by rw [k, A]; simp [offP]; try omega) (by rw [k, A]; simp [offP]; try omega), sgn_pos h1, show signI (-r) = -1 by unfold signI; split <;> (try split) <;> omega, sgn_neg h2, show signI (-u) = 1 by unfold signI; split <;> (try split) <;> omega]
     (simp only [oppB, sameB, spansB]; split; (rw [Bool.eq_iff_iff]; simp; omega); split; (rw [Bool.eq_iff_iff]; simp; omega); (rw [Bool.eq_iff_iff]; simp; omega))
 · obtain ⟨k, A⟩ := kind3 (a := a) (b := b) (c := a + r) (d := b + -r) (by omega) (by omega) (by omega)
   rcases dirs hL with ⟨rfl, h2⟩ | ⟨rfl, h2⟩ | ⟨h2, rfl⟩ | ⟨h2, rfl⟩ | ⟨h2, rfl⟩ | ⟨h2, rfl⟩ | ⟨h2, rfl⟩ | ⟨h2, rfl⟩
   · rw [blk_core v 0 1 1 (x + y - (a + b)) (by omega) (by omega) (by omega) (by rw [k, A]; simp [offP]; try omega) (by rw [k, A]; simp [offP]; try omega), sgn_neg h1, show signI (-r) = 1 by unfold signI; split <;> (try split) <;> omega, show signI 0 = 0 from rfl, sgn_pos h2]
     (simp only [oppB, sameB, spansB]; split; (rw [Bool.eq_iff_iff]; simp; omega); split; (rw [Bool.eq_iff_iff]; simp; omega); (rw [Bool.eq_iff_iff]; simp; omega))
   · rw [blk_core (-v) 0 (-1) (-1) (x + y - (a + b)) (by omega) (by omega) (by omega) (by rw [k, A]; simp [offP]; try omega) (by rw [k, A]; simp [offP]; try omega), sgn_neg h1, show signI (-r) = 1 by unfold signI; split <;> (try split) <;> omega, show signI 0 = 0 from rfl, sgn_neg h2]
     (simp only [oppB, sameB, spansB]; split; (rw [Bool.eq_iff_iff]; simp; omega); split; (rw [Bool.eq_iff_iff]; simp; omega); (rw [Bool.eq_iff_iff]; simp; omega))
   · rw [blk_core u 1 0 1 (x + y - (a + b)) (by omega) (by omega) (by omega) (by rw [k, A]; simp [offP]; try omega) (by rw [k, A]; simp [offP]; try omega), sgn_neg h1, show signI (-r) = 1 by unfold signI; split <;> (try split) <;> omega, show signI 0 = 0 from rfl, sgn_pos h2]
     (simp only [oppB, sameB, spansB]; split; (rw [Bool.eq_iff_iff]; simp; omega); split; (rw [Bool.eq_iff_iff]; simp; omega); (rw [Bool.eq_iff_iff]; simp; omega))
   · rw [blk_core (-u) (-1) 0 (-1) (x + y - (a + b)) (by omega) (by omega) (by omega) (by rw [k, A]; simp [offP]; try omega) (by rw [k, A]; simp [offP]; try omega), sgn_neg h1, show signI (-r) = 1 by unfold signI; split <;> (try split) <;> omega, show signI 0 = 0 from rfl, sgn_neg h2]
     (simp only [oppB, sameB, spansB]; split; (rw [Bool.eq_iff_iff]; simp; omega); split; (rw [Bool.eq_iff_iff]; simp; omega); (rw [Bool.eq_iff_iff]; simp; omega))
   · rw [blk_core v 1 1 2 (x + y - (a + b)) (by omega) (by omega) (by omega) (by rw [k, A]; simp [offP]; try omega) (by rw [k, A]; simp [offP]; try omega), sgn_neg h1, show signI (-r) = 1 by unfold signI; split <;> (try split) <;> omega, sgn_pos h2]
     (simp only [oppB, sameB, spansB]; split; (rw [Bool.eq_iff_iff]; simp; omega); split; (rw [Bool.eq_iff_iff]; simp; omega); (rw [Bool.eq_iff_iff]; simp; omega))
   · rw [blk_core (-v) (-1) (-1) (-2) (x + y - (a + b)) (by omega) (by omega) (by omega) (by rw [k, A]; simp [offP]; try omega) (by rw [k, A]; simp [offP]; try omega), sgn_neg h1, show signI (-r) = 1 by unfold signI; split <;> (try split) <;> omega, sgn_neg h2]
     (simp only [oppB, sameB, spansB]; split; (rw [Bool.eq_iff_iff]; simp; omega); split; (rw [Bool.eq_iff_iff]; simp; omega); (rw [Bool.eq_iff_iff]; simp; omega))
   · rw [blk_core u 1 (-1) 0 (x + y - (a + b)) (by omega) (by omega) (by omega) (by rw [k, A]; simp [offP]; try omega) (by rw [k, A]; simp [offP]; try omega), sgn_neg h1, show signI (-r) = 1 by unfold signI; split <;> (try split) <;> omega, sgn_pos h2, show signI (-u) = -1 by unfold signI; split <;> (try split) <;> omega]
     (simp only [oppB, sameB, spansB]; split; (rw [Bool.eq_iff_iff]; simp; omega); split; (rw [Bool.eq_iff_iff]; simp; omega); (rw [Bool.eq_iff_iff]; simp; omega))
   · rw [blk_core (-u) (-1) 1 0 (x + y - (a + b)) (by omega) (by omega) (by omega) (by rw [k, A]; simp [offP]; try omega) (by rw [k, A]; simp [offP]; try omega), sgn_neg h1, show signI (-r) = 1 by unfold signI; split <;> (try split) <;> omega, sgn_neg h2, show signI (-u) = 1 by unfold signI; split <;> (try split) <;> omega]
     (simp only [oppB, sameB, spansB]; split; (rw [Bool.eq_iff_iff]; simp; omega); split; (rw [Bool.eq_iff_iff]; simp; omega); (rw [Bool.eq_iff_iff]; simp; omega))
theorem besL_start (x y u v : Int) : besL x y u v x y = 0 := by unfold besL besI; simp
theorem besL_end {u v : Int} (h : LineOk u v) (x y : Int) : besL x y u v (x + u) (y + v) = 0 := by
 unfold besL besI
 rcases dirs h with ⟨rfl, h1⟩ | ⟨rfl, h1⟩ | ⟨h1, rfl⟩ | ⟨h1, rfl⟩ | ⟨h1, rfl⟩ | ⟨h1, rfl⟩ | ⟨h1, rfl⟩ | ⟨h1, rfl⟩
 · rw [sgn_zero, sgn_pos h1]; omega
 · rw [sgn_zero, sgn_neg h1]; omega
 · rw [sgn_zero, sgn_pos h1]; omega
 · rw [sgn_zero, sgn_neg h1]; omega
 · rw [sgn_pos h1]; omega
 · rw [sgn_neg h1]; omega
 · rw [sgn_pos h1, sgn_neg (show -u < 0 by omega)]; omega
 · rw [sgn_neg h1, sgn_pos (show 0 < -u by omega)]; omega
theorem hasP_iff {x y u v px py : Int} (h : LineOk u v) : hasP x y u v px py 1 = true ↔ besL x y u v px py = 0 ∧ 0 ≤ aloI x y (signI u) (signI v) px py 1 ∧ aloI x y (signI u) (signI v) px py 1 ≤ signI u * u + signI v * v := by
 have e : fulI (longI u v) (signI u) (signI v) = signI u * u + signI v * v := by
  unfold fulI longI sizeI
  rcases dirs h with ⟨rfl, h1⟩ | ⟨rfl, h1⟩ | ⟨h1, rfl⟩ | ⟨h1, rfl⟩ | ⟨h1, rfl⟩ | ⟨h1, rfl⟩ | ⟨h1, rfl⟩ | ⟨h1, rfl⟩
  · rw [sgn_zero, sgn_pos h1]; (repeat' split) <;> omega
  · rw [sgn_zero, sgn_neg h1]; (repeat' split) <;> omega
  · rw [sgn_zero, sgn_pos h1]; (repeat' split) <;> omega
  · rw [sgn_zero, sgn_neg h1]; (repeat' split) <;> omega
  · rw [sgn_pos h1]; (repeat' split) <;> omega
  · rw [sgn_neg h1]; (repeat' split) <;> omega
  · rw [sgn_pos h1, sgn_neg (show -u < 0 by omega)]; (repeat' split) <;> omega
  · rw [sgn_neg h1, sgn_pos (show 0 < -u by omega)]; (repeat' split) <;> omega
 unfold hasP wiB besL
 rw [e, Int.mul_one]
 simp
theorem opp_has {a b r s x y u v : Int} (hM : LineOk r s) (hL : LineOk u v) (ho : oppB (besL a b r s x y) (besL a b r s (x + u) (y + v)) = true) :
 (besL x y u v a b = 0 → hasP x y u v a b 1 = true) ∧ (besL x y u v (a + r) (b + s) = 0 → hasP x y u v (a + r) (b + s) 1 = true) := by
 rw [hasP_iff hL, hasP_iff hL]
 unfold oppB besL besI at ho
 unfold besL besI aloI
 replace ho := of_decide_eq_true ho
 rcases dirs hM with ⟨rfl, h1⟩ | ⟨rfl, h1⟩ | ⟨h1, rfl⟩ | ⟨h1, rfl⟩ | ⟨h1, rfl⟩ | ⟨h1, rfl⟩ | ⟨h1, rfl⟩ | ⟨h1, rfl⟩
 · rw [show signI 0 = 0 from rfl, sgn_pos h1] at ho
   rcases dirs hL with ⟨rfl, h2⟩ | ⟨rfl, h2⟩ | ⟨h2, rfl⟩ | ⟨h2, rfl⟩ | ⟨h2, rfl⟩ | ⟨h2, rfl⟩ | ⟨h2, rfl⟩ | ⟨h2, rfl⟩
   · rw [show signI 0 = 0 from rfl, sgn_pos h2]; omega
   · rw [show signI 0 = 0 from rfl, sgn_neg h2]; omega
   · rw [sgn_pos h2, show signI 0 = 0 from rfl]; omega
   · rw [sgn_neg h2, show signI 0 = 0 from rfl]; omega
   · rw [sgn_pos h2]; omega
   · rw [sgn_neg h2]; omega
   · rw [sgn_pos h2, show signI (-u) = -1 by unfold signI; split <;> (try split) <;> omega]; omega
   · rw [sgn_neg h2, show signI (-u) = 1 by unfold signI; split <;> (try split) <;> omega]; omega
 · rw [show signI 0 = 0 from rfl, sgn_neg h1] at ho
   rcases dirs hL with ⟨rfl, h2⟩ | ⟨rfl, h2⟩ | ⟨h2, rfl⟩ | ⟨h2, rfl⟩ | ⟨h2, rfl⟩ | ⟨h2, rfl⟩ | ⟨h2, rfl⟩ | ⟨h2, rfl⟩
   · rw [show signI 0 = 0 from rfl, sgn_pos h2]; omega
   · rw [show signI 0 = 0 from rfl, sgn_neg h2]; omega
   · rw [sgn_pos h2, show signI 0 = 0 from rfl]; omega
   · rw [sgn_neg h2, show signI 0 = 0 from rfl]; omega
   · rw [sgn_pos h2]; omega
   · rw [sgn_neg h2]; omega
   · rw [sgn_pos h2, show signI (-u) = -1 by unfold signI; split <;> (try split) <;> omega]; omega
   · rw [sgn_neg h2, show signI (-u) = 1 by unfold signI; split <;> (try split) <;> omega]; omega
 · rw [sgn_pos h1, show signI 0 = 0 from rfl] at ho
   rcases dirs hL with ⟨rfl, h2⟩ | ⟨rfl, h2⟩ | ⟨h2, rfl⟩ | ⟨h2, rfl⟩ | ⟨h2, rfl⟩ | ⟨h2, rfl⟩ | ⟨h2, rfl⟩ | ⟨h2, rfl⟩
   · rw [show signI 0 = 0 from rfl, sgn_pos h2]; omega
   · rw [show signI 0 = 0 from rfl, sgn_neg h2]; omega
   · rw [sgn_pos h2, show signI 0 = 0 from rfl]; omega
   · rw [sgn_neg h2, show signI 0 = 0 from rfl]; omega
   · rw [sgn_pos h2]; omega
   · rw [sgn_neg h2]; omega
   · rw [sgn_pos h2, show signI (-u) = -1 by unfold signI; split <;> (try split) <;> omega]; omega
   · rw [sgn_neg h2, show signI (-u) = 1 by unfold signI; split <;> (try split) <;> omega]; omega
 · rw [sgn_neg h1, show signI 0 = 0 from rfl] at ho
   rcases dirs hL with ⟨rfl, h2⟩ | ⟨rfl, h2⟩ | ⟨h2, rfl⟩ | ⟨h2, rfl⟩ | ⟨h2, rfl⟩ | ⟨h2, rfl⟩ | ⟨h2, rfl⟩ | ⟨h2, rfl⟩
   · rw [show signI 0 = 0 from rfl, sgn_pos h2]; omega
   · rw [show signI 0 = 0 from rfl, sgn_neg h2]; omega
   · rw [sgn_pos h2, show signI 0 = 0 from rfl]; omega
   · rw [sgn_neg h2, show signI 0 = 0 from rfl]; omega
   · rw [sgn_pos h2]; omega
   · rw [sgn_neg h2]; omega
   · rw [sgn_pos h2, show signI (-u) = -1 by unfold signI; split <;> (try split) <;> omega]; omega
   · rw [sgn_neg h2, show signI (-u) = 1 by unfold signI; split <;> (try split) <;> omega]; omega
 · rw [sgn_pos h1] at ho
   rcases dirs hL with ⟨rfl, h2⟩ | ⟨rfl, h2⟩ | ⟨h2, rfl⟩ | ⟨h2, rfl⟩ | ⟨h2, rfl⟩ | ⟨h2, rfl⟩ | ⟨h2, rfl⟩ | ⟨h2, rfl⟩
   · rw [show signI 0 = 0 from rfl, sgn_pos h2]; omega
   · rw [show signI 0 = 0 from rfl, sgn_neg h2]; omega
   · rw [sgn_pos h2, show signI 0 = 0 from rfl]; omega
   · rw [sgn_neg h2, show signI 0 = 0 from rfl]; omega
   · rw [sgn_pos h2]; omega
   · rw [sgn_neg h2]; omega
   · rw [sgn_pos h2, show signI (-u) = -1 by unfold signI; split <;> (try split) <;> omega]; omega
   · rw [sgn_neg h2, show signI (-u) = 1 by unfold signI; split <;> (try split) <;> omega]; omega
 · rw [sgn_neg h1] at ho
   rcases dirs hL with ⟨rfl, h2⟩ | ⟨rfl, h2⟩ | ⟨h2, rfl⟩ | ⟨h2, rfl⟩ | ⟨h2, rfl⟩ | ⟨h2, rfl⟩ | ⟨h2, rfl⟩ | ⟨h2, rfl⟩
   · rw [show signI 0 = 0 from rfl, sgn_pos h2]; omega
   · rw [show signI 0 = 0 from rfl, sgn_neg h2]; omega
   · rw [sgn_pos h2, show signI 0 = 0 from rfl]; omega
   · rw [sgn_neg h2, show signI 0 = 0 from rfl]; omega
   · rw [sgn_pos h2]; omega
   · rw [sgn_neg h2]; omega
   · rw [sgn_pos h2, show signI (-u) = -1 by unfold signI; split <;> (try split) <;> omega]; omega
   · rw [sgn_neg h2, show signI (-u) = 1 by unfold signI; split <;> (try split) <;> omega]; omega
 · rw [sgn_pos h1, show signI (-r) = -1 by unfold signI; split <;> (try split) <;> omega] at ho
   rcases dirs hL with ⟨rfl, h2⟩ | ⟨rfl, h2⟩ | ⟨h2, rfl⟩ | ⟨h2, rfl⟩ | ⟨h2, rfl⟩ | ⟨h2, rfl⟩ | ⟨h2, rfl⟩ | ⟨h2, rfl⟩
   · rw [show signI 0 = 0 from rfl, sgn_pos h2]; omega
   · rw [show signI 0 = 0 from rfl, sgn_neg h2]; omega
   · rw [sgn_pos h2, show signI 0 = 0 from rfl]; omega
   · rw [sgn_neg h2, show signI 0 = 0 from rfl]; omega
   · rw [sgn_pos h2]; omega
   · rw [sgn_neg h2]; omega
   · rw [sgn_pos h2, show signI (-u) = -1 by unfold signI; split <;> (try split) <;> omega]; omega
   · rw [sgn_neg h2, show signI (-u) = 1 by unfold signI; split <;> (try split) <;> omega]; omega
 · rw [sgn_neg h1, show signI (-r) = 1 by unfold signI; split <;> (try split) <;> omega] at ho
   rcases dirs hL with ⟨rfl, h2⟩ | ⟨rfl, h2⟩ | ⟨h2, rfl⟩ | ⟨h2, rfl⟩ | ⟨h2, rfl⟩ | ⟨h2, rfl⟩ | ⟨h2, rfl⟩ | ⟨h2, rfl⟩
   · rw [show signI 0 = 0 from rfl, sgn_pos h2]; omega
   · rw [show signI 0 = 0 from rfl, sgn_neg h2]; omega
   · rw [sgn_pos h2, show signI 0 = 0 from rfl]; omega
   · rw [sgn_neg h2, show signI 0 = 0 from rfl]; omega
   · rw [sgn_pos h2]; omega
   · rw [sgn_neg h2]; omega
   · rw [sgn_pos h2, show signI (-u) = -1 by unfold signI; split <;> (try split) <;> omega]; omega
   · rw [sgn_neg h2, show signI (-u) = 1 by unfold signI; split <;> (try split) <;> omega]; omega
theorem sgn_opp (m n : Int) : decide (signI m * signI n < 0) = oppB m n := by
 unfold signI oppB
 rw [decide_eq_decide]
 (repeat' split) <;> constructor <;> intro h <;> omega
def prB (x y dx dy p q r s : Int) : Bool := oppB (besL x y dx dy p q) (besL x y dx dy (p + r) (q + s)) && oppB (besL p q r s x y) (besL p q r s (x + dx) (y + dy))
theorem prB_comm (x y dx dy p q r s : Int) : prB x y dx dy p q r s = prB p q r s x y dx dy := Bool.and_comm _ _
theorem touch_pr (x y dx dy p q r s : Int) : touchB x y dx dy p q r s =
 ((hasP x y dx dy p q 1 || (hasP x y dx dy (p + r) (q + s) 1 || (hasP p q r s x y 1 || hasP p q r s (x + dx) (y + dy) 1))) || prB x y dx dy p q r s) := by
 unfold touchB prB
 rw [sgn_opp, sgn_opp]
theorem opp_same {m n : Int} (h : oppB m n = true) : sameB m n = false := by
 unfold oppB at h; unfold sameB
 have h := of_decide_eq_true h
 exact decide_eq_false (by omega)
theorem pr_blocks {x y u v a b r s : Int} (hL : LineOk u v) (hM : LineOk r s) (h : prB x y u v a b r s = true) : blocksB a b (a + r) (b + s) x y 1 (x + u) (y + v) 1 = true := by
 unfold prB at h
 rw [Bool.and_eq_true] at h
 rw [blocks_iff hM hL, h.2, opp_same h.1]
 rfl
theorem blocks_pr {x y u v a b r s : Int} (hL : LineOk u v) (hM : LineOk r s) (h : blocksB a b (a + r) (b + s) x y 1 (x + u) (y + v) 1 = true) :
 prB x y u v a b r s = true ∨ hasP x y u v a b 1 = true ∨ hasP x y u v (a + r) (b + s) 1 = true := by
 rw [blocks_iff hM hL, Bool.and_eq_true, Bool.not_eq_true'] at h
 obtain ⟨h1, h2⟩ := h
 have h3 := opp_has hM hL h1
 unfold sameB at h2
 have h2 := of_decide_eq_false h2
 by_cases e1 : besL x y u v a b = 0
 · exact .inr (.inl (h3.1 e1))
 · by_cases e2 : besL x y u v (a + r) (b + s) = 0
   · exact .inr (.inr (h3.2 e2))
   · refine .inl ?_
     unfold prB
     rw [h1, Bool.and_true]
     unfold oppB
     exact decide_eq_true (by omega)
theorem blocks_zero1 {x y u v a b r s : Int} (hL : LineOk u v) (hM : LineOk r s) (h : besL a b r s x y = 0) : blocksB a b (a + r) (b + s) x y 1 (x + u) (y + v) 1 = false := by
 rw [blocks_iff hM hL, h]
 unfold oppB
 simp
theorem blocks_zero2 {x y u v a b r s : Int} (hL : LineOk u v) (hM : LineOk r s) (h : besL a b r s (x + u) (y + v) = 0) : blocksB a b (a + r) (b + s) x y 1 (x + u) (y + v) 1 = false := by
 rw [blocks_iff hM hL, h]
 unfold oppB
 simp

def pairB (n : Nat) (Hs T : Nat → Nat → Bool) (i k : Nat) : Bool :=
 if k = i + 1 then (Hs k i || Hs i (nxt n k)) || (decide (i = 0 ∧ k + 1 = n) && (Hs k (nxt n i) || Hs i k))
 else if i = 0 ∧ k + 1 = n then Hs k (nxt n i) || Hs i k else T i k
theorem simple_abs {n : Nat} (hn : 3 ≤ n) (Hs Bl Pr T : Nat → Nat → Bool)
 (FT : ∀ i k, i < n → k < n → T i k = ((Hs i k || (Hs i (nxt n k) || (Hs k i || Hs k (nxt n i)))) || Pr i k))
 (F2 : ∀ i k, i < n → k < n → Pr i k = true → Bl k i = true) (F3 : ∀ i k, i < n → k < n → Bl k i = true → Pr i k = true ∨ Hs i k = true ∨ Hs i (nxt n k) = true)
 (F4 : ∀ i, i < n → Bl (nxt n i) i = false) (F5 : ∀ i, i < n → Bl i (nxt n i) = false) (FS : ∀ i k, Pr i k = Pr k i) :
 (∀ i, i < n → ∀ j, j < n → (!decide (i = j) && (Bl j i || (!decide (nxt n j = i) && Hs j i))) = false) ↔ (∀ i, i < n → ∀ k, i < k → k < n → pairB n Hs T i k = false) := by
 have nx : ∀ i, i < n → (nxt n i = i + 1 ∧ i + 1 < n) ∨ (nxt n i = 0 ∧ i + 1 = n) := fun i hi => by unfold nxt; split <;> omega
 constructor
 · intro h i hi k hik hk
   have P1 : ∀ i j, i < n → j < n → i ≠ j → Bl j i = false := fun i j hi hj e => by
    have := h i hi j hj
    simp [e] at this
    exact this.1
   have P2 : ∀ i j, i < n → j < n → i ≠ j → nxt n j ≠ i → Hs j i = false := fun i j hi hj e e' => by
    have := h i hi j hj
    simp [e, e'] at this
    exact this.2
   have h1 := nx i hi
   have h2 := nx k hk
   unfold pairB
   split
   · rename_i e
     have a1 := P2 i k hi hk (by omega) (by omega)
     have a2 := P2 (nxt n k) i (by omega) hi (by omega) (by omega)
     rw [a1, a2]
     have : decide (i = 0 ∧ k + 1 = n) = false := decide_eq_false (by omega)
     rw [this]; rfl
   · split
     · have a1 := P2 (nxt n i) k (by omega) hk (by omega) (by omega)
       have a2 := P2 k i hk hi (by omega) (by omega)
       rw [a1, a2]; rfl
     · rw [FT i k hi hk, P2 k i hk hi (by omega) (by omega), P2 (nxt n k) i (by omega) hi (by omega) (by omega), P2 i k hi hk (by omega) (by omega), P2 (nxt n i) k (by omega) hk (by omega) (by omega)]
       cases q : Pr i k with
       | false => rfl
       | true => have := F2 i k hi hk q; rw [P1 i k hi hk (by omega)] at this; exact absurd this (by decide)
 · intro h i hi j hj
   by_cases e : i = j
   · simp [e]
   have h1 := nx i hi
   have h2 := nx j hj
   -- walls that are no neighbours, in any order
   have TT : nxt n i ≠ j → nxt n j ≠ i → Hs i j = false ∧ Hs i (nxt n j) = false ∧ Hs j i = false ∧ Hs j (nxt n i) = false ∧ Pr i j = false := fun e1 e2 => by
    rcases Nat.lt_or_gt_of_ne e with hl | hl
    · have := h i hi j hl hj
      unfold pairB at this
      rw [if_neg (by omega), if_neg (by omega), FT i j hi hj] at this
      simp at this
      exact ⟨this.1.1, this.1.2.1, this.1.2.2.1, this.1.2.2.2, this.2⟩
    · have := h j hj i hl hi
      unfold pairB at this
      rw [if_neg (by omega), if_neg (by omega), FT j i hj hi] at this
      simp at this
      exact ⟨this.1.2.2.1, this.1.2.2.2, this.1.1, this.1.2.1, by rw [FS]; exact this.2⟩
   have B1 : Bl j i = false := by
    by_cases e1 : nxt n i = j
    · rw [← e1]; exact F4 i hi
    · by_cases e2 : nxt n j = i
      · rw [← e2]; exact F5 j hj
      · have tt := TT e1 e2
        cases q : Bl j i with
        | false => rfl
        | true =>
         rcases F3 i j hi hj q with g | g | g
         · rw [tt.2.2.2.2] at g; exact absurd g (by decide)
         · rw [tt.1] at g; exact absurd g (by decide)
         · rw [tt.2.1] at g; exact absurd g (by decide)
   have B2 : nxt n j ≠ i → Hs j i = false := fun e2 => by
    by_cases e1 : nxt n i = j
    · -- j comes behind i
      rcases h1 with ⟨g1, g2⟩ | ⟨g1, g2⟩
      · have := h i hi j (by omega) hj
        unfold pairB at this
        rw [if_pos (by omega)] at this
        simp at this
        exact this.1.1
      · have := h j hj i (by omega) hi
        unfold pairB at this
        rw [if_neg (by omega), if_pos (by omega)] at this
        simp at this
        exact this.2
    · exact (TT e1 e2).2.2.1
   rw [B1]
   by_cases e2 : nxt n j = i
   · simp [e2]
   · rw [B2 e2]; simp
theorem no_has {x y u v px py : Int} (h : LineOk u v) (hh : hasP x y u v px py 1 = false) : ¬ (besL x y u v px py = 0 ∧ 0 ≤ aloI x y (signI u) (signI v) px py 1 ∧ aloI x y (signI u) (signI v) px py 1 ≤ signI u * u + signI v * v) := by
 intro hc
 rw [(hasP_iff h).2 hc] at hh
 exact absurd hh (by decide)
theorem no_blk {a b r s x y u v : Int} (hM : LineOk r s) (hL : LineOk u v) (h : blocksB a b (a + r) (b + s) x y 1 (x + u) (y + v) 1 = false) :
 ¬ ((besL a b r s x y < 0 ∧ 0 < besL a b r s (x + u) (y + v) ∨ 0 < besL a b r s x y ∧ besL a b r s (x + u) (y + v) < 0) ∧ ¬ (besL x y u v a b < 0 ∧ besL x y u v (a + r) (b + s) < 0 ∨ 0 < besL x y u v a b ∧ 0 < besL x y u v (a + r) (b + s))) := by
 intro hc
 rw [blocks_iff hM hL] at h
 unfold oppB sameB at h
 rw [decide_eq_true hc.1, decide_eq_false hc.2] at h
 exact absurd h (by decide)
theorem rim_step {l b r t x y u v : Int} (hlr : l < r) (hbt : b < t) (hr : (-5000 ≤ l ∧ r ≤ 5000) ∧ (-5000 ≤ b ∧ t ≤ 5000)) (hM : LineOk u v) (hx : l ≤ x ∧ x ≤ r) (hy : b ≤ y ∧ y ≤ t)
 (k0 : blocksB x y (x + u) (y + v) l b 1 r b 1 = false) (k1 : blocksB x y (x + u) (y + v) r b 1 r t 1 = false) (k2 : blocksB x y (x + u) (y + v) r t 1 l t 1 = false) (k3 : blocksB x y (x + u) (y + v) l t 1 l b 1 = false)
 (c0 : hasP x y u v l b 1 = false) (c1 : hasP x y u v r b 1 = false) (c2 : hasP x y u v r t 1 = false) (c3 : hasP x y u v l t 1 = false) :
 (l ≤ x + u ∧ x + u ≤ r) ∧ (b ≤ y + v ∧ y + v ≤ t) := by
 have o0 : LineOk (r - l) 0 := ⟨by omega, by omega, by omega, by omega⟩
 have o1 : LineOk 0 (t - b) := ⟨by omega, by omega, by omega, by omega⟩
 have o2 : LineOk (l - r) 0 := ⟨by omega, by omega, by omega, by omega⟩
 have o3 : LineOk 0 (b - t) := ⟨by omega, by omega, by omega, by omega⟩
 have n0 := no_blk hM o0 (x := l) (y := b) (by rw [show l + (r - l) = r by omega, show b + 0 = b by omega]; exact k0)
 have n1 := no_blk hM o1 (x := r) (y := b) (by rw [show b + (t - b) = t by omega, show r + 0 = r by omega]; exact k1)
 have n2 := no_blk hM o2 (x := r) (y := t) (by rw [show r + (l - r) = l by omega, show t + 0 = t by omega]; exact k2)
 have n3 := no_blk hM o3 (x := l) (y := t) (by rw [show t + (b - t) = b by omega, show l + 0 = l by omega]; exact k3)
 replace c0 := no_has hM c0
 replace c1 := no_has hM c1
 replace c2 := no_has hM c2
 replace c3 := no_has hM c3
 clear k0 k1 k2 k3
 unfold besL besI at n0 n1 n2 n3 c0 c1 c2 c3
 unfold aloI at c0 c1 c2 c3
 rw [show signI 0 = 0 from rfl, sgn_pos (show 0 < r - l by omega)] at n0
 rw [show signI 0 = 0 from rfl, sgn_pos (show 0 < t - b by omega)] at n1
 rw [show signI 0 = 0 from rfl, sgn_neg (show l - r < 0 by omega)] at n2
 rw [show signI 0 = 0 from rfl, sgn_neg (show b - t < 0 by omega)] at n3
 rcases dirs hM with ⟨rfl, h1⟩ | ⟨rfl, h1⟩ | ⟨h1, rfl⟩ | ⟨h1, rfl⟩ | ⟨h1, rfl⟩ | ⟨h1, rfl⟩ | ⟨h1, rfl⟩ | ⟨h1, rfl⟩
 · clear n0 n1 n3 c0 c1
   simp only [(show signI 0 = 0 from rfl), sgn_pos h1] at n2 c2 c3
   omega
 · clear n1 n2 n3 c2 c3
   simp only [(show signI 0 = 0 from rfl), sgn_neg h1] at n0 c0 c1
   omega
 · clear n0 n2 n3 c0 c3
   simp only [sgn_pos h1, (show signI 0 = 0 from rfl)] at n1 c1 c2
   omega
 · clear n0 n1 n2 c1 c2
   simp only [sgn_neg h1, (show signI 0 = 0 from rfl)] at n3 c0 c3
   omega
 · clear n0 n3 c0
   simp only [sgn_pos h1] at n1 n2 c1 c2 c3
   omega
 · clear n1 n2 c2
   simp only [sgn_neg h1] at n3 n0 c0 c1 c3
   omega
 · clear n2 n3 c3
   simp only [sgn_pos h1, (show signI (-u) = -1 by unfold signI; split <;> (try split) <;> omega)] at n1 n0 c0 c1 c2
   omega
 · clear n0 n1 c1
   simp only [sgn_neg h1, (show signI (-u) = 1 by unfold signI; split <;> (try split) <;> omega)] at n3 n2 c0 c2 c3
   omega
theorem has_box {x y u v px py : Int} (h : LineOk u v) (hh : hasP x y u v px py 1 = true) : (min x (x + u) ≤ px ∧ px ≤ max x (x + u)) ∧ (min y (y + v) ≤ py ∧ py ≤ max y (y + v)) := by
 rw [hasP_iff h] at hh
 unfold besL besI aloI at hh
 rcases dirs h with ⟨rfl, h1⟩ | ⟨rfl, h1⟩ | ⟨h1, rfl⟩ | ⟨h1, rfl⟩ | ⟨h1, rfl⟩ | ⟨h1, rfl⟩ | ⟨h1, rfl⟩ | ⟨h1, rfl⟩
 · rw [sgn_zero, sgn_pos h1] at hh; omega
 · rw [sgn_zero, sgn_neg h1] at hh; omega
 · rw [sgn_zero, sgn_pos h1] at hh; omega
 · rw [sgn_zero, sgn_neg h1] at hh; omega
 · rw [sgn_pos h1] at hh; omega
 · rw [sgn_neg h1] at hh; omega
 · rw [sgn_pos h1, sgn_neg (show -u < 0 by omega)] at hh; omega
 · rw [sgn_neg h1, sgn_pos (show 0 < -u by omega)] at hh; omega
theorem sgn_rev (n : Int) : signI (-n) = -signI n := by unfold signI; (repeat' split) <;> omega
theorem bes_rev {u v : Int} (h : LineOk u v) (x y px py : Int) : besL (x + u) (y + v) (-u) (-v) px py = -besL x y u v px py := by
 have e := besL_end h x y
 unfold besL besI at *
 rw [sgn_rev, sgn_rev]
 grind
theorem opp_neg (m n : Int) : oppB (-m) (-n) = oppB m n := by unfold oppB; rw [decide_eq_decide]; omega
theorem opp_comm (m n : Int) : oppB m n = oppB n m := by unfold oppB; rw [decide_eq_decide]; omega
theorem prB_rev {x y u v : Int} (h : LineOk u v) (p q r s : Int) : prB (x + u) (y + v) (-u) (-v) p q r s = prB x y u v p q r s := by
 unfold prB
 rw [bes_rev h, bes_rev h, opp_neg, opp_comm (besL p q r s (x + u) (y + v)), show x + u + -u = x by omega, show y + v + -v = y by omega]
theorem lineOk_rev {u v : Int} (h : LineOk u v) : LineOk (-u) (-v) := by unfold LineOk at *; omega
theorem cyc {n : Nat} {P : Nat → Prop} (h : ∀ i, i < n → P i → P (nxt n i)) {i : Nat} (hi : i < n) (hp : P i) : ∀ j, j < n → P j := by
 have up : ∀ a, ∀ d, a + d < n → P a → P (a + d) := by
  intro a d
  induction d with
  | zero => intro _ h; exact h
  | succ d ih =>
   intro hl ha
   have := h (a + d) (by omega) (ih (by omega) ha)
   unfold nxt at this
   rw [if_pos (by omega)] at this
   exact this
 have h0 : P 0 := by
  have := up i (n - 1 - i) (by omega) hp
  have := h _ (by omega) this
  unfold nxt at this
  rw [if_neg (by omega)] at this
  exact this
 intro j hj
 have := up 0 j (by omega) h0
 rw [Nat.zero_add] at this
 exact this
theorem no_corner {n : Nat} {X Y DX DY : Nat → Int} (hL : ∀ i, i < n → LineOk (DX i) (DY i)) (hX : ∀ i, i < n → X (nxt n i) = X i + DX i) (hY : ∀ i, i < n → Y (nxt n i) = Y i + DY i)
 {l b r t : Int} (hlr : l < r) (hbt : b < t) (hr : (-5000 ≤ l ∧ r ≤ 5000) ∧ (-5000 ≤ b ∧ t ≤ 5000)) (hup : ∃ i, i < n ∧ t < Y i)
 (k0 : ∀ i, i < n → blocksB (X i) (Y i) (X i + DX i) (Y i + DY i) l b 1 r b 1 = false) (k1 : ∀ i, i < n → blocksB (X i) (Y i) (X i + DX i) (Y i + DY i) r b 1 r t 1 = false)
 (k2 : ∀ i, i < n → blocksB (X i) (Y i) (X i + DX i) (Y i + DY i) r t 1 l t 1 = false) (k3 : ∀ i, i < n → blocksB (X i) (Y i) (X i + DX i) (Y i + DY i) l t 1 l b 1 = false)
 (c0 : ∀ i, i < n → hasP (X i) (Y i) (DX i) (DY i) l b 1 = false) (c1 : ∀ i, i < n → hasP (X i) (Y i) (DX i) (DY i) r b 1 = false)
 (c2 : ∀ i, i < n → hasP (X i) (Y i) (DX i) (DY i) r t 1 = false) (c3 : ∀ i, i < n → hasP (X i) (Y i) (DX i) (DY i) l t 1 = false) :
 ∀ i, i < n → ¬ ((l ≤ X i ∧ X i ≤ r) ∧ (b ≤ Y i ∧ Y i ≤ t)) := by
 intro i hi hin
 obtain ⟨j, hj, hjt⟩ := hup
 have := cyc (n := n) (P := fun i => (l ≤ X i ∧ X i ≤ r) ∧ (b ≤ Y i ∧ Y i ≤ t)) (fun m hm hp => by
  have := rim_step hlr hbt hr (hL m hm) hp.1 hp.2 (k0 m hm) (k1 m hm) (k2 m hm) (k3 m hm) (c0 m hm) (c1 m hm) (c2 m hm) (c3 m hm)
  show (l ≤ X (nxt n m) ∧ _) ∧ _
  rw [hX m hm, hY m hm]
  exact this) hi hin j hj
 omega
end Go.Proofs.YtekieoamelahkaaGreat

/- The reference and package hall agree on simple plans, and on rectangles that lie inside of a plan. -/
namespace Go.Proofs.YtekieoamelahkaaGreat
open Go.RowKit Go.Shelf

def lnHs (H : Hal) (i m : Nat) : Bool := hasP (lnX H i) (lnY H i) (lnDX H i) (lnDY H i) (lnX H m) (lnY H m) 1
def lnT (H : Hal) (i k : Nat) : Bool := touchB (lnX H i) (lnY H i) (lnDX H i) (lnDY H i) (lnX H k) (lnY H k) (lnDX H k) (lnDY H k)
def lnPr (H : Hal) (i k : Nat) : Bool := prB (lnX H i) (lnY H i) (lnDX H i) (lnDY H i) (lnX H k) (lnY H k) (lnDX H k) (lnDY H k)
theorem ln_nx (H : Hal) (i : Nat) : (corAt H.cors (nxt H.cors.length i)).x = lnX H i + lnDX H i := by unfold lnX lnDX; omega
theorem ln_ny (H : Hal) (i : Nat) : (corAt H.cors (nxt H.cors.length i)).y = lnY H i + lnDY H i := by unfold lnY lnDY; omega
theorem wayB_ln (H : Hal) (j i : Nat) : wayB H j i = blocksB (lnX H j) (lnY H j) (lnX H j + lnDX H j) (lnY H j + lnDY H j) (lnX H i) (lnY H i) 1 (lnX H i + lnDX H i) (lnY H i + lnDY H i) 1 := by
 unfold wayB
 rw [ln_nx, ln_ny, ln_nx, ln_ny]
 rfl
theorem beginB_ln {H : Hal} (hL : LinesOk H) {j : Nat} (hj : j < H.cors.length) (i : Nat) : beginB H j i = lnHs H j i := by
 unfold beginB lnHs
 rw [has_holds (hL j hj) (by omega), ln_nx, ln_ny]
 rfl
def refSimpleB (H : Hal) : Bool := (List.range H.cors.length).all fun i => (List.range H.cors.length).all fun k => !decide (i < k) || !pairB H.cors.length (lnHs H) (lnT H) i k
theorem refSimple_stop {H : Hal} {i k : Nat} (hi : i < H.cors.length) (hk : k < H.cors.length) (hik : i < k) (h : pairB H.cors.length (lnHs H) (lnT H) i k = true) : refSimpleB H = false := by
 unfold refSimpleB
 rw [List.all_eq_false]
 refine ⟨i, by simpa using hi, ?_⟩
 rw [Bool.not_eq_true, List.all_eq_false]
 exact ⟨k, by simpa using hk, by simp [h, hik]⟩
theorem refSimple_end {H : Hal} (h : ∀ i, i < H.cors.length → ∀ k, i < k → k < H.cors.length → pairB H.cors.length (lnHs H) (lnT H) i k = false) : refSimpleB H = true := by
 unfold refSimpleB
 rw [List.all_eq_true]
 intro i hi
 rw [List.all_eq_true]
 intro k hk
 by_cases e : i < k
 · simp [e, h i (by simpa using hi) k e (by simpa using hk)]
 · simp [e]
theorem simple_eq {H : Hal} (hL : LinesOk H) (hn : 3 ≤ H.cors.length) : simpleB H = refSimpleB H := by
 have nn : ∀ i, i < H.cors.length → lnX H (nxt H.cors.length i) = lnX H i + lnDX H i ∧ lnY H (nxt H.cors.length i) = lnY H i + lnDY H i := fun i _ => ⟨ln_nx H i, ln_ny H i⟩
 have key := simple_abs hn (lnHs H) (wayB H) (lnPr H) (lnT H)
  (fun i k hi hk => by unfold lnT lnHs lnPr; rw [touch_pr, (nn i hi).1, (nn i hi).2, (nn k hk).1, (nn k hk).2])
  (fun i k hi hk h => by rw [wayB_ln]; exact pr_blocks (hL i hi) (hL k hk) h)
  (fun i k hi hk h => by
   rw [wayB_ln] at h
   have := blocks_pr (hL i hi) (hL k hk) h
   unfold lnPr lnHs
   rw [(nn k hk).1, (nn k hk).2]
   exact this)
  (fun i hi => by
   rw [wayB_ln]
   have hj := nxt_lt hi
   refine blocks_zero2 (hL i hi) (hL _ hj) ?_
   rw [← (nn i hi).1, ← (nn i hi).2]
   exact besL_start _ _ _ _)
  (fun i hi => by
   rw [wayB_ln]
   have hj := nxt_lt hi
   refine blocks_zero1 (hL _ hj) (hL i hi) ?_
   rw [(nn i hi).1, (nn i hi).2]
   exact besL_end (hL i hi) _ _)
  (fun i k => prB_comm _ _ _ _ _ _ _ _)
 have hb : ∀ i, i < H.cors.length → ∀ j, j < H.cors.length → badB H i j = (!decide (i = j) && (wayB H j i || (!decide (nxt H.cors.length j = i) && lnHs H j i))) := fun i hi j hj => by
  unfold badB
  rw [beginB_ln hL hj]
 cases q : refSimpleB H with
 | true =>
  refine simpleB_end fun i hi j hj => ?_
  rw [hb i hi j hj]
  refine key.2 (fun i hi k hik hk => ?_) i hi j hj
  cases p : pairB H.cors.length (lnHs H) (lnT H) i k with
  | false => rfl
  | true => rw [refSimple_stop hi hk hik p] at q; exact absurd q (by decide)
 | false =>
  cases s : simpleB H with
  | false => rfl
  | true =>
   have hh : ∀ i, i < H.cors.length → ∀ j, j < H.cors.length → (!decide (i = j) && (wayB H j i || (!decide (nxt H.cors.length j = i) && lnHs H j i))) = false := fun i hi j hj => by
    rw [← hb i hi j hj]
    cases p : badB H i j with
    | false => rfl
    | true => rw [simpleB_stop hi hj p] at s; exact absurd s (by decide)
   rw [refSimple_end (key.1 hh)] at q
   exact absurd q (by decide)

def egX (a b c d : Int) (k : Nat) : Int := if k = 0 ∨ k = 3 then a else c
def egY (a b c d : Int) (k : Nat) : Int := if k = 0 ∨ k = 1 then b else d
def egDX (a b c d : Int) (k : Nat) : Int := if k = 0 then c - a else if k = 2 then -(c - a) else 0
def egDY (a b c d : Int) (k : Nat) : Int := if k = 1 then d - b else if k = 3 then -(d - b) else 0
def egT (H : Hal) (a b c d : Int) (k j : Nat) : Bool := touchB (egX a b c d k) (egY a b c d k) (egDX a b c d k) (egDY a b c d k) (lnX H j) (lnY H j) (lnDX H j) (lnDY H j)
def inBd (a b c d px py e : Int) : Bool := wiB px (min a c * e) (max a c * e) && wiB py (min b d * e) (max b d * e)
def edgeOk (H : Hal) (a b c d : Int) (k : Nat) : Bool := inplB H (egX a b c d k) (egY a b c d k) 1 && (List.range H.cors.length).all (fun j => !egT H a b c d k j)
def refFrameB (H : Hal) (a b c d : Int) : Bool := (List.range 4).all (edgeOk H a b c d) && (List.range H.cors.length).all (fun j => !inBd a b c d (lnX H j) (lnY H j) 1)
theorem refFrame_stop1 {H : Hal} {a b c d : Int} {k : Nat} (hk : k < 4) (h : inplB H (egX a b c d k) (egY a b c d k) 1 = false) : refFrameB H a b c d = false := by
 unfold refFrameB
 have : (List.range 4).all (edgeOk H a b c d) = false := by rw [List.all_eq_false]; exact ⟨k, by simpa using hk, by simp [edgeOk, h]⟩
 rw [this]; rfl
theorem refFrame_stop2 {H : Hal} {a b c d : Int} {k j : Nat} (hk : k < 4) (hj : j < H.cors.length) (h : egT H a b c d k j = true) : refFrameB H a b c d = false := by
 unfold refFrameB
 have h1 : (List.range H.cors.length).all (fun j => !egT H a b c d k j) = false := by rw [List.all_eq_false]; exact ⟨j, by simpa using hj, by simp [h]⟩
 have : (List.range 4).all (edgeOk H a b c d) = false := by rw [List.all_eq_false]; exact ⟨k, by simpa using hk, by simp [edgeOk, h1]⟩
 rw [this]; rfl
theorem refFrame_stop3 {H : Hal} {a b c d : Int} {j : Nat} (hj : j < H.cors.length) (h : inBd a b c d (lnX H j) (lnY H j) 1 = true) : refFrameB H a b c d = false := by
 unfold refFrameB
 have : (List.range H.cors.length).all (fun j => !inBd a b c d (lnX H j) (lnY H j) 1) = false := by rw [List.all_eq_false]; exact ⟨j, by simpa using hj, by simp [h]⟩
 rw [this, Bool.and_false]
theorem refFrame_end {H : Hal} {a b c d : Int} (h : ∀ k, k < 4 → inplB H (egX a b c d k) (egY a b c d k) 1 = true ∧ ∀ j, j < H.cors.length → egT H a b c d k j = false) (h' : ∀ j, j < H.cors.length → inBd a b c d (lnX H j) (lnY H j) 1 = false) : refFrameB H a b c d = true := by
 unfold refFrameB
 rw [Bool.and_eq_true]
 refine ⟨?_, ?_⟩
 · rw [List.all_eq_true]
   intro k hk
   have hk' := h k (by simpa using hk)
   unfold edgeOk
   rw [hk'.1, Bool.true_and, List.all_eq_true]
   intro j hj
   simp [hk'.2 j (by simpa using hj)]
 · rw [List.all_eq_true]
   intro j hj
   simp [h' j (by simpa using hj)]

theorem odd_up {H : Hal} {x t : Int} (h : ∀ i, i < H.cors.length → (corAt H.cors i).y ≤ t) : ∀ k, k ≤ H.cors.length → oddTo H x t 1 k = false := by
 intro k
 induction k with
 | zero => intro _; rfl
 | succ k ih =>
  intro hk
  have h1 := h k (by omega)
  have h2 := h _ (nxt_lt (n := H.cors.length) (i := k) (by omega))
  have : crossW H x t 1 k = false := by
   unfold crossW stradB
   rw [Int.mul_one, Int.mul_one, decide_eq_true h1, decide_eq_true h2]
   rfl
  show (if crossW H x t 1 k then _ else _) = false
  rw [this, ih (by omega)]
  rfl
theorem covers_up {H : Hal} {x t : Int} (h : coversB H x t 1 = true) : ∃ i, i < H.cors.length ∧ t < lnY H i := by
 by_cases e : ∃ i, i < H.cors.length ∧ t < lnY H i
 · exact e
 · have h' : ∀ i, i < H.cors.length → (corAt H.cors i).y ≤ t := fun i hi => by
    rcases Int.lt_or_le t (corAt H.cors i).y with g | g
    · exact absurd ⟨i, hi, g⟩ e
    · exact g
   unfold coversB at h
   rw [odd_up h' _ (Nat.le_refl _), Bool.and_false] at h
   exact absurd h (by decide)
theorem covers_no {H : Hal} (hL : LinesOk H) {x y : Int} (h : coversB H x y 1 = true) {i : Nat} (hi : i < H.cors.length) : hasP (lnX H i) (lnY H i) (lnDX H i) (lnDY H i) x y 1 = false := by
 cases q : hasP (lnX H i) (lnY H i) (lnDX H i) (lnDY H i) x y 1 with
 | false => rfl
 | true =>
  rw [coversB_stop hi (show onWall H x y 1 i = true by unfold onWall; rw [ln_nx, ln_ny]; rw [has_holds (hL i hi) (by omega)] at q; exact q)] at h
  exact absurd h (by decide)
def IsRim (l b r t x y u v : Int) : Prop := ∃ k, k < 4 ∧ ((x = rimX1 l b r t k ∧ y = rimY1 l b r t k ∧ x + u = rimX2 l b r t k ∧ y + v = rimY2 l b r t k) ∨ (x = rimX2 l b r t k ∧ y = rimY2 l b r t k ∧ x + u = rimX1 l b r t k ∧ y + v = rimY1 l b r t k))
theorem edge_rim {a b c d : Int} (hx : a ≠ c) (hy : b ≠ d) {k : Nat} (hk : k < 4) : IsRim (min a c) (min b d) (max a c) (max b d) (egX a b c d k) (egY a b c d k) (egDX a b c d k) (egDY a b c d k) := by
 have h4 : k = 0 ∨ k = 1 ∨ k = 2 ∨ k = 3 := by omega
 rcases Int.lt_or_gt_of_ne hx with gx | gx <;> rcases Int.lt_or_gt_of_ne hy with gy | gy <;> rcases h4 with rfl | rfl | rfl | rfl
 · exact ⟨0, by omega, by simp [egX, egY, egDX, egDY, rimX1, rimY1, rimX2, rimY2]; omega⟩
 · exact ⟨1, by omega, by simp [egX, egY, egDX, egDY, rimX1, rimY1, rimX2, rimY2]; omega⟩
 · exact ⟨2, by omega, by simp [egX, egY, egDX, egDY, rimX1, rimY1, rimX2, rimY2]; omega⟩
 · exact ⟨3, by omega, by simp [egX, egY, egDX, egDY, rimX1, rimY1, rimX2, rimY2]; omega⟩
 · exact ⟨2, by omega, by simp [egX, egY, egDX, egDY, rimX1, rimY1, rimX2, rimY2]; omega⟩
 · exact ⟨1, by omega, by simp [egX, egY, egDX, egDY, rimX1, rimY1, rimX2, rimY2]; omega⟩
 · exact ⟨0, by omega, by simp [egX, egY, egDX, egDY, rimX1, rimY1, rimX2, rimY2]; omega⟩
 · exact ⟨3, by omega, by simp [egX, egY, egDX, egDY, rimX1, rimY1, rimX2, rimY2]; omega⟩
 · exact ⟨0, by omega, by simp [egX, egY, egDX, egDY, rimX1, rimY1, rimX2, rimY2]; omega⟩
 · exact ⟨3, by omega, by simp [egX, egY, egDX, egDY, rimX1, rimY1, rimX2, rimY2]; omega⟩
 · exact ⟨2, by omega, by simp [egX, egY, egDX, egDY, rimX1, rimY1, rimX2, rimY2]; omega⟩
 · exact ⟨1, by omega, by simp [egX, egY, egDX, egDY, rimX1, rimY1, rimX2, rimY2]; omega⟩
 · exact ⟨2, by omega, by simp [egX, egY, egDX, egDY, rimX1, rimY1, rimX2, rimY2]; omega⟩
 · exact ⟨3, by omega, by simp [egX, egY, egDX, egDY, rimX1, rimY1, rimX2, rimY2]; omega⟩
 · exact ⟨0, by omega, by simp [egX, egY, egDX, egDY, rimX1, rimY1, rimX2, rimY2]; omega⟩
 · exact ⟨1, by omega, by simp [egX, egY, egDX, egDY, rimX1, rimY1, rimX2, rimY2]; omega⟩
theorem rim_edge {a b c d : Int} (hx : a ≠ c) (hy : b ≠ d) {k : Nat} (hk : k < 4) : ∃ m, m < 4 ∧ ((egX a b c d m = rimX1 (min a c) (min b d) (max a c) (max b d) k ∧ egY a b c d m = rimY1 (min a c) (min b d) (max a c) (max b d) k ∧ egX a b c d m + egDX a b c d m = rimX2 (min a c) (min b d) (max a c) (max b d) k ∧ egY a b c d m + egDY a b c d m = rimY2 (min a c) (min b d) (max a c) (max b d) k) ∨ (egX a b c d m = rimX2 (min a c) (min b d) (max a c) (max b d) k ∧ egY a b c d m = rimY2 (min a c) (min b d) (max a c) (max b d) k ∧ egX a b c d m + egDX a b c d m = rimX1 (min a c) (min b d) (max a c) (max b d) k ∧ egY a b c d m + egDY a b c d m = rimY1 (min a c) (min b d) (max a c) (max b d) k)) := by
 have h4 : k = 0 ∨ k = 1 ∨ k = 2 ∨ k = 3 := by omega
 rcases Int.lt_or_gt_of_ne hx with gx | gx <;> rcases Int.lt_or_gt_of_ne hy with gy | gy <;> rcases h4 with rfl | rfl | rfl | rfl
 · exact ⟨0, by omega, by simp [egX, egY, egDX, egDY, rimX1, rimY1, rimX2, rimY2]; omega⟩
 · exact ⟨1, by omega, by simp [egX, egY, egDX, egDY, rimX1, rimY1, rimX2, rimY2]; omega⟩
 · exact ⟨2, by omega, by simp [egX, egY, egDX, egDY, rimX1, rimY1, rimX2, rimY2]; omega⟩
 · exact ⟨3, by omega, by simp [egX, egY, egDX, egDY, rimX1, rimY1, rimX2, rimY2]; omega⟩
 · exact ⟨2, by omega, by simp [egX, egY, egDX, egDY, rimX1, rimY1, rimX2, rimY2]; omega⟩
 · exact ⟨1, by omega, by simp [egX, egY, egDX, egDY, rimX1, rimY1, rimX2, rimY2]; omega⟩
 · exact ⟨0, by omega, by simp [egX, egY, egDX, egDY, rimX1, rimY1, rimX2, rimY2]; omega⟩
 · exact ⟨3, by omega, by simp [egX, egY, egDX, egDY, rimX1, rimY1, rimX2, rimY2]; omega⟩
 · exact ⟨0, by omega, by simp [egX, egY, egDX, egDY, rimX1, rimY1, rimX2, rimY2]; omega⟩
 · exact ⟨3, by omega, by simp [egX, egY, egDX, egDY, rimX1, rimY1, rimX2, rimY2]; omega⟩
 · exact ⟨2, by omega, by simp [egX, egY, egDX, egDY, rimX1, rimY1, rimX2, rimY2]; omega⟩
 · exact ⟨1, by omega, by simp [egX, egY, egDX, egDY, rimX1, rimY1, rimX2, rimY2]; omega⟩
 · exact ⟨2, by omega, by simp [egX, egY, egDX, egDY, rimX1, rimY1, rimX2, rimY2]; omega⟩
 · exact ⟨3, by omega, by simp [egX, egY, egDX, egDY, rimX1, rimY1, rimX2, rimY2]; omega⟩
 · exact ⟨0, by omega, by simp [egX, egY, egDX, egDY, rimX1, rimY1, rimX2, rimY2]; omega⟩
 · exact ⟨1, by omega, by simp [egX, egY, egDX, egDY, rimX1, rimY1, rimX2, rimY2]; omega⟩
theorem rim_start {a b c d : Int} (hx : a ≠ c) (hy : b ≠ d) {k : Nat} (hk : k < 4) : ∃ m, m < 4 ∧ egX a b c d m = rimX1 (min a c) (min b d) (max a c) (max b d) k ∧ egY a b c d m = rimY1 (min a c) (min b d) (max a c) (max b d) k := by
 have h4 : k = 0 ∨ k = 1 ∨ k = 2 ∨ k = 3 := by omega
 rcases Int.lt_or_gt_of_ne hx with gx | gx <;> rcases Int.lt_or_gt_of_ne hy with gy | gy <;> rcases h4 with rfl | rfl | rfl | rfl
 · exact ⟨0, by omega, by simp [egX, egY, rimX1, rimY1]; omega⟩
 · exact ⟨1, by omega, by simp [egX, egY, rimX1, rimY1]; omega⟩
 · exact ⟨2, by omega, by simp [egX, egY, rimX1, rimY1]; omega⟩
 · exact ⟨3, by omega, by simp [egX, egY, rimX1, rimY1]; omega⟩
 · exact ⟨3, by omega, by simp [egX, egY, rimX1, rimY1]; omega⟩
 · exact ⟨2, by omega, by simp [egX, egY, rimX1, rimY1]; omega⟩
 · exact ⟨1, by omega, by simp [egX, egY, rimX1, rimY1]; omega⟩
 · exact ⟨0, by omega, by simp [egX, egY, rimX1, rimY1]; omega⟩
 · exact ⟨1, by omega, by simp [egX, egY, rimX1, rimY1]; omega⟩
 · exact ⟨0, by omega, by simp [egX, egY, rimX1, rimY1]; omega⟩
 · exact ⟨3, by omega, by simp [egX, egY, rimX1, rimY1]; omega⟩
 · exact ⟨2, by omega, by simp [egX, egY, rimX1, rimY1]; omega⟩
 · exact ⟨2, by omega, by simp [egX, egY, rimX1, rimY1]; omega⟩
 · exact ⟨3, by omega, by simp [egX, egY, rimX1, rimY1]; omega⟩
 · exact ⟨0, by omega, by simp [egX, egY, rimX1, rimY1]; omega⟩
 · exact ⟨1, by omega, by simp [egX, egY, rimX1, rimY1]; omega⟩
theorem edge_start {a b c d : Int} (hx : a ≠ c) (hy : b ≠ d) {m : Nat} (hm : m < 4) : ∃ k, k < 4 ∧ egX a b c d m = rimX1 (min a c) (min b d) (max a c) (max b d) k ∧ egY a b c d m = rimY1 (min a c) (min b d) (max a c) (max b d) k := by
 have h4 : m = 0 ∨ m = 1 ∨ m = 2 ∨ m = 3 := by omega
 rcases Int.lt_or_gt_of_ne hx with gx | gx <;> rcases Int.lt_or_gt_of_ne hy with gy | gy <;> rcases h4 with rfl | rfl | rfl | rfl
 · exact ⟨0, by omega, by simp [egX, egY, rimX1, rimY1]; omega⟩
 · exact ⟨1, by omega, by simp [egX, egY, rimX1, rimY1]; omega⟩
 · exact ⟨2, by omega, by simp [egX, egY, rimX1, rimY1]; omega⟩
 · exact ⟨3, by omega, by simp [egX, egY, rimX1, rimY1]; omega⟩
 · exact ⟨3, by omega, by simp [egX, egY, rimX1, rimY1]; omega⟩
 · exact ⟨2, by omega, by simp [egX, egY, rimX1, rimY1]; omega⟩
 · exact ⟨1, by omega, by simp [egX, egY, rimX1, rimY1]; omega⟩
 · exact ⟨0, by omega, by simp [egX, egY, rimX1, rimY1]; omega⟩
 · exact ⟨1, by omega, by simp [egX, egY, rimX1, rimY1]; omega⟩
 · exact ⟨0, by omega, by simp [egX, egY, rimX1, rimY1]; omega⟩
 · exact ⟨3, by omega, by simp [egX, egY, rimX1, rimY1]; omega⟩
 · exact ⟨2, by omega, by simp [egX, egY, rimX1, rimY1]; omega⟩
 · exact ⟨2, by omega, by simp [egX, egY, rimX1, rimY1]; omega⟩
 · exact ⟨3, by omega, by simp [egX, egY, rimX1, rimY1]; omega⟩
 · exact ⟨0, by omega, by simp [egX, egY, rimX1, rimY1]; omega⟩
 · exact ⟨1, by omega, by simp [egX, egY, rimX1, rimY1]; omega⟩
theorem eg_ok {a b c d : Int} (h1 : -5000 ≤ a ∧ a ≤ 5000) (h2 : -5000 ≤ b ∧ b ≤ 5000) (h3 : -5000 ≤ c ∧ c ≤ 5000) (h4 : -5000 ≤ d ∧ d ≤ 5000) (hx : a ≠ c) (hy : b ≠ d) {k : Nat} (hk : k < 4) : LineOk (egDX a b c d k) (egDY a b c d k) := by
 have h : k = 0 ∨ k = 1 ∨ k = 2 ∨ k = 3 := by omega
 unfold LineOk
 rcases h with rfl | rfl | rfl | rfl <;> simp [egDX, egDY] <;> omega
theorem inBd_iff {a b c d px py : Int} : inBd a b c d px py 1 = true ↔ (min a c ≤ px ∧ px ≤ max a c) ∧ (min b d ≤ py ∧ py ≤ max b d) := by
 unfold inBd wiB
 simp
theorem frame_eq {H : Hal} (hL : LinesOk H) {a b c d : Int} (h1 : -5000 ≤ a ∧ a ≤ 5000) (h2 : -5000 ≤ b ∧ b ≤ 5000) (h3 : -5000 ≤ c ∧ c ≤ 5000) (h4 : -5000 ≤ d ∧ d ≤ 5000) (hx : a ≠ c) (hy : b ≠ d) :
 framesB H (min a c) (min b d) (max a c) (max b d) = refFrameB H a b c d := by
 have rw' : ∀ k j, rimWallB H (min a c) (min b d) (max a c) (max b d) k j = blocksB (lnX H j) (lnY H j) (lnX H j + lnDX H j) (lnY H j + lnDY H j) (rimX1 (min a c) (min b d) (max a c) (max b d) k) (rimY1 (min a c) (min b d) (max a c) (max b d) k) 1 (rimX2 (min a c) (min b d) (max a c) (max b d) k) (rimY2 (min a c) (min b d) (max a c) (max b d) k) 1 := fun k j => by
  unfold rimWallB
  rw [ln_nx, ln_ny]
  rfl
 -- an edge crosses a wall just if its rim does
 have pe : ∀ k m j, k < 4 → m < 4 → j < H.cors.length → ((egX a b c d m = rimX1 (min a c) (min b d) (max a c) (max b d) k ∧ egY a b c d m = rimY1 (min a c) (min b d) (max a c) (max b d) k ∧ egX a b c d m + egDX a b c d m = rimX2 (min a c) (min b d) (max a c) (max b d) k ∧ egY a b c d m + egDY a b c d m = rimY2 (min a c) (min b d) (max a c) (max b d) k) ∨ (egX a b c d m = rimX2 (min a c) (min b d) (max a c) (max b d) k ∧ egY a b c d m = rimY2 (min a c) (min b d) (max a c) (max b d) k ∧ egX a b c d m + egDX a b c d m = rimX1 (min a c) (min b d) (max a c) (max b d) k ∧ egY a b c d m + egDY a b c d m = rimY1 (min a c) (min b d) (max a c) (max b d) k)) →
  (prB (egX a b c d m) (egY a b c d m) (egDX a b c d m) (egDY a b c d m) (lnX H j) (lnY H j) (lnDX H j) (lnDY H j) = true → rimWallB H (min a c) (min b d) (max a c) (max b d) k j = true)
  ∧ (rimWallB H (min a c) (min b d) (max a c) (max b d) k j = true → egT H a b c d m j = true ∨ (inBd a b c d (lnX H j) (lnY H j) 1 = true) ∨ inBd a b c d (lnX H j + lnDX H j) (lnY H j + lnDY H j) 1 = true) := fun k m j hk hm hj hE => by
  have hl := eg_ok h1 h2 h3 h4 hx hy hm
  rw [rw']
  have bx : ∀ {x y u v px py : Int}, LineOk u v → (min a c ≤ x ∧ x ≤ max a c) → (min b d ≤ y ∧ y ≤ max b d) → (min a c ≤ x + u ∧ x + u ≤ max a c) → (min b d ≤ y + v ∧ y + v ≤ max b d) → hasP x y u v px py 1 = true → inBd a b c d px py 1 = true := fun hl q1 q2 q3 q4 hh => by
   have := has_box hl hh
   rw [inBd_iff]
   omega
  have q1 : min a c ≤ egX a b c d m ∧ egX a b c d m ≤ max a c := by unfold egX; split <;> omega
  have q2 : min b d ≤ egY a b c d m ∧ egY a b c d m ≤ max b d := by unfold egY; split <;> omega
  have q3 : min a c ≤ egX a b c d m + egDX a b c d m ∧ egX a b c d m + egDX a b c d m ≤ max a c := by unfold egX egDX; (repeat' split) <;> omega
  have q4 : min b d ≤ egY a b c d m + egDY a b c d m ∧ egY a b c d m + egDY a b c d m ≤ max b d := by unfold egY egDY; (repeat' split) <;> omega
  rcases hE with ⟨e1, e2, e3, e4⟩ | ⟨e1, e2, e3, e4⟩
  · rw [← e1, ← e2, ← e3, ← e4]
    refine ⟨fun hp => pr_blocks hl (hL j hj) hp, fun hb => ?_⟩
    rcases blocks_pr hl (hL j hj) hb with g | g | g
    · left; unfold egT; rw [touch_pr, g, Bool.or_true]
    · right; left; exact bx hl q1 q2 q3 q4 g
    · right; right; exact bx hl q1 q2 q3 q4 g
  · have hl' := lineOk_rev hl
    rw [← e3, ← e4, ← e1, ← e2]
    have s1 : egX a b c d m = (egX a b c d m + egDX a b c d m) + -egDX a b c d m := by omega
    have s2 : egY a b c d m = (egY a b c d m + egDY a b c d m) + -egDY a b c d m := by omega
    have hbb : ∀ X Y, blocksB (lnX H j) (lnY H j) (lnX H j + lnDX H j) (lnY H j + lnDY H j) X Y 1 (egX a b c d m) (egY a b c d m) 1 = blocksB (lnX H j) (lnY H j) (lnX H j + lnDX H j) (lnY H j + lnDY H j) X Y 1 ((egX a b c d m + egDX a b c d m) + -egDX a b c d m) ((egY a b c d m + egDY a b c d m) + -egDY a b c d m) 1 := fun X Y => by rw [← s1, ← s2]
    rw [hbb]
    refine ⟨fun hp => pr_blocks hl' (hL j hj) (by rw [prB_rev hl]; exact hp), fun hb => ?_⟩
    rcases blocks_pr hl' (hL j hj) hb with g | g | g
    · left; unfold egT; rw [prB_rev hl] at g; rw [touch_pr, g, Bool.or_true]
    · right; left; exact bx hl' q3 q4 (by omega) (by omega) g
    · right; right; exact bx hl' q3 q4 (by omega) (by omega) g
 cases q : framesB H (min a c) (min b d) (max a c) (max b d) with
 | true =>
  have f1 : ∀ k, k < 4 → coversB H (rimX1 (min a c) (min b d) (max a c) (max b d) k) (rimY1 (min a c) (min b d) (max a c) (max b d) k) 1 = true := fun k hk => by
   cases p : coversB H (rimX1 (min a c) (min b d) (max a c) (max b d) k) (rimY1 (min a c) (min b d) (max a c) (max b d) k) 1 with
   | true => rfl
   | false => rw [framesB_stop1 hk p] at q; exact absurd q (by decide)
  have f2 : ∀ k j, k < 4 → j < H.cors.length → rimWallB H (min a c) (min b d) (max a c) (max b d) k j = false := fun k j hk hj => by
   cases p : rimWallB H (min a c) (min b d) (max a c) (max b d) k j with
   | false => rfl
   | true => rw [framesB_stop2 hk hj p] at q; exact absurd q (by decide)
  have c0 := f1 0 (by omega); have c1 := f1 1 (by omega); have c2 := f1 2 (by omega); have c3 := f1 3 (by omega)
  have b0 := fun j hj => f2 0 j (by omega) hj
  have b1 := fun j hj => f2 1 j (by omega) hj
  have b2 := fun j hj => f2 2 j (by omega) hj
  have b3 := fun j hj => f2 3 j (by omega) hj
  simp only [rw'] at b0 b1 b2 b3
  simp [rimX1, rimY1, rimX2, rimY2] at c0 c1 c2 c3 b0 b1 b2 b3
  have nc := no_corner (n := H.cors.length) (X := lnX H) (Y := lnY H) (DX := lnDX H) (DY := lnDY H) hL (fun i _ => ln_nx H i) (fun i _ => ln_ny H i)
   (l := min a c) (b := min b d) (r := max a c) (t := max b d) (by omega) (by omega) ⟨by omega, by omega⟩ (covers_up c3) b0 b1 b2 b3
   (fun i hi => covers_no hL c0 hi) (fun i hi => covers_no hL c1 hi) (fun i hi => covers_no hL c2 hi) (fun i hi => covers_no hL c3 hi)
  have nb : ∀ j, j < H.cors.length → inBd a b c d (lnX H j) (lnY H j) 1 = false := fun j hj => by
   cases p : inBd a b c d (lnX H j) (lnY H j) 1 with
   | false => rfl
   | true => exact absurd (inBd_iff.1 p) (nc j hj)
  refine (refFrame_end (fun m hm => ⟨?_, fun j hj => ?_⟩) nb).symm
  · obtain ⟨k, hk, e1, e2⟩ := edge_start hx hy hm
    rw [inPlan_covers hL (by omega), e1, e2]
    exact f1 k hk
  · have hl := eg_ok h1 h2 h3 h4 hx hy hm
    obtain ⟨k, hk, hE⟩ := edge_rim hx hy hm
    have q1 : min a c ≤ egX a b c d m ∧ egX a b c d m ≤ max a c := by unfold egX; split <;> omega
    have q2 : min b d ≤ egY a b c d m ∧ egY a b c d m ≤ max b d := by unfold egY; split <;> omega
    have q3 : min a c ≤ egX a b c d m + egDX a b c d m ∧ egX a b c d m + egDX a b c d m ≤ max a c := by unfold egX egDX; (repeat' split) <;> omega
    have q4 : min b d ≤ egY a b c d m + egDY a b c d m ∧ egY a b c d m + egDY a b c d m ≤ max b d := by unfold egY egDY; (repeat' split) <;> omega
    have hjn := nxt_lt hj
    have g1 : hasP (egX a b c d m) (egY a b c d m) (egDX a b c d m) (egDY a b c d m) (lnX H j) (lnY H j) 1 = false := by
     cases p : hasP (egX a b c d m) (egY a b c d m) (egDX a b c d m) (egDY a b c d m) (lnX H j) (lnY H j) 1 with
     | false => rfl
     | true => have := has_box hl p; have := nc j hj; omega
    have g2 : hasP (egX a b c d m) (egY a b c d m) (egDX a b c d m) (egDY a b c d m) (lnX H j + lnDX H j) (lnY H j + lnDY H j) 1 = false := by
     cases p : hasP (egX a b c d m) (egY a b c d m) (egDX a b c d m) (egDY a b c d m) (lnX H j + lnDX H j) (lnY H j + lnDY H j) 1 with
     | false => rfl
     | true =>
      have := has_box hl p
      have := nc _ hjn
      rw [show lnX H (nxt H.cors.length j) = lnX H j + lnDX H j from ln_nx H j, show lnY H (nxt H.cors.length j) = lnY H j + lnDY H j from ln_ny H j] at this
      omega
    have gs : ∀ m', m' < 4 → hasP (lnX H j) (lnY H j) (lnDX H j) (lnDY H j) (egX a b c d m') (egY a b c d m') 1 = false := fun m' hm' => by
     obtain ⟨k', hk', e1, e2⟩ := edge_start hx hy hm'
     rw [e1, e2]
     exact covers_no hL (f1 k' hk') hj
    have g4 : hasP (lnX H j) (lnY H j) (lnDX H j) (lnDY H j) (egX a b c d m + egDX a b c d m) (egY a b c d m + egDY a b c d m) 1 = false := by
     have h4' : m = 0 ∨ m = 1 ∨ m = 2 ∨ m = 3 := by omega
     rcases h4' with rfl | rfl | rfl | rfl
     · have := gs 1 (by omega); simp [egX, egY, egDX, egDY] at this ⊢; rw [show a + (c - a) = c by omega]; exact this
     · have := gs 2 (by omega); simp [egX, egY, egDX, egDY] at this ⊢; rw [show b + (d - b) = d by omega]; exact this
     · have := gs 3 (by omega); simp [egX, egY, egDX, egDY] at this ⊢; rw [show c + -(c - a) = a by omega]; exact this
     · have := gs 0 (by omega); simp [egX, egY, egDX, egDY] at this ⊢; rw [show d + -(d - b) = b by omega]; exact this
    unfold egT
    rw [touch_pr, g1, g2, gs m hm, g4]
    cases p : prB (egX a b c d m) (egY a b c d m) (egDX a b c d m) (egDY a b c d m) (lnX H j) (lnY H j) (lnDX H j) (lnDY H j) with
    | false => rfl
    | true =>
     have := (pe k m j hk hm hj hE).1 p
     rw [f2 k j hk hj] at this
     exact absurd this (by decide)
 | false =>
  cases p : refFrameB H a b c d with
  | false => rfl
  | true =>
   have f1 : ∀ m, m < 4 → inplB H (egX a b c d m) (egY a b c d m) 1 = true := fun m hm => by
    cases g : inplB H (egX a b c d m) (egY a b c d m) 1 with
    | true => rfl
    | false => rw [refFrame_stop1 hm g] at p; exact absurd p (by decide)
   have f2 : ∀ m j, m < 4 → j < H.cors.length → egT H a b c d m j = false := fun m j hm hj => by
    cases g : egT H a b c d m j with
    | false => rfl
    | true => rw [refFrame_stop2 hm hj g] at p; exact absurd p (by decide)
   have f3 : ∀ j, j < H.cors.length → inBd a b c d (lnX H j) (lnY H j) 1 = false := fun j hj => by
    cases g : inBd a b c d (lnX H j) (lnY H j) 1 with
    | false => rfl
    | true => rw [refFrame_stop3 hj g] at p; exact absurd p (by decide)
   rw [framesB_end (fun k hk => ⟨?_, fun j hj => ?_⟩)] at q
   · exact absurd q (by decide)
   · obtain ⟨m, hm, e1, e2⟩ := rim_start hx hy hk
     have := f1 m hm
     rw [inPlan_covers hL (by omega), e1, e2] at this
     exact this
   · obtain ⟨m, hm, hE⟩ := rim_edge hx hy hk
     cases g : rimWallB H (min a c) (min b d) (max a c) (max b d) k j with
     | false => rfl
     | true =>
      rcases (pe k m j hk hm hj hE).2 g with u | u | u
      · rw [f2 m j hm hj] at u; exact absurd u (by decide)
      · rw [f3 j hj] at u; exact absurd u (by decide)
      · have := f3 _ (nxt_lt hj)
        rw [show lnX H (nxt H.cors.length j) = lnX H j + lnDX H j from ln_nx H j, show lnY H (nxt H.cors.length j) = lnY H j + lnDY H j from ln_ny H j, u] at this
        exact absurd this (by decide)
end Go.Proofs.YtekieoamelahkaaGreat
