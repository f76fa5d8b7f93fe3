/- A slice that can be read as data reads as a list. -/
import Derived.Test.YtekieoamelahkaaGreatM41
import Derived.ChangeShapes
import Derived.ChangeArms
import Derived.Lib.SmallJoins
set_option linter.unusedVariables false
set_option linter.unusedSimpArgs false
namespace Go.Proofs.YtekieoamelahkaaGreat
open Go.RowKit Go.Shelf Go.ChangeShapes

theorem choose_list {α : Type} {Q : Nat → α → Prop} : ∀ n, (∀ i, i < n → ∃ x, Q i x) → ∃ xs : List α, xs.length = n ∧ ∀ i x, xs[i]? = some x → Q i x
 | 0, _ => ⟨[], rfl, fun i x h => by simp at h⟩
 | n + 1, h => by
  obtain ⟨xs, hl, hq⟩ := choose_list n (fun i hi => h i (by omega))
  obtain ⟨x, hx⟩ := h n (by omega)
  refine ⟨xs ++ [x], by simp [hl], fun i y hy => ?_⟩
  rcases Nat.lt_or_ge i n with hi | hi
  · rw [List.getElem?_append_left (by omega)] at hy
    exact hq i y hy
  · rw [List.getElem?_append_right (by omega), hl] at hy
    have : i = n := by
     rcases Nat.lt_or_ge 0 (i - n) with g | g
     · rw [List.getElem?_eq_none (by simp; omega)] at hy; cases hy
     · omega
    subst this
    simp at hy
    subst hy
    exact hx
theorem cell_spot {w : World} {a : Addr} {u : Value} (h : w.cell? a = some u) : a = ⟨a.block, a.off, none⟩ := by
 obtain ⟨b, o, s⟩ := a
 unfold World.cell? at h
 split at h
 · split at h
   · cases h
   · rename_i hs
     simp at hs
     subst hs
     rfl
 · cases h
theorem add_add (g o i j : Nat) : ((⟨g, o, none⟩ : Addr).add i).add j = ⟨g, o + i + j, none⟩ := by
 unfold Addr.add
 split <;> split <;> simp_all <;> omega
section
variable {H : Type} {enc : TypeId × Value → H} {P : Program} {W : World} {base : Nat} {spare : Nat → Bool} {held : Bool}
theorem open_slc {α : Type} {E : Enc α} {ts te : TypeId} (ht : P.underlying ts = some (.slice te)) (hC : P.cellsOf te = E.size) (hE : 0 < E.size)
 (elem : ∀ n cs y, DataW.trod enc P W base spare held n te cs = some y → cs.length = E.size → ∃ x : α, ∀ j, j < E.size → ∃ u, cs[j]? = some u ∧ E.at_ W x j u)
 {fuel : Nat} {cs : List Value} {x : DataW H × List MemPlace} (h : DataW.trod enc P W base spare held fuel ts cs = some x) : ∃ v xs, cs = [v] ∧ SlcW E W v xs := by
 rcases DataW.trod_slice ht h with ⟨rfl, _⟩ | ⟨a, len, cap, elems, rest, n, _, rfl, _, hb, hlc, hcm, hel, hel2, _, _⟩
 · exact ⟨_, [], rfl, by simp, none, 0, rfl, fun hp => absurd hp (by simp)⟩
 · have key : ∀ i, i < len → ∃ x : α, ∀ j, j < E.size → ∃ u, W.cell? ((a.add (i * E.size)).add j) = some u ∧ E.at_ W x j u := fun i hi => by
    have h1 := hel2 i hi
    rw [List.getElem?_eq_getElem (by omega), Option.bind_eq_some_iff] at h1
    obtain ⟨cs, hcs, htr⟩ := h1
    rw [hC] at hcs
    unfold World.cells? at hcs
    split at hcs
    · have hlen := mapM_some_length hcs
      simp at hlen
      obtain ⟨x, hx⟩ := elem n cs _ htr hlen
      refine ⟨x, fun j hj => ?_⟩
      obtain ⟨u, hu, hat⟩ := hx j hj
      exact ⟨u, (mapM_some_get hcs j j (by simp [hj])).trans hu, hat⟩
    · cases hcs
   obtain ⟨xs, hxl, hxs⟩ := choose_list len key
   refine ⟨_, xs, rfl, by unfold maxLen at hcm; omega, some a, cap, by rw [hxl], fun hp => ?_⟩
   have h00 := hxs 0 _ (List.getElem?_eq_getElem hp) 0 hE
   obtain ⟨u, hu, _⟩ := h00
   have ha : a = ⟨a.block, a.off, none⟩ := by
    have : (a.add (0 * E.size)).add 0 = a := by simp [Addr.add]
    rw [this] at hu
    exact cell_spot hu
   have hhas : W.Has a.block := by
    have : (a.add (0 * E.size)).add 0 = a := by simp [Addr.add]
    rw [this] at hu
    exact has_cell hu
   refine ⟨a.block, a.off, by rw [← ha], hhas, fun i x hx j hj => ?_⟩
   obtain ⟨u, hu, hat⟩ := hxs i x hx j hj
   refine ⟨u, ?_, hat⟩
   rw [ha, add_add] at hu
   exact hu
theorem open_int {te : TypeId} (ht : P.underlying te = some (.int .i64)) {fuel : Nat} {cs : List Value} {x : DataW H × List MemPlace} (h : DataW.trod enc P W base spare held fuel te cs = some x) : ∃ n : Int, cs = [.int .i64 n] := by
 obtain ⟨n, hn, _⟩ := DataW.trod_int ht h
 exact ⟨n, hn⟩
theorem open_str {te : TypeId} (ht : P.underlying te = some .string) {fuel : Nat} {cs : List Value} {x : DataW H × List MemPlace} (h : DataW.trod enc P W base spare held fuel te cs = some x) : ∃ s : ByteArray, cs = [.string s] := by
 obtain ⟨s, hs, _⟩ := DataW.trod_string ht h
 exact ⟨s, hs⟩
theorem open_arr {te e : TypeId} {m : Nat} (ht : P.underlying te = some (.array m e)) {fuel : Nat} {cs : List Value} {x : DataW H × List MemPlace} (h : DataW.trod enc P W base spare held fuel te cs = some x) :
 cs.length = P.cellsOf te ∧ ∃ n, ∀ i, i < m → ∃ y, DataW.trod enc P W base spare held n e ((cs.drop (i * P.cellsOf e)).take (P.cellsOf e)) = some y := by
 cases fuel with
 | zero => simp [DataW.trod] at h
 | succ n =>
  rw [DataW.trod_step] at h
  unfold DataW.trodStep at h
  rw [ht] at h
  split at h <;> simp_all
  obtain ⟨hl, xs, hp, _⟩ := h
  refine ⟨n, fun i hi => ?_⟩
  have h1 := mapM_some_get hp i i (by simp [hi])
  have h2 := mapM_some_length hp
  simp at h2
  rw [List.getElem?_eq_getElem (by omega)] at h1
  exact ⟨_, _, h1⟩
end
end Go.Proofs.YtekieoamelahkaaGreat

/- A hall that can be read as data is a hall in memory. -/
namespace Go.Proofs.YtekieoamelahkaaGreat
open Go.RowKit Go.Shelf Go.ChangeShapes

section
variable {T : Type} {enc : TypeId × Value → T} {W : World} {base : Nat} {spare : Nat → Bool} {held : Bool}
theorem c_int : Tryz.prog.cellsOf 3 = 1 := by kernel_rfl
theorem c_str : Tryz.prog.cellsOf 9 = 1 := by kernel_rfl
theorem c_arr : Tryz.prog.cellsOf 77 = 4 := by kernel_rfl
theorem c_mat : Tryz.prog.cellsOf 82 = 6 := by kernel_rfl
theorem c_cor : Tryz.prog.cellsOf 48 = 2 := by kernel_rfl
theorem c_wal : Tryz.prog.cellsOf 50 = 3 := by kernel_rfl
theorem c_can : Tryz.prog.cellsOf 122 = 7 := by kernel_rfl
theorem c_sea : Tryz.prog.cellsOf 124 = 4 := by kernel_rfl
theorem c_pla : Tryz.prog.cellsOf 87 = 3 := by kernel_rfl
theorem c_hal : Tryz.prog.cellsOf 28 = 9 := by kernel_rfl
theorem c_s1 : Tryz.prog.cellsOf 22 = 1 := by kernel_rfl
theorem c_s2 : Tryz.prog.cellsOf 23 = 1 := by kernel_rfl
theorem c_s3 : Tryz.prog.cellsOf 24 = 1 := by kernel_rfl
theorem c_s4 : Tryz.prog.cellsOf 25 = 1 := by kernel_rfl
theorem c_s5 : Tryz.prog.cellsOf 26 = 1 := by kernel_rfl
theorem c_is : Tryz.prog.cellsOf 51 = 1 := by kernel_rfl

theorem list2 {l : List Value} (h : l.length = 2) : ∃ a0 a1 : Value, l = [a0, a1] := by
 match l, h with
 | [a0, a1], _ => exact ⟨a0, a1, rfl⟩
theorem list3 {l : List Value} (h : l.length = 3) : ∃ a0 a1 a2 : Value, l = [a0, a1, a2] := by
 match l, h with
 | [a0, a1, a2], _ => exact ⟨a0, a1, a2, rfl⟩
theorem list4 {l : List Value} (h : l.length = 4) : ∃ a0 a1 a2 a3 : Value, l = [a0, a1, a2, a3] := by
 match l, h with
 | [a0, a1, a2, a3], _ => exact ⟨a0, a1, a2, a3, rfl⟩
theorem list6 {l : List Value} (h : l.length = 6) : ∃ a0 a1 a2 a3 a4 a5 : Value, l = [a0, a1, a2, a3, a4, a5] := by
 match l, h with
 | [a0, a1, a2, a3, a4, a5], _ => exact ⟨a0, a1, a2, a3, a4, a5, rfl⟩
theorem list7 {l : List Value} (h : l.length = 7) : ∃ a0 a1 a2 a3 a4 a5 a6 : Value, l = [a0, a1, a2, a3, a4, a5, a6] := by
 match l, h with
 | [a0, a1, a2, a3, a4, a5, a6], _ => exact ⟨a0, a1, a2, a3, a4, a5, a6, rfl⟩
theorem list9 {l : List Value} (h : l.length = 9) : ∃ a0 a1 a2 a3 a4 a5 a6 a7 a8 : Value, l = [a0, a1, a2, a3, a4, a5, a6, a7, a8] := by
 match l, h with
 | [a0, a1, a2, a3, a4, a5, a6, a7, a8], _ => exact ⟨a0, a1, a2, a3, a4, a5, a6, a7, a8, rfl⟩
theorem some_at {α : Type} {xs : List α} {m i : Nat} (h : xs.length = m) (hi : i < m) : ∃ y, xs[i]? = some y := ⟨xs[i]'(by omega), List.getElem?_eq_getElem _⟩
theorem elem_cor : ∀ n cs (y : DataW T × List MemPlace), DataW.trod enc Tryz.prog W base spare held n 48 cs = some y → cs.length = encCor.size → ∃ x : Cor, ∀ j, j < encCor.size → ∃ u, cs[j]? = some u ∧ encCor.at_ W x j u := by
 intro n cs y h hl
 obtain ⟨xs, m, _, _, hcl, hxl, hf⟩ := DataW.trod_struct Tryz.underlying48 h
 obtain ⟨a0, a1, rfl⟩ := list2 (show cs.length = 2 from hl)
 obtain ⟨y0, e0⟩ := some_at hxl (i := 0) (by decide)
 obtain ⟨y1, e1⟩ := some_at hxl (i := 1) (by decide)
 have f0 := (hf 0 _ rfl).trans e0
 have f1 := (hf 1 _ rfl).trans e1
 simp [c_int] at f0 f1
 obtain ⟨n0, h0⟩ := open_int Tryz.underlying3 f0
 obtain ⟨n1, h1⟩ := open_int Tryz.underlying3 f1
 simp at h0 h1
 subst h0 h1
 refine ⟨⟨n0, n1⟩, fun j hj => ?_⟩
 have : j = 0 ∨ j = 1 := by have : j < 2 := hj; omega
 rcases this with rfl | rfl
 · exact ⟨_, rfl, rfl⟩
 · exact ⟨_, rfl, rfl⟩
theorem elem_wal : ∀ n cs (y : DataW T × List MemPlace), DataW.trod enc Tryz.prog W base spare held n 50 cs = some y → cs.length = encWal.size → ∃ x : Wal, ∀ j, j < encWal.size → ∃ u, cs[j]? = some u ∧ encWal.at_ W x j u := by
 intro n cs y h hl
 obtain ⟨xs, m, _, _, hcl, hxl, hf⟩ := DataW.trod_struct Tryz.underlying50 h
 obtain ⟨a0, a1, a2, rfl⟩ := list3 (show cs.length = 3 from hl)
 obtain ⟨y0, e0⟩ := some_at hxl (i := 0) (by decide)
 obtain ⟨y1, e1⟩ := some_at hxl (i := 1) (by decide)
 obtain ⟨y2, e2⟩ := some_at hxl (i := 2) (by decide)
 have f0 := (hf 0 _ rfl).trans e0
 have f1 := (hf 1 _ rfl).trans e1
 have f2 := (hf 2 _ rfl).trans e2
 simp [c_str] at f0 f1 f2
 obtain ⟨n0, h0⟩ := open_str Tryz.underlying9 f0
 obtain ⟨n1, h1⟩ := open_str Tryz.underlying9 f1
 obtain ⟨n2, h2⟩ := open_str Tryz.underlying9 f2
 simp at h0 h1 h2
 subst h0 h1 h2
 refine ⟨⟨n0, n1, n2⟩, fun j hj => ?_⟩
 have : j = 0 ∨ j = 1 ∨ j = 2 := by have : j < 3 := hj; omega
 rcases this with rfl | rfl | rfl
 · exact ⟨_, rfl, rfl⟩
 · exact ⟨_, rfl, rfl⟩
 · exact ⟨_, rfl, rfl⟩
theorem elem_mat : ∀ n cs (y : DataW T × List MemPlace), DataW.trod enc Tryz.prog W base spare held n 82 cs = some y → cs.length = encMat.size → ∃ x : Mat, ∀ j, j < encMat.size → ∃ u, cs[j]? = some u ∧ encMat.at_ W x j u := by
 intro n cs y h hl
 obtain ⟨xs, m, _, _, hcl, hxl, hf⟩ := DataW.trod_struct Tryz.underlying82 h
 obtain ⟨a0, a1, a2, a3, a4, a5, rfl⟩ := list6 (show cs.length = 6 from hl)
 obtain ⟨y0, e0⟩ := some_at hxl (i := 0) (by decide)
 obtain ⟨y1, e1⟩ := some_at hxl (i := 1) (by decide)
 obtain ⟨y2, e2⟩ := some_at hxl (i := 2) (by decide)
 have f0 := (hf 0 _ rfl).trans e0
 have f1 := (hf 1 _ rfl).trans e1
 have f2 := (hf 2 _ rfl).trans e2
 simp [c_str, c_int, c_arr] at f0 f1 f2
 obtain ⟨n0, h0⟩ := open_str Tryz.underlying9 f0
 obtain ⟨_, m', ha⟩ := open_arr Tryz.underlying77 f1
 obtain ⟨n5, h5⟩ := open_int Tryz.underlying3 f2
 obtain ⟨_, g1⟩ := ha 0 (by decide)
 obtain ⟨_, g2⟩ := ha 1 (by decide)
 obtain ⟨_, g3⟩ := ha 2 (by decide)
 obtain ⟨_, g4⟩ := ha 3 (by decide)
 simp [c_int] at g1 g2 g3 g4
 obtain ⟨n1, h1⟩ := open_int Tryz.underlying3 g1
 obtain ⟨n2, h2⟩ := open_int Tryz.underlying3 g2
 obtain ⟨n3, h3⟩ := open_int Tryz.underlying3 g3
 obtain ⟨n4, h4⟩ := open_int Tryz.underlying3 g4
 simp at h0 h1 h2 h3 h4 h5
 subst h0 h1 h2 h3 h4 h5
 refine ⟨⟨n0, n1, n2, n3, n4, n5⟩, fun j hj => ?_⟩
 have : j = 0 ∨ j = 1 ∨ j = 2 ∨ j = 3 ∨ j = 4 ∨ j = 5 := by have : j < 6 := hj; omega
 rcases this with rfl | rfl | rfl | rfl | rfl | rfl
 · exact ⟨_, rfl, rfl⟩
 · exact ⟨_, rfl, rfl⟩
 · exact ⟨_, rfl, rfl⟩
 · exact ⟨_, rfl, rfl⟩
 · exact ⟨_, rfl, rfl⟩
 · exact ⟨_, rfl, rfl⟩
theorem elem_sea : ∀ n cs (y : DataW T × List MemPlace), DataW.trod enc Tryz.prog W base spare held n 124 cs = some y → cs.length = encSea.size → ∃ x : Sea, ∀ j, j < encSea.size → ∃ u, cs[j]? = some u ∧ encSea.at_ W x j u := by
 intro n cs y h hl
 obtain ⟨xs, m, _, _, hcl, hxl, hf⟩ := DataW.trod_struct Tryz.underlying124 h
 obtain ⟨a0, a1, a2, a3, rfl⟩ := list4 (show cs.length = 4 from hl)
 obtain ⟨y0, e0⟩ := some_at hxl (i := 0) (by decide)
 obtain ⟨y1, e1⟩ := some_at hxl (i := 1) (by decide)
 have f0 := (hf 0 _ rfl).trans e0
 have f1 := (hf 1 _ rfl).trans e1
 simp [c_str, c_pla] at f0 f1
 obtain ⟨n0, h0⟩ := open_str Tryz.underlying9 f0
 obtain ⟨zs, m', _, _, _, hzl, hz⟩ := DataW.trod_struct Tryz.underlying87 f1
 obtain ⟨z0, g0⟩ := some_at hzl (i := 0) (by decide)
 obtain ⟨z1, g1⟩ := some_at hzl (i := 1) (by decide)
 obtain ⟨z2, g2⟩ := some_at hzl (i := 2) (by decide)
 replace g0 := (hz 0 _ rfl).trans g0
 replace g1 := (hz 1 _ rfl).trans g1
 replace g2 := (hz 2 _ rfl).trans g2
 simp [c_int] at g0 g1 g2
 obtain ⟨n1, h1⟩ := open_int Tryz.underlying3 g0
 obtain ⟨n2, h2⟩ := open_int Tryz.underlying3 g1
 obtain ⟨n3, h3⟩ := open_int Tryz.underlying3 g2
 simp at h0 h1 h2 h3
 subst h0 h1 h2 h3
 refine ⟨⟨n0, n1, n2, n3⟩, fun j hj => ?_⟩
 have : j = 0 ∨ j = 1 ∨ j = 2 ∨ j = 3 := by have : j < 4 := hj; omega
 rcases this with rfl | rfl | rfl | rfl
 · exact ⟨_, rfl, rfl⟩
 · exact ⟨_, rfl, rfl⟩
 · exact ⟨_, rfl, rfl⟩
 · exact ⟨_, rfl, rfl⟩
theorem elem_num : ∀ n cs (y : DataW T × List MemPlace), DataW.trod enc Tryz.prog W base spare held n 3 cs = some y → cs.length = encInt.size → ∃ x : Int, ∀ j, j < encInt.size → ∃ u, cs[j]? = some u ∧ encInt.at_ W x j u := by
 intro n cs y h _
 obtain ⟨k, rfl⟩ := open_int Tryz.underlying3 h
 refine ⟨k, fun j hj => ?_⟩
 obtain rfl : j = 0 := by have : j < 1 := hj; omega
 exact ⟨_, rfl, rfl⟩
theorem elem_can : ∀ n cs (y : DataW T × List MemPlace), DataW.trod enc Tryz.prog W base spare held n 122 cs = some y → cs.length = encCanW.size → ∃ x : Can, ∀ j, j < encCanW.size → ∃ u, cs[j]? = some u ∧ encCanW.at_ W x j u := by
 intro n cs y h hl
 obtain ⟨xs, m, _, _, hcl, hxl, hf⟩ := DataW.trod_struct Tryz.underlying122 h
 obtain ⟨a0, a1, a2, a3, a4, a5, a6, rfl⟩ := list7 (show cs.length = 7 from hl)
 obtain ⟨y0, e0⟩ := some_at hxl (i := 0) (by decide)
 obtain ⟨y1, e1⟩ := some_at hxl (i := 1) (by decide)
 obtain ⟨y2, e2⟩ := some_at hxl (i := 2) (by decide)
 obtain ⟨y3, e3⟩ := some_at hxl (i := 3) (by decide)
 obtain ⟨y4, e4⟩ := some_at hxl (i := 4) (by decide)
 have f0 := (hf 0 _ rfl).trans e0
 have f1 := (hf 1 _ rfl).trans e1
 have f2 := (hf 2 _ rfl).trans e2
 have f3 := (hf 3 _ rfl).trans e3
 have f4 := (hf 4 _ rfl).trans e4
 simp [c_str, c_cor, c_is] at f0 f1 f2 f3 f4
 obtain ⟨n0, h0⟩ := open_str Tryz.underlying9 f0
 obtain ⟨n1, h1⟩ := open_str Tryz.underlying9 f1
 obtain ⟨p, hp⟩ := elem_cor _ _ _ f2 rfl
 obtain ⟨q, hq⟩ := elem_cor _ _ _ f3 rfl
 obtain ⟨v, hs, hv, hS⟩ := open_slc (E := encInt) Tryz.underlying51 c_int (by decide) elem_num f4
 obtain ⟨u2, t2, r2⟩ := hp 0 (by decide)
 obtain ⟨u3, t3, r3⟩ := hp 1 (by decide)
 obtain ⟨u4, t4, r4⟩ := hq 0 (by decide)
 obtain ⟨u5, t5, r5⟩ := hq 1 (by decide)
 simp [encCor] at h0 h1 hv t2 t3 t4 t5 r2 r3 r4 r5
 subst h0 h1 hv t2 t3 t4 t5 r2 r3 r4 r5
 refine ⟨⟨n0, n1, p, q, hs⟩, fun j hj => ?_⟩
 have : j = 0 ∨ j = 1 ∨ j = 2 ∨ j = 3 ∨ j = 4 ∨ j = 5 ∨ j = 6 := by have : j < 7 := hj; omega
 rcases this with rfl | rfl | rfl | rfl | rfl | rfl | rfl
 · exact ⟨_, rfl, rfl⟩
 · exact ⟨_, rfl, rfl⟩
 · exact ⟨_, rfl, rfl⟩
 · exact ⟨_, rfl, rfl⟩
 · exact ⟨_, rfl, rfl⟩
 · exact ⟨_, rfl, rfl⟩
 · exact ⟨_, rfl, hS⟩
theorem open_hall {n : Nat} {cs : List Value} {y : DataW T × List MemPlace} (h : DataW.trod enc Tryz.prog W base spare held n 28 cs = some y) : ∃ (H : Hal) (v4 v5 v6 v7 v8 : Value), cs = [.string H.name, .int .i64 H.height, .string H.floor, .string H.ceil, v4, v5, v6, v7, v8] ∧ HalW W v4 v5 v6 v7 v8 H := by
 obtain ⟨xs, m, _, _, hcl, hxl, hf⟩ := DataW.trod_struct Tryz.underlying28 h
 obtain ⟨a0, a1, a2, a3, a4, a5, a6, a7, a8, rfl⟩ := list9 (hcl.trans c_hal)
 obtain ⟨y0, e0⟩ := some_at hxl (i := 0) (by decide)
 obtain ⟨y1, e1⟩ := some_at hxl (i := 1) (by decide)
 obtain ⟨y2, e2⟩ := some_at hxl (i := 2) (by decide)
 obtain ⟨y3, e3⟩ := some_at hxl (i := 3) (by decide)
 obtain ⟨y4, e4⟩ := some_at hxl (i := 4) (by decide)
 obtain ⟨y5, e5⟩ := some_at hxl (i := 5) (by decide)
 obtain ⟨y6, e6⟩ := some_at hxl (i := 6) (by decide)
 obtain ⟨y7, e7⟩ := some_at hxl (i := 7) (by decide)
 obtain ⟨y8, e8⟩ := some_at hxl (i := 8) (by decide)
 replace e0 := (hf 0 _ rfl).trans e0
 replace e1 := (hf 1 _ rfl).trans e1
 replace e2 := (hf 2 _ rfl).trans e2
 replace e3 := (hf 3 _ rfl).trans e3
 replace e4 := (hf 4 _ rfl).trans e4
 replace e5 := (hf 5 _ rfl).trans e5
 replace e6 := (hf 6 _ rfl).trans e6
 replace e7 := (hf 7 _ rfl).trans e7
 replace e8 := (hf 8 _ rfl).trans e8
 simp [c_str, c_int, c_s1, c_s2, c_s3, c_s4, c_s5] at e0 e1 e2 e3 e4 e5 e6 e7 e8
 obtain ⟨n0, h0⟩ := open_str Tryz.underlying9 e0
 obtain ⟨n1, h1⟩ := open_int Tryz.underlying3 e1
 obtain ⟨n2, h2⟩ := open_str Tryz.underlying9 e2
 obtain ⟨n3, h3⟩ := open_str Tryz.underlying9 e3
 obtain ⟨v4, l4, h4, s4⟩ := open_slc (E := encMat) Tryz.underlying22 c_mat (by decide) elem_mat e4
 obtain ⟨v5, l5, h5, s5⟩ := open_slc (E := encCor) Tryz.underlying23 c_cor (by decide) elem_cor e5
 obtain ⟨v6, l6, h6, s6⟩ := open_slc (E := encWal) Tryz.underlying24 c_wal (by decide) elem_wal e6
 obtain ⟨v7, l7, h7, s7⟩ := open_slc (E := encCanW) Tryz.underlying25 c_can (by decide) elem_can e7
 obtain ⟨v8, l8, h8, s8⟩ := open_slc (E := encSea) Tryz.underlying26 c_sea (by decide) elem_sea e8
 simp at h0 h1 h2 h3 h4 h5 h6 h7 h8
 subst h0 h1 h2 h3 h4 h5 h6 h7 h8
 exact ⟨⟨n0, n1, n2, n3, l4, l5, l6, l7, l8⟩, _, _, _, _, _, rfl, ⟨s4, s5, s6, s7, s8⟩⟩
end
end Go.Proofs.YtekieoamelahkaaGreat
