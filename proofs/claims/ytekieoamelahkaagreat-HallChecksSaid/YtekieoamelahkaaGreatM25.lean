/- Rows of elements with several cells: read as lists, and appended to an empty row. -/
import Derived.Test.YtekieoamelahkaaGreatM24
import Derived.Test.YtekieoamelahkaaGreatM22
import Derived.Test.YtekieoamelahkaaGreatM05
set_option maxRecDepth 100000
set_option maxHeartbeats 1000000
set_option linter.unusedVariables false
set_option linter.unusedSimpArgs false
namespace Go.Proofs.YtekieoamelahkaaGreat
open Go.RowKit Go.Shelf

def flat {α : Type} (f : α → Nat → Value) (size : Nat) (xs : List α) : List Value := xs.flatMap fun x => (List.range size).map (f x)
theorem flat_cons {α : Type} (f : α → Nat → Value) (size : Nat) (x : α) (xs : List α) : flat f size (x :: xs) = (List.range size).map (f x) ++ flat f size xs := rfl
theorem flat_len {α : Type} (f : α → Nat → Value) (size : Nat) : ∀ xs : List α, (flat f size xs).length = xs.length * size
 | [] => by simp [flat]
 | x :: xs => by
  rw [flat_cons, List.length_append, flat_len f size xs, List.length_map, List.length_range, List.length_cons, Nat.add_mul]
  omega
theorem flat_get {α : Type} (f : α → Nat → Value) (size : Nat) : ∀ (xs : List α) (i j : Nat) (x : α), xs[i]? = some x → j < size → (flat f size xs)[i * size + j]? = some (f x j)
 | [], i, j, x, h, _ => by simp at h
 | y :: xs, 0, j, x, h, hj => by
  simp at h
  subst h
  rw [flat_cons, List.getElem?_append_left (by simp; omega), List.getElem?_map, List.getElem?_range (by omega)]
  simp
 | y :: xs, i + 1, j, x, h, hj => by
  have h' : xs[i]? = some x := by simpa using h
  have e : (i + 1) * size = i * size + size := Nat.succ_mul i size
  rw [flat_cons, List.getElem?_append_right (by simp [e]; omega)]
  have := flat_get f size xs i j x h' hj
  rw [← this]
  congr 1
  simp [e]
  omega
theorem own_flat {α : Type} {E : Enc α} {f : α → Nat → Value} (hE : ∀ w x j, j < E.size → E.at_ w x j (f x j)) {w : World} {base : Nat} {e : TypeId} {v : Value} {xs : List α} (h : w.ownsRow base e E.size v xs.length (flat f E.size xs)) (hl : xs.length ≤ 1000000) : SlcAt E w v xs := by
 refine ⟨hl, ?_⟩
 by_cases h0 : xs.length = 0
 · obtain ⟨A, c, rfl⟩ := own_form h
   exact ⟨A, c, rfl, fun hp => by omega⟩
 · obtain ⟨g, cap, cur, rfl, hb, hg, _⟩ : ∃ g cap cur, v = .slice (some ⟨g, 0, none⟩) xs.length cap ∧ base ≤ g ∧ w.heap[g]? = some (.cells cur e (0, 0)) ∧ True := by
    obtain ⟨_, ⟨rfl, h1⟩ | ⟨g, cap, cur, rfl, hb, hg, _⟩⟩ := h
    · exact absurd h1 h0
    · exact ⟨g, cap, cur, rfl, hb, hg, trivial⟩
   refine ⟨_, cap, rfl, fun _ => ⟨g, 0, rfl, ?_, ?_⟩⟩
   · rcases Nat.lt_or_ge g w.heap.size with h' | h'
     · exact h'
     · rw [Array.getElem?_eq_none h'] at hg; cases hg
   · intro i x hx j hj
     refine ⟨f x j, ?_, hE w x j hj⟩
     have := h.cells (g := g) rfl (i * E.size + j) _ (flat_get f E.size xs i j x hx hj)
     rw [← this]
     unfold Addr.add
     split
     · rename_i hz; rw [Nat.zero_add, hz]
     · show w.cell? ⟨g, 0 + i * E.size + j, none⟩ = w.cell? ⟨g, 0 + (i * E.size + j), none⟩
       rw [Nat.add_assoc]
theorem slc_flat {α : Type} {E : Enc α} {f : α → Nat → Value} (hE : ∀ w x j v, j < E.size → E.at_ w x j v → v = f x j) (hs : 0 < E.size) {w : World} {ad : Addr} {n c : Nat} {xs : List α} (h : SlcAt E w (.slice (some ad) n c) xs) :
 ∀ k u, (flat f E.size xs)[k]? = some u → w.cell? (ad.add k) = some u := by
 intro k u hk
 have hkl : k < (flat f E.size xs).length := (List.getElem?_eq_some_iff.1 hk).1
 rw [flat_len] at hkl
 have hi : k / E.size < xs.length := (Nat.div_lt_iff_lt_mul hs).2 hkl
 have hj : k % E.size < E.size := Nat.mod_lt _ hs
 have hkk : k / E.size * E.size + k % E.size = k := Nat.div_add_mod' k E.size
 obtain ⟨g, o, hA, hg, hc⟩ := slc_at h hi
 simp only [Option.some.injEq] at hA
 subst hA
 obtain ⟨u', hu, hat⟩ := hc (k / E.size) _ (List.getElem?_eq_getElem hi) (k % E.size) hj
 have h2 := flat_get f E.size xs (k / E.size) (k % E.size) _ (List.getElem?_eq_getElem hi) hj
 rw [hkk, hk] at h2
 rw [hE _ _ _ _ hj hat, ← Option.some.inj h2] at hu
 rw [← hu]
 unfold Addr.add
 split
 · rename_i hz
   have a1 : k / E.size * E.size = 0 := by omega
   have a2 : k % E.size = 0 := by omega
   rw [a1, a2]
   rfl
 · show w.cell? ⟨g, o + k, none⟩ = w.cell? ⟨g, o + k / E.size * E.size + k % E.size, none⟩
   rw [Nat.add_assoc, hkk]

theorem run_append_zero (P : Program) (w : World) (t ty e : TypeId) (i : TypeInfo) (ht : P.underlying t = some (.slice e)) (hi : P.info? e = some i) (g c : Nat) (cur : Array Value) (hg : w.heap[g]? = some (.cells cur e (0, 0))) :
 (Builtin.append_ #[t, t] ty #[.slice (some ⟨g, 0, none⟩) 0 0, .slice none 0 c]).run P w = .ok (.slice (some ⟨g, 0, none⟩) 0 0) w := by
 simp [Builtin.append_, run_underlying ht, sizeOf, typeInfo, hi, Builtin.lenOf, run_firstCells_none, storeCells]

theorem wpList_append_slc {P : Program} {w : World} {ops : Array Oper} {rest : List Oper} {o : Oper} {a : Act} {Q : Exit → Act → World → Prop} (hgd : o.guard = none) (s x : Operand) (t : TypeId)
 (ho : o.op = .call { callee := .builtin .append, args := #[s, x], argTypes := #[t, t] })
 (e : TypeId) (i : TypeInfo) (z : Value) (bytes : Nat) (ht : P.underlying t = some (.slice e)) (hi : P.info? e = some i) (hz : i.zero = some z)
 {α : Type} {E : Enc α} {f : α → Nat → Value} (hsize : i.size = E.size) (hby : i.bytes = bytes) (hzs : z.cells.size = E.size) (hsz : 0 < E.size)
 (hE1 : ∀ w x j, j < E.size → E.at_ w x j (f x j)) (hE2 : ∀ w x j v, j < E.size → E.at_ w x j v → v = f x j) (hone : ∀ x j, (f x j).oneCell' = true)
 (B : Nat) (hs : a.eval s = .slice (some ⟨B, 0, none⟩) 0 0) (hB : w.heap[B]? = some (.cells #[] e (0, 0)))
 (A : Option Addr) (n c : Nat) (xs : List α) (hx : a.eval x = .slice A n c) (hX : SlcAt E w (.slice A n c) xs) (hbytes : bytes ≤ 1000)
 (h : ∀ v' w', SlcAt E w' v' xs → (∀ g o' s' n' c', v' = .slice (some ⟨g, o', s'⟩) n' c' → B ≤ g ∧ g < w'.heap.size) → w.grownBy w' (some B) → wpList P ops Q rest (a.put o.dst v') w') : wpList P ops Q (o :: rest) a w := by
 have hXl := hX.1
 have hn : n = xs.length := by
  obtain ⟨_, A', c', he, _⟩ := hX
  simp only [Value.slice.injEq] at he
  exact he.2.1
 subst hn
 have hown : w.ownsRow B e E.size (.slice (some ⟨B, 0, none⟩) 0 0) 0 [] := ⟨by simp, .inr ⟨B, 0, #[], rfl, Nat.le_refl _, hB, Nat.le_refl _, by decide, by simp, by simp⟩⟩
 have hBl : B ≤ w.heap.size := Nat.le_of_lt (by
  rcases Nat.lt_or_ge B w.heap.size with h' | h'
  · exact h'
  · rw [Array.getElem?_eq_none h'] at hB; cases hB)
 cases A with
 | some ad =>
  refine wpList_append_own w hgd s x t ho B e i z E.size bytes ht hi hz hsize hby hzs hsz _ 0 [] hs hown ad xs.length c (flat f E.size xs) hx (flat_len f E.size xs) (slc_flat hE2 hsz hX) ?_ (by unfold maxLen; omega) ?_ hBl ?_
  · intro u hu
    unfold flat at hu
    rw [List.mem_flatMap] at hu
    obtain ⟨y, _, hy⟩ := hu
    rw [List.mem_map] at hy
    obtain ⟨j, _, rfl⟩ := hy
    exact hone y j
  · rw [Nat.zero_add]
    have := Nat.mul_le_mul hXl hbytes
    omega
  · intro v' w' h2 h3 _
    rw [Nat.zero_add, List.nil_append] at h2
    have hlt := h2.lt
    refine h v' w' (own_flat hE1 h2 hXl) (fun g o' s' n' c' he => ?_) h3
    obtain ⟨_, ⟨rfl, _⟩ | ⟨g2, cap, cur, rfl, hb, _⟩⟩ := h2
    · cases he
    · simp only [Value.slice.injEq, Option.some.injEq, Addr.mk.injEq] at he
      obtain ⟨⟨rfl, _⟩, _⟩ := he
      exact ⟨hb, (hlt _ rfl).2⟩
 | none =>
  have h0 : xs.length = 0 := by
   obtain ⟨_, A', c', he, h⟩ := hX
   simp only [Value.slice.injEq] at he
   obtain ⟨rfl, _, _⟩ := he
   rcases Nat.eq_zero_or_pos xs.length with g | g
   · exact g
   · obtain ⟨g, o, hA, _⟩ := h g
     cases hA
  have hnil : xs = [] := List.eq_nil_of_length_eq_zero h0
  subst hnil
  refine wpList_plain hgd fun _ hK => ?_
  unfold Oper.wp execOp
  simp only [ho, resolve, invoke, builtin, Sem.run_bind, Sem.run_pure, Result.andThen_ok, List.map_toArray, List.map_cons, List.map_nil, hs, hx, List.length_nil, run_append_zero P w t o.type e i ht hi B c #[] hB]
  refine hK _ _ (h _ _ ⟨by simp, some ⟨B, 0, none⟩, 0, rfl, fun hp => absurd hp (by simp)⟩ (fun g o' s' n' c' he => ?_) ⟨rfl, rfl, rfl, Nat.le_refl _, fun _ _ _ => rfl⟩)
  simp only [Value.slice.injEq, Option.some.injEq, Addr.mk.injEq] at he
  obtain ⟨⟨rfl, _⟩, _⟩ := he
  refine ⟨Nat.le_refl _, ?_⟩
  rcases Nat.lt_or_ge B w.heap.size with h' | h'
  · exact h'
  · rw [Array.getElem?_eq_none h'] at hB; cases hB

theorem SlcAt.block {α : Type} {E : Enc α} (hF : ∀ w w' x j v, E.at_ w x j v → E.at_ w' x j v) {w w' : World} {v : Value} {xs : List α} (h : SlcAt E w v xs) (hs : w.heap.size ≤ w'.heap.size) (hb : ∀ g o s n c, v = .slice (some ⟨g, o, s⟩) n c → g < w.heap.size → w'.heap[g]? = w.heap[g]?) : SlcAt E w' v xs := by
 obtain ⟨hl, A, c, rfl, h⟩ := h
 refine ⟨hl, A, c, rfl, fun hn => ?_⟩
 obtain ⟨g, o, rfl, hg, hc⟩ := h hn
 have hbb := hb g o none _ _ rfl hg
 refine ⟨g, o, rfl, Nat.lt_of_lt_of_le hg hs, fun i x hx j hj => ?_⟩
 obtain ⟨u, hu, hat⟩ := hc i x hx j hj
 exact ⟨u, (World.cell?_of_block (a := ⟨g, _, none⟩) hbb).trans hu, hF _ _ _ _ _ hat⟩
def fInt (n : Int) (_ : Nat) : Value := .int .i64 n
def fCor (c : Cor) (j : Nat) : Value := .int .i64 (if j = 0 then c.x else c.y)
def fMat (m : Mat) (j : Nat) : Value := if j = 0 then .string m.name else .int .i64 (if j = 1 then m.a0 else if j = 2 then m.a1 else if j = 3 then m.a2 else if j = 4 then m.a3 else m.scat)
def fWal (m : Wal) (j : Nat) : Value := .string (if j = 0 then m.name else if j = 1 then m.mat else m.cur)
def fSea (m : Sea) (j : Nat) : Value := if j = 0 then .string m.name else .int .i64 (if j = 1 then m.x else if j = 2 then m.y else m.z)
theorem fMat_one (m : Mat) (j : Nat) : (fMat m j).oneCell' = true := by unfold fMat; split <;> rfl
theorem fSea_one (m : Sea) (j : Nat) : (fSea m j).oneCell' = true := by unfold fSea; split <;> rfl
theorem u_mats : Tryz.prog.underlying 22 = some (.slice 82) := by kernel_rfl
theorem u_cors : Tryz.prog.underlying 23 = some (.slice 48) := by kernel_rfl
theorem u_wals : Tryz.prog.underlying 24 = some (.slice 50) := by kernel_rfl
theorem u_seas : Tryz.prog.underlying 26 = some (.slice 124) := by kernel_rfl
end Go.Proofs.YtekieoamelahkaaGreat

/- slices.Index, slices.Contains over []int; countSurfaces; wallArea of a wall that is not diagonal. -/
namespace Go.Proofs.YtekieoamelahkaaGreat
open Go.RowKit Go.Shelf
attribute [local go_sem] Oper.semAt_some

def idxOf (xs : List Int) (v : Int) (n : Nat) : Option Nat := (List.range n).find? (fun k => intAt xs k == v)
def idxI (xs : List Int) (v : Int) : Int := match idxOf xs v xs.length with | none => -1 | some k => k
def hasI (xs : List Int) (v : Int) : Bool := decide (0 ≤ idxI xs v)
theorem idxI_stop {xs : List Int} {v : Int} {k : Nat} (hk : k < xs.length) (he : (v == intAt xs k) = true) (h : ∀ j, j < k → (v == intAt xs j) = false) : idxI xs v = k := by
 unfold idxI idxOf
 have : (List.range xs.length).find? (fun k => intAt xs k == v) = some k := by
  rw [List.find?_range_eq_some]
  refine ⟨?_, by simpa using hk, fun j hj => ?_⟩
  · have := he; simp at this ⊢; exact this.symm
  · have := h j hj; simp at this ⊢; exact fun e => this e.symm
 rw [this]
theorem idxI_end {xs : List Int} {v : Int} (h : ∀ j, j < xs.length → (v == intAt xs j) = false) : idxI xs v = -1 := by
 unfold idxI idxOf
 have : (List.range xs.length).find? (fun k => intAt xs k == v) = none := by
  rw [List.find?_eq_none]
  intro k hk
  have := h k (by simpa using hk)
  simp at this ⊢
  exact fun e => this e.symm
 rw [this]

theorem Index_any (xs : List Int) (v : Int) (A : Option Addr) (c : Nat) (w : World) (hS : SlcAt encInt w (.slice A xs.length c) xs) :
 Calls Tryz.prog 186 #[.slice A xs.length c, .int .i64 v] w (RetX w (.int .i64 (idxI xs v))) := by
 have hl := hS.1
 refine (callsIn_wide (n := 10)).1 ?_
 refine callsIn_of_wp Tryz.func186 rfl trivial ?_ rfl
 simp only [Tryz.ntmps186, nt, Nat.reduceAdd, Nat.reduceSub]
 gi_wp2
 gi_loopw [8] (fun i wr => ∃ k : Nat, i = .int .i64 k ∧ k ≤ xs.length ∧ Below w.heap.size w wr ∧ ∀ j, j < k → (v == intAt xs j) = false) (fun i _ => xs.length - (intOf i).toNat)
 case atStart => exact ⟨0, rfl, Nat.zero_le _, Below.refl _ _, fun j hj => absurd hj (Nat.not_lt_zero j)⟩
 case round =>
  obtain ⟨k, rfl, hk, hB, hno⟩ := hrel
  replace hS := hS.below hB
  rcases Nat.lt_or_ge k xs.length with hlt | hge
  · obtain ⟨g, o, rfl, hg, hcs⟩ := int_at hS hlt
    have k0 := hcs k hlt
    have hst : Hid ((v == intAt xs k) = true → idxI xs v = k) := fun h => idxI_stop hlt h hno
    have hgo : Hid ((v == intAt xs k) = false → ∀ j, j < k + 1 → (v == intAt xs j) = false) := fun he j hj => by
     rcases Nat.lt_or_ge j k with h' | h'
     · exact hno j h'
     · obtain rfl : j = k := by omega
       exact he
    clear hcs hS hno
    generalize intAt xs k = n at *
    generalize xs.length = N at *
    cases q : (v == n) with
    | true =>
     have hz := hidden (hst.out q)
     gi_wp2
     refine bodyPost_ret (v := .int .i64 k) (by simp [results, Tryz.results186, go_sem]) rfl (retX (by rw [hz.out]) hB)
    | false =>
     have hz := hidden (hgo.out q)
     gi_wp2
     go_roundw
     case rel => exact ⟨k + 1, by go_num, by omega, hB, hz.out⟩
     case measure => simp [intOf]; omega
  · obtain rfl : k = xs.length := by omega
    have hz := hidden (idxI_end hno)
    gi_wp2
    refine bodyPost_ret (v := .int .i64 (-1)) (by simp [results, Tryz.results186, go_sem]) rfl (retX (by rw [hz.out]) hB)

theorem Contains_any (xs : List Int) (v : Int) (A : Option Addr) (c : Nat) (w : World) (hS : SlcAt encInt w (.slice A xs.length c) xs) :
 Calls Tryz.prog 174 #[.slice A xs.length c, .int .i64 v] w (RetX w (.bool (hasI xs v))) := by
 have hh : Hid (hasI xs v = decide (0 ≤ idxI xs v)) := rfl
 have HI := hidden (fun (W : World) (hW : Below w.heap.size w W) => Index_any xs v A c W (hS.below hW))
 generalize idxI xs v = n at *
 generalize hasI xs v = r at *
 have hr := hh.out
 subst hr
 clear hh
 cases q : decide (0 ≤ n)
 all_goals
  go_enter Tryz.func174, Tryz.ntmps174
  go_wp2_with (go_at_call 186; refine (HI.out _ (by (repeat' first | with_reducible (first | apply bz0 | assumption | apply bz1 | apply bz2 | apply bz3 | apply bz4 | apply bz5) | (simp <;> omega)))).mono ?_; rintro e w' ⟨rfl, x1, rfl⟩)
  go_ret
  refine retX_bool rfl ?_
  (repeat' first | with_reducible (first | apply bz0 | assumption | apply bz1 | apply bz2 | apply bz3 | apply bz4 | apply bz5) | (simp <;> omega))

theorem countSurfaces_room {w : World} {b : Nat} {H : Hal} {S : Stg} (hR : Room w b H S) : Calls Tryz.prog 103 #[.pointer (some ⟨b, 0, none⟩)] w (RetX w (.int .i64 ((H.wals.length : Int) + 2 + H.cans.length))) := by
 obtain ⟨v4, v5, v6, v7, v8, u9, u10, hR⟩ := hR
 obtain ⟨A7, c7, rfl, hS7⟩ := slc_form hR.hal.cans
 obtain ⟨A6, c6, rfl, hS6⟩ := slc_form hR.hal.wals
 have l7 := hS7.1
 have l6 := hS6.1
 have k7 := hR.c7
 have k6 := hR.c6
 have hb := hR.has
 clear hR hS7 hS6
 have e1 : IntKind.i64.wrap ((H.wals.length : Int) + 2) = (H.wals.length : Int) + 2 := IntWalk.i64_in _ (by omega)
 have e2 : IntKind.i64.wrap ((H.wals.length : Int) + 2 + H.cans.length) = (H.wals.length : Int) + 2 + H.cans.length := IntWalk.i64_in _ (by omega)
 go_enter Tryz.func103, Tryz.ntmps103
 go_wp2
 (refine tmX (by kernel_rfl) (by kernel_rfl) ?_); (repeat (first | (refine tmS rfl ?_; simp only [Act.put, List.setIfInBounds_toArray, List.set_cons_succ, List.set_cons_zero]) | (refine tmP rfl rfl rfl (fun K hK => ?_); go_big_quiet_op; refine hK _ ?_; clear hK K) | (refine tmE rfl rfl (fun K hK => ?_); go_big_op; (first | fail | skip); (refine hK _ _ rfl (ext_of_below (by (repeat' first | with_reducible (first | apply bz0 | assumption | apply bz1 | apply bz2 | apply bz3 | apply bz4 | apply bz5) | (simp <;> omega)))) ?_; clear hK K)))); (refine tmN ?_)
 go_wp2
 go_ret
 refine retX_int rfl ?_
 (repeat' first | with_reducible (first | apply bz0 | assumption | apply bz1 | apply bz2 | apply bz3 | apply bz4 | apply bz5) | (simp <;> omega))

theorem wallArea_plain (a b c d h : Int) (w : World) (h1 : -5000 ≤ a ∧ a ≤ 5000) (h2 : -5000 ≤ b ∧ b ≤ 5000) (h3 : -5000 ≤ c ∧ c ≤ 5000) (h4 : -5000 ≤ d ∧ d ≤ 5000) (hh : 0 ≤ h ∧ h ≤ 5000) (hd : a = c ∨ b = d) :
 Calls Tryz.prog 176 #[.agg #[.int .i64 a, .int .i64 b, .int .i64 c, .int .i64 d], .int .i64 h] w (RetX w (.agg #[.int .i64 ((max (max (c - a) (-(c - a))) (max (d - b) (-(d - b)))) * h), .int .i64 ((max (max (c - a) (-(c - a))) (max (d - b) (-(d - b)))) * h)])) := by
 have HA := hidden (fun W => reach_any a b c d W h1 h2 h3 h4)
 have HD := hidden (fun W => isDiagonal_any a b c d W)
 have hf : (!decide (a = c) && !decide (b = d)) = false := by rcases hd with h | h <;> simp [h]
 rw [hf] at HD
 have hr : 0 ≤ max (max (c - a) (-(c - a))) (max (d - b) (-(d - b))) ∧ max (max (c - a) (-(c - a))) (max (d - b) (-(d - b))) ≤ 10000 := by omega
 generalize max (max (c - a) (-(c - a))) (max (d - b) (-(d - b))) = r at *
 have hm : 0 ≤ r * h ∧ r * h ≤ 50000000 := ⟨Int.mul_nonneg hr.1 hh.1, by
  have := Int.mul_le_mul hr.2 hh.2 hh.1 (by omega)
  simpa using this⟩
 have e1 : IntKind.i64.wrap (r * h) = r * h := IntWalk.i64_in _ (by omega)
 go_enter Tryz.func176, Tryz.ntmps176
 go_wp2_with (first | (go_at_call 187; refine (HA.out _).mono ?_; rintro e w' ⟨rfl, x1, rfl⟩) | (go_at_call 188; refine (HD.out _).mono ?_; rintro e w' ⟨rfl, x2, rfl⟩))
 refine bodyPost_ret (v := .agg #[.int .i64 (r * h), .int .i64 (r * h)]) (by simp [results, Tryz.results176, go_sem]) rfl (retX rfl ?_)
 (repeat' first | with_reducible (first | apply bz0 | assumption | apply bz1 | apply bz2 | apply bz3 | apply bz4 | apply bz5) | (simp <;> omega))
end Go.Proofs.YtekieoamelahkaaGreat

/- at, Low of shoeboxlaw01. -/
namespace Go.Proofs.YtekieoamelahkaaGreat
open Go.RowKit Go.Shelf

theorem law_at (x y z : Int) (w : World) : Calls Tryz.prog 65 #[.int .i64 x, .int .i64 y, .int .i64 z] w (RetX w (.agg #[.int .i64 x, .int .i64 y, .int .i64 z, .int .i64 1])) := by
 go_enter Tryz.func65, Tryz.ntmps65
 go_wp2
 refine bodyPost_ret (v := .agg #[.int .i64 x, .int .i64 y, .int .i64 z, .int .i64 1]) (by simp [results, Tryz.results65, go_sem]) rfl (retX rfl ?_)
 (repeat' first | with_reducible (first | apply bz0 | assumption | apply bz1 | apply bz2 | apply bz3 | apply bz4 | apply bz5) | (simp <;> omega))

theorem law_Low (w : World) : Calls Tryz.prog 64 #[] w (fun e w' => Below w.heap.size w w' ∧ ∃ v9 v10, e = .returned (.agg #[v9, v10]) ∧ SlcAt encInt w' v9 [0] ∧ SlcAt encInt w' v10 []) := by
 go_enter Tryz.func64, Tryz.ntmps64
 go_wp2
 generalize hX : World.alloc _ _ = X
 have BX : Below w.heap.size w X := by rw [← hX]; (repeat' first | with_reducible (first | apply bz0 | assumption | apply bz1 | apply bz2 | apply bz3 | apply bz4 | apply bz5) | (simp <;> omega))
 have x0 : X.cell? ⟨w.heap.size, 0, none⟩ = some (.slice (some ⟨w.heap.size + 1, 0, none⟩) 1 1) := by rw [← hX]; simp [go_sem]
 have x1 : X.cell? ⟨w.heap.size, 1, none⟩ = some (.slice none 0 0) := by rw [← hX]; simp [go_sem]
 have x2 : X.cell? ⟨w.heap.size + 1, 0, none⟩ = some (.int .i64 0) := by rw [← hX]; simp [go_sem]
 clear hX
 refine bodyPost_ret (v := .agg #[.slice (some ⟨w.heap.size + 1, 0, none⟩) 1 1, .slice none 0 0]) (by simp [results, Tryz.results64, go_sem, x0, x1]) rfl ⟨BX, _, _, rfl, ?_, ?_⟩
 · refine ⟨by decide, _, 1, rfl, fun _ => ⟨_, 0, rfl, has_of_cell x2, ?_⟩⟩
   intro i x hx j hj
   obtain rfl : j = 0 := by have : j < 1 := hj; omega
   match i, hx with
   | 0, hx =>
    simp at hx
    subst hx
    exact ⟨_, x2, rfl⟩
 · exact ⟨by decide, _, 0, rfl, fun h => absurd h (by simp)⟩
end Go.Proofs.YtekieoamelahkaaGreat

/- base.Ints. -/
namespace Go.Proofs.YtekieoamelahkaaGreat
open Go.RowKit Go.Shelf

theorem ints_no {xs ys : List Int} {k : Nat} (hx : k < xs.length) (hl : xs.length = ys.length) (h : intAt xs k ≠ intAt ys k) : decide (xs = ys) = false := by
 apply decide_eq_false
 rintro rfl
 exact h rfl
theorem ints_yes {xs ys : List Int} (hl : xs.length = ys.length) (h : ∀ k, k < xs.length → intAt xs k = intAt ys k) : decide (xs = ys) = true := by
 apply decide_eq_true
 apply List.ext_getElem hl
 intro k h1 h2
 have := h k h1
 rwa [intAt_get h1, intAt_get h2] at this

theorem Ints_any (xs ys : List Int) (A A' : Option Addr) (c c' : Nat) (w : World) (hX : SlcAt encInt w (.slice A xs.length c) xs) (hY : SlcAt encInt w (.slice A' ys.length c') ys) :
 Calls Tryz.prog 66 #[.slice A xs.length c, .slice A' ys.length c'] w (RetX w (.bool (decide (xs = ys)))) := by
 have hl := hX.1
 have hl' := hY.1
 refine (callsIn_wide (n := 10)).1 ?_
 refine callsIn_of_wp Tryz.func66 rfl trivial ?_ rfl
 simp only [Tryz.ntmps66, nt, Nat.reduceAdd, Nat.reduceSub]
 by_cases hn : xs.length = ys.length
 · have q1 : ((xs.length : Int) != (ys.length : Int)) = false := by simp [hn]
   gi_wp2
   gi_loopw [5] (fun i wr => ∃ k : Nat, i = .int .i64 k ∧ k ≤ xs.length ∧ Below w.heap.size w wr ∧ ∀ j, j < k → intAt xs j = intAt ys j) (fun i _ => xs.length - (intOf i).toNat)
   case atStart => exact ⟨0, rfl, Nat.zero_le _, Below.refl _ _, fun j hj => absurd hj (Nat.not_lt_zero j)⟩
   case round =>
    obtain ⟨k, rfl, hk, hB, hno⟩ := hrel
    have hgs := hB.size
    rcases Nat.lt_or_ge k xs.length with hlt | hge
    · obtain ⟨g, o, rfl, hg, hcs⟩ := int_at (hX.below hB) hlt
      obtain ⟨g', o', rfl, hg', hcs'⟩ := int_at (hY.below hB) (show k < ys.length by omega)
      have k0 := hcs k hlt
      have k1 := hcs' k (by omega)
      have hst := hidden (fun h => ints_no (xs := xs) (ys := ys) hlt hn h)
      have hgo : Hid (intAt xs k = intAt ys k → ∀ j, j < k + 1 → intAt xs j = intAt ys j) := fun he j hj => by
       rcases Nat.lt_or_ge j k with h | h
       · exact hno j h
       · obtain rfl : j = k := by omega
         exact he
      clear hcs hcs' hX hY hno
      generalize intAt xs k = a at *
      generalize intAt ys k = b at *
      generalize xs.length = N at *
      generalize ys.length = M at *
      subst hn
      cases q : (a != b) with
      | true =>
       have hz := hidden (hst.out (by simpa using q))
       gi_wp2
       refine wpIn_wide.2 ?_
       (refine tmX (by kernel_rfl) (by kernel_rfl) ?_); (repeat (first | (refine tmS rfl ?_; simp only [Act.put, List.setIfInBounds_toArray, List.set_cons_succ, List.set_cons_zero]) | (refine tmP rfl rfl rfl (fun K hK => ?_); go_big_quiet_op; refine hK _ ?_; clear hK K) | (refine tmE rfl rfl (fun K hK => ?_); go_big_op; (first | fail | skip); (refine hK _ _ rfl (ext_of_below (by (repeat' first | with_reducible (first | apply bz0 | assumption | apply bz1 | apply bz2 | apply bz3 | apply bz4 | apply bz5) | (simp <;> omega)))) ?_; clear hK K)))); (refine tmN ?_)
       gi_wp2
       refine bodyPost_ret (v := .bool false) (by simp [results, Tryz.results66, go_sem]) rfl (retX (by rw [hz.out]) (hB.trans (by (repeat' first | with_reducible (first | apply bz0 | assumption | apply bz1 | apply bz2 | apply bz3 | apply bz4 | apply bz5) | (simp <;> omega)))))
      | false =>
       have hz := hidden (hgo.out (by simpa using q))
       gi_wp2
       refine wpIn_wide.2 ?_
       (refine tmX (by kernel_rfl) (by kernel_rfl) ?_); (repeat (first | (refine tmS rfl ?_; simp only [Act.put, List.setIfInBounds_toArray, List.set_cons_succ, List.set_cons_zero]) | (refine tmP rfl rfl rfl (fun K hK => ?_); go_big_quiet_op; refine hK _ ?_; clear hK K) | (refine tmE rfl rfl (fun K hK => ?_); go_big_op; (first | fail | skip); (refine hK _ _ rfl (ext_of_below (by (repeat' first | with_reducible (first | apply bz0 | assumption | apply bz1 | apply bz2 | apply bz3 | apply bz4 | apply bz5) | (simp <;> omega)))) ?_; clear hK K)))); (refine tmN ?_)
       gi_wp2
       exact ⟨⟨k + 1, by simp, by omega, hB.trans ((show Below wr.heap.size wr _ by (repeat' first | with_reducible (first | apply bz0 | assumption | apply bz1 | apply bz2 | apply bz3 | apply bz4 | apply bz5) | (simp <;> omega))).lower hB.size), hz.out⟩, by simp [intOf]; omega⟩
    · obtain rfl : k = xs.length := by omega
      have hz := hidden (ints_yes hn hno)
      gi_wp2
      refine bodyPost_ret (v := .bool true) (by simp [results, Tryz.results66, go_sem]) rfl (retX (by rw [hz.out]) hB)
 · have q1 : ((xs.length : Int) != (ys.length : Int)) = true := by simp; omega
   have hz : Hid (decide (xs = ys) = false) := decide_eq_false (fun h => hn (by rw [h]))
   generalize xs.length = n at *
   generalize ys.length = m at *
   gi_wp2
   refine bodyPost_ret (v := .bool false) (by simp [results, Tryz.results66, go_sem]) rfl (retX (by rw [hz.out]) ?_)
   (repeat' first | with_reducible (first | apply bz0 | assumption | apply bz1 | apply bz2 | apply bz3 | apply bz4 | apply bz5) | (simp <;> omega))
end Go.Proofs.YtekieoamelahkaaGreat
