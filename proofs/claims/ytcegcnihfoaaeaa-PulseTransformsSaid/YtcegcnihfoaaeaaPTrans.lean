/- A transform, and the transform back, or the errors, are as specified; back undoes the transform, modulo the prime; a list turned by one number is multiplied by powers of the root: for any list of numbers and any three numbers as a field, without condition. -/
import Derived.Test.YtcegcnihfoaaeaaG7
import Derived.Test.YtcegcnihfoaaeaaM
import Derived.Test.YtcegcnihfoaaeaaRows
import Derived.ProofKit
import Derived.OpenShut
import Derived.ShutString
import Derived.ChangeOld
import Derived.Below
import Derived.Lib.SmallJoins
import Derived.ChangeShapes
import Derived.ChangeArms
import Derived.WideShapes
set_option linter.unusedSimpArgs false
set_option linter.unusedVariables false
set_option linter.defProp false
namespace Go.Proofs.Ytcegcnihfoaaeaa.pulseTransforms
open Go Go.Rex Go.ChangeShapes Go.WideShapes Go.ChangeAt Go.RowKit Go.Joins Go.Proofs Go.Proofs.Ytcegcnihfoaaeaa
theorem own : ownKnob Try.prog.godebug = none := by kernel_rfl
theorem laidOut : laidOutB Try.prog = true := by kernel_rfl
theorem open_int {P : Program} {W : World} {t : TypeId} (ht : P.underlying t = some (.int .i64)) {r : Reach} {b : Nat} {v : Value} (w : Value.okWide P W r b t v) : ∃ n : Int, v = .int .i64 n := by
  unfold Value.okWide at w
  simp only [ht] at w
  unfold Cell.okWide at w
  simp only [ht] at w
  unfold Cell.ok at w
  simp only [ht] at w
  cases v <;> first | exact ⟨_, by rw [w.1]⟩ | exact absurd w (by simp)
theorem flat_i (xs : List Int) : (xs.map e_i).flatten = xs.map fun x => .v (.int .i64 x) := by
  induction xs with
  | nil => rfl
  | cons x t ih => simp only [List.map_cons, List.flatten_cons, ih]; rfl
/-- an argument that is a slice of numbers: its name's block, and where it stands -/
structure SlArg (W : World) (v' : Value) (xs : List Int) (av : Nat → Value) (b : Blk) (i : Info) : Prop where
  vr : ∀ (D : Nat → Prop) (m : NMap) n, D n → m n = i → VR D m (av n) v'
  vl : ∀ (Fz : Nat → Prop) (h : List Blk) n, Fz n → h[n]? = some b → VL Fz h noL (.list 1 (xs.map e_i)) (av n)
  ok : ∀ (D : Nat → Prop) (m : NMap) n, m n = i → BlkOk D m W n b
  lt : b ≠ .dead → i.block < W.heap.size
/-- names for arguments only -/
theorem rel_args {W : World} (bs : List Blk) (m : NMap) (hok : ∀ (n : Nat) b, bs[n]? = some b → BlkOk (fun k => k < bs.length) m W n b) (hlt : ∀ (n : Nat) b, bs[n]? = some b → b ≠ .dead → (m n).block < W.heap.size) :
    Rel W.heap.size bs.length (fun k => k < bs.length) m bs W :=
  ⟨Nat.le_refl _, fun _ h => h, fun n b _ hb => hok n b hb, fun n b _ hb hd => hlt n b hb hd, fun n b hD hl => absurd hD (by omega), fun n b _ _ hb hd => hlt n b hb hd, fun n b hD hl => absurd hD (by omega), fun n n' b b' hD _ hl => absurd hD (by omega)⟩
theorem choose_list {α : Type} {Q : Nat → α → Prop} : ∀ n, (∀ i, i < n → ∃ x, Q i x) → ∃ xs : List α, xs.length = n ∧ ∀ (i : Nat) x, xs[i]? = some x → Q i x
  | 0, _ => ⟨[], rfl, fun i x h => by simp at h⟩
  | n + 1, h => by
    obtain ⟨xs, hl, hq⟩ := choose_list n (fun i hi => h i (by omega))
    obtain ⟨x, hx⟩ := h n (by omega)
    refine ⟨xs ++ [x], by simp [hl], fun i y hy => ?_⟩
    rcases Nat.lt_or_ge i n with hi | hi
    · rw [List.getElem?_append_left (by omega)] at hy
      exact hq i y hy
    · rw [List.getElem?_append_right (by omega), hl] at hy
      have : i = n := by
        rcases Nat.lt_or_ge 0 (i - n) with g | g
        · rw [List.getElem?_eq_none (by simp; omega)] at hy; cases hy
        · omega
      subst this
      simp at hy
      subst hy
      exact hx
section
variable {H : Type} {enc : TypeId × Value → H} {W : World} {base : Nat} {spare : Nat → Bool} {held : Bool}
theorem open_ints {P : Program} {t te : TypeId} (ht : P.underlying t = some (.slice te)) (hte : P.underlying te = some (.int .i64)) (hC : P.cellsOf te = 1) {r : Reach} {b0 : Nat} {v' : Value} (hval : Value.okWide P W r b0 t v')
    {fuel : Nat} {x : DataW H × List MemPlace} (h : DataW.trod enc P W base spare held fuel t [v'] = some x) : ∃ xs av b i, SlArg W v' xs av b i := by
  rcases DataW.trod_slice ht h with ⟨hv, _⟩ | ⟨a, len, cap, elems, rest, n, _, hv, _, hb, hlc, hcm, hel, hel2, _, _⟩
  · obtain rfl : v' = .slice none 0 0 := by simpa using hv
    exact ⟨[], fun _ => .slice none 0 0, .dead, ⟨0, 0, 0, 0⟩, fun _ _ _ _ _ => .nilSlice 0 0, fun _ _ _ _ _ => .nillist _ _, fun _ _ _ _ => trivial, fun h => absurd rfl h⟩
  · obtain rfl : v' = .slice (some a) len cap := by simpa using hv
    have hok : len ≤ cap ∧ (cap : Int) ≤ IntKind.i64.max ∧ W.has P r b0 a te cap := by
      unfold Value.okWide at hval
      simp only [ht] at hval
      unfold Cell.okWide at hval
      simp only [ht] at hval
      unfold Cell.ok at hval
      simpa only [ht] using hval
    obtain ⟨g, o, s⟩ := a
    obtain ⟨_, _, _, hs, row, cells, hsh, _⟩ := hok
    simp only at hs hsh
    subst hs
    have hg : g < W.heap.size := by
      unfold World.shape? at hsh
      rcases Nat.lt_or_ge g W.heap.size with hg | hg
      · exact hg
      · rw [Array.getElem?_eq_none hg] at hsh
        simp at hsh
    have key : ∀ i, i < len → ∃ x : Int, W.cell? ⟨g, o + i, none⟩ = some (.int .i64 x) := fun i hi => by
      have h1 := hel2 i hi
      rw [List.getElem?_eq_getElem (by omega), Option.bind_eq_some_iff] at h1
      obtain ⟨cs, hcs, htr⟩ := h1
      rw [hC] at hcs
      obtain ⟨y, rfl, _⟩ := DataW.trod_int hte htr
      unfold World.cells? at hcs
      split at hcs
      · have := mapM_some_get hcs 0 0 (by simp)
        refine ⟨y, ?_⟩
        have e : ((⟨g, o, none⟩ : Addr).add (i * 1)).add 0 = ⟨g, o + i, none⟩ := by
          unfold Addr.add
          split <;> simp_all
        rw [← e]
        simpa using this
      · cases hcs
    obtain ⟨xs, hl, hq⟩ := choose_list len key
    subst hl
    refine ⟨xs, fun n => .slice (some ⟨n, 0, none⟩) xs.length xs.length, .cells 1 (xs.map (.int .i64)), ⟨g, o, cap, 1⟩, fun D m n hD hm => ?_, fun Fz h n hn hb => ?_, fun D m n hm => ?_, fun _ => hg⟩
    · have := VR.slice (D := D) (m := m) n 0 xs.length xs.length cap hD (Nat.le_refl _) hlc (.inr (by rw [hm]; simp))
      rw [hm] at this
      exact this
    · have := VL.list (Fz := Fz) (h := h) noL 1 (xs.map e_i) n 0 xs.length (xs.map (.int .i64)) 1 hn hb (.inl rfl) (fun r hr => by obtain ⟨x, _, rfl⟩ := List.mem_map.1 hr; rfl) (by simp) (by simp) (fun j p x hp hx => by
        rw [flat_i, List.getElem?_map, Option.map_eq_some_iff] at hp
        rw [Nat.zero_add, List.getElem?_map, Option.map_eq_some_iff] at hx
        obtain ⟨y, h1, rfl⟩ := hp
        obtain ⟨y', h2, rfl⟩ := hx
        obtain rfl : y = y' := Option.some.inj (h1.symm.trans h2)
        exact .v _ _ rfl)
      rw [List.length_map] at this
      exact this
    · refine ⟨by rw [hm], fun i v hv => ?_⟩
      rw [List.getElem?_map, Option.map_eq_some_iff] at hv
      obtain ⟨x, hx, rfl⟩ := hv
      refine ⟨.int .i64 x, by rw [hm]; exact hq i x hx, .int _ _⟩
end

theorem cell_int {P : Program} {W : World} {t : TypeId} (ht : P.underlying t = some (.int .i64)) {r : Reach} {b : Nat} {v : Value} (w : Cell.okWide P W r b t v) : ∃ n : Int, v = .int .i64 n := by
  unfold Cell.okWide at w
  simp only [ht] at w
  unfold Cell.ok at w
  simp only [ht] at w
  cases v <;> first | exact ⟨_, by rw [w.1]⟩ | exact absurd w (by simp)
set_option maxRecDepth 100000 in
theorem open_field {W : World} {r : Reach} {b : Nat} {v : Value} (w : Value.okWide Try.prog W r b 73 v) : ∃ x y z : Int, v = .agg #[.int .i64 x, .int .i64 y, .int .i64 z] := by
  unfold Value.okWide at w
  simp only [Try.underlying73] at w
  obtain ⟨cs, rfl, hs, ts, hts, _, hc⟩ := w
  have e : Try.prog.cellTypes Try.prog.depth 73 = some [3, 3, 3] := by kernel_rfl
  rw [e] at hts
  obtain rfl := Option.some.inj hts
  rw [show Try.prog.cellsOf 73 = 3 by kernel_rfl] at hs
  obtain ⟨l⟩ := cs
  match l, hs with
  | [c0, c1, c2], _ =>
    obtain ⟨_, u0, h0⟩ := hc 0 c0 rfl
    obtain ⟨_, u1, h1⟩ := hc 1 c1 rfl
    obtain ⟨_, u2, h2⟩ := hc 2 c2 rfl
    obtain rfl := Option.some.inj u0
    obtain rfl := Option.some.inj u1
    obtain rfl := Option.some.inj u2
    obtain ⟨x, rfl⟩ := cell_int Try.underlying3 h0
    obtain ⟨y, rfl⟩ := cell_int Try.underlying3 h1
    obtain ⟨z, rfl⟩ := cell_int Try.underlying3 h2
    exact ⟨x, y, z, rfl⟩
set_option maxRecDepth 100000 in
theorem lifted (os : Os) (started : os.Started) (H : Type) (enc : TypeId × Value → H) :
    ReturnsInHanded {} Try.checked os 8 .any (Rows.pulseTransformsSpec.pre6 enc Try.prog Try.f8 Rows.pulseTransformsRow.domain false) (Rows.pulseTransformsSpec.post enc Try.prog Try.f8 false true false false) := by
  refine returnsInHanded_of_change (C := Try.checked) own started (by kernel_rfl) Try.func8
    (ChangeSpec.witness6 (enc := enc) (C := Try.checked) false ⟨#[], #[.slice none 0 0, .agg #[.int .i64 0, .int .i64 0, .int .i64 0]], []⟩ 8 (by kernel_rfl) (by kernel_rfl) (by kernel_rfl) (by kernel_rfl)) ?_
  intro W base args ds gs before hval0 hW hcnd _
  have hval : ∀ (j : Nat) t v, Try.f8.params[j]? = some t → args[j]? = some v → Value.okWide Try.prog W .any base t v := hval0
  have hW' := hW
  obtain ⟨p, q, hA0, hV, rfl, hfz, hnd⟩ := hW
  have hA : DataW.TrodAll enc Try.prog W 0 (fun _ => true) true Try.f8.params.toList args.toList ds p := hA0
  rw [Try.params8] at hA hval
  obtain ⟨v0, vs0, d0, ds0, p0, q0, hargs, rfl, rfl, h0, r0⟩ := trodAll_cons hA
  obtain ⟨v1, vs1, d1, ds1, p1, q1, rfl, rfl, rfl, h1, r1⟩ := trodAll_cons r0
  obtain ⟨rfl, rfl, rfl⟩ := trodAll_nil r1
  obtain rfl : args = #[v0, v1] := by cases args; simp_all
  obtain ⟨rfl, rfl⟩ := trodVars_none hV
  have lt0 : ∀ x ∈ p0, x.block < W.heap.size := by obtain ⟨m, hm⟩ := h0; exact DataW.trod_lt m _ _ _ hm
  have lt1 : ∀ x ∈ p1, x.block < W.heap.size := by obtain ⟨m, hm⟩ := h1; exact DataW.trod_lt m _ _ _ hm
  have w0 := hval 0 22 v0 rfl rfl
  obtain ⟨xs, av0, b0, i0, s0⟩ : ∃ xs av b i, SlArg W v0 xs av b i := by
    obtain ⟨a, len, cap, rfl⟩ := okWide_slice Try.underlying22 w0
    obtain ⟨m, hm⟩ := h0
    exact open_ints Try.underlying22 Try.underlying3 (by kernel_rfl) w0 (by simpa [Value.cells] using hm)
  obtain ⟨x, y, z, rfl⟩ := open_field (hval 1 73 v1 rfl rfl)
  clear hA0 hval0
  let m : NMap := fun _ => i0
  have hrel : Rel W.heap.size 1 (fun k => k < 1) m [b0] W := by
    refine rel_args [b0] m ?_ ?_
    · intro n b hb
      match n, hb with
      | 0, hb => obtain rfl : b0 = b := by simpa using hb
                 exact s0.ok _ _ _ rfl
      | n + 1, hb => simp at hb
    · intro n b hb hd
      match n, hb with
      | 0, hb => obtain rfl : b0 = b := by simpa using hb
                 exact s0.lt hd
      | n + 1, hb => simp at hb
  have hag : VL (fun k => k < 1) [b0] noL (.agg [.v (.int .i64 x), .v (.int .i64 y), .v (.int .i64 z)]) (.agg ⟨[.int .i64 x, .int .i64 y, .int .i64 z]⟩) := by
    refine VL.agg _ _ _ rfl fun i p q hp hq => ?_
    match i, hp, hq with
    | 0, hp, hq => obtain rfl := Option.some.inj hp
                   obtain rfl := Option.some.inj hq
                   exact .v _ _ rfl
    | 1, hp, hq => obtain rfl := Option.some.inj hp
                   obtain rfl := Option.some.inj hq
                   exact .v _ _ rfl
    | 2, hp, hq => obtain rfl := Option.some.inj hp
                   obtain rfl := Option.some.inj hq
                   exact .v _ _ rfl
    | n + 3, hp, hq => simp at hp
  have hvr : VR (fun k => k < 1) m (.agg ⟨[.int .i64 x, .int .i64 y, .int .i64 z]⟩) (.agg ⟨[.int .i64 x, .int .i64 y, .int .i64 z]⟩) := by
    refine VR.agg _ _ rfl fun i p q hp hq => ?_
    match i, hp, hq with
    | 0, hp, hq => obtain rfl := Option.some.inj hp
                   obtain rfl := Option.some.inj hq
                   exact .int _ _
    | 1, hp, hq => obtain rfl := Option.some.inj hp
                   obtain rfl := Option.some.inj hq
                   exact .int _ _
    | 2, hp, hq => obtain rfl := Option.some.inj hp
                   obtain rfl := Option.some.inj hq
                   exact .int _ _
    | n + 3, hp, hq => simp at hp
  refine (law04_PulseTransforms_law (transforms_true xs x y z) (Fz := fun k => k < 1) (h := [b0]) (vs := [av0 0, .agg ⟨[.int .i64 x, .int .i64 y, .int .i64 z]⟩]) (fun n h => h) (.cons (s0.vl _ _ 0 (by omega) rfl) (.cons hag .nil)) hrel (Nat.le_refl _) (args' := [v0, .agg ⟨[.int .i64 x, .int .i64 y, .int .i64 z]⟩]) ?_).mono fun e W' ⟨he, bel⟩ => ?_
  · refine ⟨rfl, fun i a a' ha ha' => ?_⟩
    match i, ha, ha' with
    | 0, ha, ha' => obtain rfl := Option.some.inj ha
                    obtain rfl := Option.some.inj ha'
                    exact s0.vr _ _ 0 (by omega) rfl
    | 1, ha, ha' => obtain rfl := Option.some.inj ha
                    obtain rfl := Option.some.inj ha'
                    exact hvr
    | n + 2, ha, ha' => simp at ha
  subst he
  exact ⟨_, rfl, _, _, _, [], _, [], hW', trodAll_mk1 (shut_bool Try.underlying4 _), (trodAll_cons_mk (Below.trod laidOut (by kernel_rfl) (of_decide_eq_true (by kernel_rfl)) h0 bel lt0) (trodAll_cons_mk (Below.trod laidOut (by kernel_rfl) (of_decide_eq_true (by kernel_rfl)) h1 bel lt1) trodAll_mk0)), rfl, bel.frame _, fun h => by cases h⟩

theorem over : Rows.pulseTransformsRow.holds Try.pinned (OpenSpec.ofChange Rows.pulseTransformsSpec) :=
  OpenClaim.holds_of_wide 8 Try.f8 rfl rfl rfl rfl rfl rfl rfl ⟨rfl, rfl, rfl, rfl, rfl⟩ rfl rfl rfl rfl rfl (by kernel_rfl) Try.func8 (by kernel_rfl)
    (of_decide_eq_true (by kernel_rfl)) (by unfold Func.isWrapper; first | (rw [if_pos (by decide +kernel)]; kernel_rfl) | (rw [if_neg (by decide +kernel)]; exact ⟨rfl, rfl⟩))
    (fun os started H enc _ => lifted os started H enc)

theorem proved : Rows.PulseTransformsSaid :=
  over
end Go.Proofs.Ytcegcnihfoaaeaa.pulseTransforms
