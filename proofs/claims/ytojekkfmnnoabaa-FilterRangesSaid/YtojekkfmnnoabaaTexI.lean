/- An executor of the program's functions on trees of values, proved sound. -/
import Derived.Test.YtojekkfmnnoabaaTexH
set_option linter.unusedSimpArgs false
set_option linter.unusedVariables false
set_option linter.defProp false
namespace Go.Rex
open Go.RowKit
section
variable {C : Ctx} {P : Program} {Fz : Nat → Prop} {h h0 : List Blk} {L : Nat → LI} {s : TS} {tm : List Value}
variable {dst : Option Tmp} {ty : TypeId} {pos : String} {aft : Array Edge} {gd : Option (Nat × Bool)}

/-! ### a state that says less -/
inductive WT : List TV → List TV → Prop
  | nil : WT [] []
  | junk {p : TV} {l l' : List TV} (h : WT l l') : WT (p :: l) (.junk :: l')
  | keep {p q : TV} {l l' : List TV} (e : p = q) (h : WT l l') : WT (p :: l) (q :: l')
theorem WT.vls {l l' : List TV} (hw : WT l l') : ∀ {x : List Value}, VLs Fz h L l x → VLs Fz h L l' x := by
  induction hw with
  | nil => exact fun h => h
  | @junk p l l' hw ih =>
    intro x hx
    match x, hx with
    | [], hx => exact absurd hx.len (by simp)
    | v :: x, hx =>
      exact VLs.cons (.junk L v) (ih ⟨by have := hx.len; simpa using this, fun i p y h1 h2 => hx.at' (i + 1) p y (by simpa using h1) (by simpa using h2)⟩)
  | @keep p q l l' e hw ih =>
    subst e
    intro x hx
    match x, hx with
    | [], hx => exact absurd hx.len (by simp)
    | v :: x, hx =>
      exact VLs.cons (hx.at' 0 p v rfl rfl) (ih ⟨by have := hx.len; simpa using this, fun i p y h1 h2 => hx.at' (i + 1) p y (by simpa using h1) (by simpa using h2)⟩)
/-- own blocks named are among the first k -/
def bel (k : Nat) : Nat → TV → Bool
  | 0, _ => false
  | d + 1, p => match p with
    | .lptr m _ _ => decide (m < k)
    | .lsl m _ _ => decide (m < k)
    | .agg l => l.all (bel k d)
    | .tuple l => l.all (bel k d)
    | _ => true
theorem VL.bel {k : Nat} {L' : Nat → LI} (hL : ∀ n, n < k → L' n = L n) : ∀ (d : Nat) {p : TV} {x : Value}, bel k d p = true → VL Fz h L p x → VL Fz h L' p x
  | 0, p, x, hl, hp => by simp [Rex.bel] at hl
  | d + 1, p, x, hl, hp => by
    have key : ∀ (l : List TV) (l' : List Value), l.all (Rex.bel k d) = true → (∀ (i : Nat) p x, l[i]? = some p → l'[i]? = some x → VL Fz h L p x) → ∀ (i : Nat) p x, l[i]? = some p → l'[i]? = some x → VL Fz h L' p x := by
      intro l l' hall ha i p x hp hx
      exact VL.bel hL d (by simpa using (List.all_eq_true.1 hall) p (List.mem_of_getElem? hp)) (ha i p x hp hx)
    cases hp with
    | junk _ x => exact .junk L' x
    | v _ x hx => exact .v L' x hx
    | agg _ l l' hl' ha => exact .agg L' _ l' hl' (key l l' (by simpa [Rex.bel] using hl) ha)
    | tuple _ l l' hl' ha => exact .tuple L' _ l' hl' (key l l' (by simpa [Rex.bel] using hl) ha)
    | func _ f a b a' b' la ha lb hb => exact .func L' f a b a' b' la ha lb hb
    | nillist _ es => exact .nillist L' es
    | list _ es rows n o c cs eb hn hb he hw hc hle ha => exact .list L' es rows n o c cs eb hn hb he hw hc hle ha
    | fptr _ vb row off n base es cs hn hb hv hle ha => exact .fptr L' vb row off n base es cs hn hb hv hle ha
    | lptr _ n r o nm ok hn =>
      have e := hL n (by simpa [Rex.bel] using hl)
      rw [← e] at ok hn ⊢; exact .lptr L' n r o nm ok hn
    | lslnil _ n ok hn =>
      have e := hL n (by simpa [Rex.bel] using hl)
      rw [← e] at ok hn; exact .lslnil L' n ok hn
    | lsl _ n o len nm ok hn hle =>
      have e := hL n (by simpa [Rex.bel] using hl)
      rw [← e] at ok hn hle ⊢; exact .lsl L' n o len nm ok hn hle
def belB (k : Nat) : TB → Bool
  | .var row => row.all (bel k 4)
  | _ => true
theorem Wk.of {tm' : List TV} {hp' g : List TB} (hw : WT s.tm tm') (he : s.hp = hp' ++ g) (h1 : tm'.all (bel hp'.length 4) = true) (h2 : hp'.all (belB hp'.length) = true) : Wk s ⟨tm', hp'⟩ := by
  intro h0 Fz L tm h hs
  refine ⟨Fz, fun n => if n < hp'.length then L n else ⟨false, none, 0, 0⟩, Grow.refl _ _, ?_⟩
  have hL : ∀ n, n < hp'.length → (fun n => if n < hp'.length then L n else ⟨false, none, 0, 0⟩) n = L n := fun n hn => by simp only [if_pos hn]
  have hv := hw.vls hs.tmr
  refine ⟨⟨hv.len, fun i p x hp hx => VL.bel hL 4 (by simpa using List.all_eq_true.1 h1 p (List.mem_of_getElem? hp)) (hv.at' i p x hp hx)⟩, ?_, ?_, ?_, hs.fz, hs.ext⟩
  · intro n b hb
    have hlt := (List.getElem?_eq_some_iff.1 hb).1
    have hB := hs.blk n b (by rw [he, List.getElem?_append_left hlt]; exact hb)
    have e := hL n hlt
    cases b with
    | dead => trivial
    | rows es rows => unfold BR; rw [e]; exact hB
    | var row =>
      obtain ⟨q1, nm, cs, e1, e2, e3, e4, e5⟩ := hB
      unfold BR
      rw [e]
      have hbl : row.all (bel hp'.length 4) = true := by
        have := List.all_eq_true.1 h2 _ (List.mem_of_getElem? hb)
        simpa [belB] using this
      exact ⟨q1, nm, cs, e1, e2, e3, e4, e5.len, fun i p x hp hx => VL.bel hL 4 (by simpa using List.all_eq_true.1 hbl p (List.mem_of_getElem? hp)) (e5.at' i p x hp hx)⟩
  · intro n hn
    by_cases hlt : n < hp'.length
    · exact hlt
    · simp only [if_neg hlt] at hn; cases hn
  · intro n n' b b' nm hb hb' l1 l2 e1 e2
    have hlt := (List.getElem?_eq_some_iff.1 hb).1
    have hlt' := (List.getElem?_eq_some_iff.1 hb').1
    simp only [if_pos hlt] at e1
    simp only [if_pos hlt'] at e2
    exact hs.inj n n' b b' nm (by rw [he, List.getElem?_append_left hlt]; exact hb) (by rw [he, List.getElem?_append_left hlt']; exact hb') l1 l2 e1 e2

/-- a nil slice becomes a block of one's own, which is nowhere yet -/
theorem Wk.nil (t es : Nat) (ht : tnth s.tm t = .v (.slice none 0 0)) : Wk s ⟨s.tm.set t (.lsl s.hp.length 0 0), s.hp ++ [.rows es []]⟩ := by
  intro h0 Fz L tm h hs
  refine ⟨Fz, fun n => if n = s.hp.length then ⟨true, none, es, 0⟩ else L n, Grow.refl _ _, ?_⟩
  have hold : ∀ n, (L n).ok = true → (fun n => if n = s.hp.length then (⟨true, none, es, 0⟩ : LI) else L n) n = L n := fun n hn => by
    have := hs.dom n hn
    simp only [if_neg (show ¬ n = s.hp.length by omega)]
  have hv := hs.tmr.own hold
  have hx : tm[t]? = some (.slice none 0 0) := by
    have := tev_vl hs.tmr (.tmp t)
    simp only [tev, ev] at this
    rw [ht] at this
    have h1 := this.bool_inv
    rw [nth_eq] at h1
    cases hq : tm[t]? with
    | none => rw [hq] at h1; cases h1
    | some q => rw [hq] at h1; exact congrArg some h1
  have hset : VLs Fz h (fun n => if n = s.hp.length then (⟨true, none, es, 0⟩ : LI) else L n) (s.tm.set t (.lsl s.hp.length 0 0)) (tm.set t (.slice none 0 0)) := hv.set t (.lslnil _ _ (by simp) (by simp))
  have hself : tm.set t (.slice none 0 0) = tm := by
    apply List.ext_getElem?
    intro i
    by_cases e : t = i
    · subst e; rw [List.getElem?_set_self (List.getElem?_eq_some_iff.1 hx).1, hx]
    · rw [List.getElem?_set_ne e]
  rw [hself] at hset
  refine ⟨hset, ?_, ?_, ?_, hs.fz, hs.ext⟩
  · intro n b hb
    rcases Nat.lt_or_ge n s.hp.length with hl | hge
    · rw [List.getElem?_append_left hl] at hb
      exact (hs.blk n b hb).own hold (by simp only [if_neg (show ¬ n = s.hp.length by omega)])
    · rw [List.getElem?_append_right hge] at hb
      have hl := (List.getElem?_eq_some_iff.1 hb).1
      simp only [List.length_singleton] at hl
      obtain rfl : n = s.hp.length := by omega
      simp at hb
      subst hb
      exact ⟨by simp, by simp, by simp, by simp, .inl ⟨by simp, rfl⟩⟩
  · intro n hn
    simp only [List.length_append, List.length_singleton]
    by_cases e : n = s.hp.length
    · omega
    · simp only [if_neg e] at hn
      have := hs.dom n hn; omega
  · intro n n' b b' nm hb hb' l1 l2 e1 e2
    have f : ∀ n (b' : TB), (s.hp ++ [TB.rows es []])[n]? = some b' → (if n = s.hp.length then (⟨true, none, es, 0⟩ : LI) else L n).nm = some nm → s.hp[n]? = some b' ∧ (L n).nm = some nm := by
      intro n b' hb' he
      by_cases e : n = s.hp.length
      · rw [if_pos e] at he; cases he
      · rw [if_neg e] at he
        rcases Nat.lt_or_ge n s.hp.length with hl | hge
        · rw [List.getElem?_append_left hl] at hb'; exact ⟨hb', he⟩
        · rw [List.getElem?_append_right hge] at hb'
          have hl := (List.getElem?_eq_some_iff.1 hb').1
          simp only [List.length_singleton] at hl
          omega
    obtain ⟨a1, a2⟩ := f n b hb e1
    obtain ⟨c1, c2⟩ := f n' b' hb' e2
    exact hs.inj n n' b b' nm a1 c1 l1 l2 a2 c2

/-! ### the heap without writes to come -/
def frz (n : Nat) (b : TB) : Nat → TV → TV
  | 0, _ => .junk
  | d + 1, p => match p with
    | .lsl m o len => if m = n then (match b with
      | .rows es rows => .list es ((rows.drop o).take len)
      | _ => .junk) else .lsl m o len
    | .lptr m r o => if m = n then (match b with
      | .rows _ rows => (match rows[r]? with | some row => .fptr false row o | none => .junk)
      | .var row => if r = 0 then .fptr true row o else .junk
      | _ => .junk) else .lptr m r o
    | .agg l => .agg (l.map (frz n b d))
    | .tuple l => .tuple (l.map (frz n b d))
    | p => p
theorem flat_drop {es : Nat} : ∀ {rows : List (List TV)} (_ : ∀ r ∈ rows, r.length = es) (k : Nat), (rows.drop k).flatten = rows.flatten.drop (k * es)
  | [], _, k => by simp
  | r :: rows, hw, 0 => by simp
  | r :: rows, hw, k + 1 => by
    have h1 := hw r (by simp)
    simp only [List.drop_succ_cons, List.flatten_cons]
    rw [flat_drop (fun r hr => hw r (by simp [hr])) k, Nat.succ_mul, List.drop_append, List.drop_of_length_le (show r.length ≤ k * es + es by omega), List.nil_append]
    congr 1; omega
theorem flat_take {es : Nat} : ∀ {rows : List (List TV)} (_ : ∀ r ∈ rows, r.length = es) (k : Nat), (rows.take k).flatten = rows.flatten.take (k * es)
  | [], _, k => by simp
  | r :: rows, hw, 0 => by simp
  | r :: rows, hw, k + 1 => by
    have h1 := hw r (by simp)
    simp only [List.take_succ_cons, List.flatten_cons]
    rw [flat_take (fun r hr => hw r (by simp [hr])) k, Nat.succ_mul, List.take_append, List.take_of_length_le (show r.length ≤ k * es + es by omega)]
    congr 2; omega
/-- a part of a row of rows, as a list -/
theorem VL.part {es eb : Nat} {rows : List (List TV)} {n o c : Nat} {cs : List Value} (hn : Fz n) (hb : h[n]? = some (.cells eb cs)) (he : eb = es ∨ eb = 0) (hw : ∀ r ∈ rows, r.length = es) (hle : o + rows.length * es ≤ cs.length)
    (ha : ∀ (j : Nat) p x, rows.flatten[j]? = some p → cs[o + j]? = some x → VL Fz h noL p x) (l m : Nat) (hlm : l + m ≤ rows.length) (hc : m ≤ c) : VL Fz h L (.list es ((rows.drop l).take m)) (.slice (some ⟨n, o + l * es, none⟩) m c) := by
  have hlen : ((rows.drop l).take m).length = m := by simp; omega
  have hw' : ∀ r ∈ rows.drop l, r.length = es := fun r hr => hw r (List.mem_of_mem_drop hr)
  have hmul : l * es + m * es ≤ rows.length * es := by rw [← Nat.add_mul]; exact Nat.mul_le_mul_right _ hlm
  have := VL.list (Fz := Fz) (h := h) L es ((rows.drop l).take m) n (o + l * es) c cs eb hn hb he (fun r hr => hw' r (List.mem_of_mem_take hr)) (by omega) (by rw [hlen]; omega) (fun j p x h1 h2 => by
    rw [flat_take hw', flat_drop hw, List.getElem?_take, List.getElem?_drop] at h1
    split at h1
    · exact ha (l * es + j) p x h1 (by rw [← Nat.add_assoc]; exact h2)
    · cases h1)
  rw [hlen] at this
  exact this
def lfB : TB → Bool
  | .var row => row.all (lf 4)
  | _ => true
theorem VL.frz {Fz' : Nat → Prop} {n : Nat} {b : TB} (hB : BR h0.length Fz h L n b) (hlf : lfB b = true) (hF : ∀ k, Fz k → Fz' k) (hN : ∀ nm, (L n).nm = some nm → Fz' nm) : ∀ (d : Nat) {p : TV} {x : Value}, VL Fz h L p x → VL Fz' h L (frz n b d p) x
  | 0, p, x, hp => by rw [Rex.frz]; exact .junk L x
  | d + 1, p, x, hp => by
    have key : ∀ (l : List TV) (l' : List Value), (∀ (i : Nat) p x, l[i]? = some p → l'[i]? = some x → VL Fz h L p x) → ∀ (i : Nat) p x, (l.map (Rex.frz n b d))[i]? = some p → l'[i]? = some x → VL Fz' h L p x := by
      intro l l' ha i p x hp hx
      rw [List.getElem?_map] at hp
      cases hq : l[i]? with
      | none => rw [hq] at hp; cases hp
      | some q => rw [hq] at hp; obtain rfl := Option.some.inj hp; exact VL.frz hB hlf hF hN d (ha i q x hq hx)
    cases hp with
    | junk _ x => exact .junk L x
    | v _ x hx => exact .v L x hx
    | agg _ l l' hl ha => exact .agg L _ l' (by simp [hl]) (key l l' ha)
    | tuple _ l l' hl ha => exact .tuple L _ l' (by simp [hl]) (key l l' ha)
    | func _ f a b a' b' la ha lb hb => exact (VL.func L f a b a' b' la ha lb hb).mono hF (fun _ _ => rfl)
    | nillist _ es => exact .nillist L es
    | list _ es rows n o c cs eb hn hb he hw hc hle ha => exact (VL.list L es rows n o c cs eb hn hb he hw hc hle ha).mono hF (fun _ _ => rfl)
    | fptr _ vb row off n base es cs hn hb hv hle ha => exact (VL.fptr L vb row off n base es cs hn hb hv hle ha).mono hF (fun _ _ => rfl)
    | lptr _ m r o nm ok hn =>
      simp only [Rex.frz]
      split
      · rename_i e
        subst e
        cases b with
        | dead => exact .junk L _
        | rows es rows =>
          simp only
          obtain ⟨q1, q2, q3, q4, q5⟩ := hB
          split
          · rename_i row hrow
            rcases q5 with q5 | ⟨nm', cs, e1, e2, e3, e4, e5⟩
            · rw [q5.1] at hn; cases hn
            · rw [hn] at e1
              obtain rfl := Option.some.inj e1
              have hlt := (List.getElem?_eq_some_iff.1 hrow).1
              have hl := q4 row (List.mem_of_getElem? hrow)
              have hcl : cs.length = rows.length * es := by rw [e5.len, flat_len q4]
              have hmul : r * es + es ≤ rows.length * es := by rw [← Nat.succ_mul]; exact Nat.mul_le_mul_right _ hlt
              rw [q2]
              refine .fptr L false row o nm (r * es) es cs (hN nm hn) e4 (fun h => by cases h) (by omega) fun j p x h1 h2 => ?_
              have hjl := (List.getElem?_eq_some_iff.1 h1).1
              exact (e5.at' (r * es + j) p x (by rw [flat_at q4 hrow (by omega)]; exact h1) h2).mono hF (fun _ _ => rfl)
          · exact .junk L _
        | var row =>
          simp only
          obtain ⟨q1, nm', cs, e1, e2, e3, e4, e5⟩ := hB
          rw [hn] at e1
          obtain rfl := Option.some.inj e1
          split
          · rename_i hr0
            subst hr0
            refine .fptr L true row _ nm (0 * (L m).es) 0 cs (hN nm hn) e4 (fun _ => rfl) (by have := e5.len; omega) fun j p x h1 h2 => ?_
            rw [Nat.zero_mul, Nat.zero_add] at h2
            have hl : row.all (lf 4) = true := by simpa [lfB] using hlf
            exact (VL.toNo 4 (by simpa using List.all_eq_true.1 hl p (List.mem_of_getElem? h1)) (e5.at' j p x h1 h2)).mono hF (fun _ _ => rfl)
          · exact .junk L _
      · exact .lptr L m r o nm ok hn
    | lslnil _ m ok hn =>
      simp only [Rex.frz]
      split
      · rename_i e
        subst e
        cases b with
        | rows es rows => simp only [List.take_zero]; exact .nillist L es
        | _ => exact .junk L _
      · exact .lslnil L m ok hn
    | lsl _ m o len nm ok hn hle =>
      simp only [Rex.frz]
      split
      · rename_i e
        subst e
        cases b with
        | rows es rows =>
          simp only
          obtain ⟨q1, q2, q3, q4, q5⟩ := hB
          rcases q5 with q5 | ⟨nm', cs, e1, e2, e3, e4, e5⟩
          · rw [q5.1] at hn; cases hn
          · rw [hn] at e1
            obtain rfl := Option.some.inj e1
            have hcl : cs.length = rows.length * es := by rw [e5.len, flat_len q4]
            have := VL.part (Fz := Fz') (h := h) (L := L) (es := es) (rows := rows) (n := nm) (o := 0) (c := (L m).tot - o) (cs := cs) (hN nm hn) e4 (.inl rfl) q4 (by omega) (fun j p x h1 h2 => by
              rw [Nat.zero_add] at h2
              exact (e5.at' j p x h1 h2).mono hF (fun _ _ => rfl)) o len (by rw [← q3]; exact hle) (by omega)
            rw [Nat.zero_add] at this
            rw [q2]
            exact this
        | _ => exact .junk L _
      · exact .lsl L m o len nm ok hn hle
def frzB (n : Nat) (b : TB) : TB → TB
  | .var row => .var (row.map (frz n b 4))
  | b' => b'
/-- an own block is frozen: everything that names it sees its content -/
theorem Wk.freeze (n : Nat) {b : TB} (hb : s.hp[n]? = some b) (hlf : lfB b = true) : Wk s ⟨s.tm.map (frz n b 4), (s.hp.map (frzB n b)).set n .dead⟩ := by
  intro h0 Fz L tm h hs
  have hB := hs.blk n b hb
  have hnmlt : ∀ nm, b.live = true → (L n).nm = some nm → h0.length ≤ nm ∧ nm < h.length := by
    intro nm hlv hn
    cases b with
    | dead => cases hlv
    | rows es rows =>
      obtain ⟨-, -, -, -, h5⟩ := hB
      rcases h5 with h5 | ⟨nm', cs, e1, e2, e3, e4, e5⟩
      · rw [h5.1] at hn; cases hn
      · rw [e1] at hn; obtain rfl := Option.some.inj hn
        exact ⟨e2, (List.getElem?_eq_some_iff.1 e4).1⟩
    | var row =>
      obtain ⟨-, nm', cs, e1, e2, e3, e4, e5⟩ := hB
      rw [e1] at hn; obtain rfl := Option.some.inj hn
      exact ⟨e2, (List.getElem?_eq_some_iff.1 e4).1⟩
  -- what is dead stays so
  by_cases hlv : b.live = true
  · refine ⟨fun k => Fz k ∨ (L n).nm = some k, L, ⟨fun k hk => .inl hk, fun k hk => ?_⟩, ?_⟩
    · rcases hk with hk | hk
      · exact .inl hk
      · exact .inr (hnmlt k hlv hk).1
    have hF : ∀ k, Fz k → (fun k => Fz k ∨ (L n).nm = some k) k := fun k hk => .inl hk
    have hN : ∀ nm, (L n).nm = some nm → (fun k => Fz k ∨ (L n).nm = some k) nm := fun nm hn => .inr hn
    have hmap : ∀ (l : List TV) (x : List Value), VLs Fz h L l x → VLs (fun k => Fz k ∨ (L n).nm = some k) h L (l.map (frz n b 4)) x := by
      intro l x hx
      refine ⟨by simp [hx.len], fun i p y hp hy => ?_⟩
      rw [List.getElem?_map] at hp
      cases hq : l[i]? with
      | none => rw [hq] at hp; cases hp
      | some q => rw [hq] at hp; obtain rfl := Option.some.inj hp; exact VL.frz hB hlf hF hN 4 (hx.at' i q y hq hy)
    have inv : ∀ (k : Nat) (b' : TB), ((s.hp.map (frzB n b)).set n .dead)[k]? = some b' → b'.live = true → k ≠ n ∧ ∃ b0 : TB, s.hp[k]? = some b0 ∧ b0.live = true ∧ b' = frzB n b b0 := by
      intro k b' hk hl
      by_cases e : k = n
      · subst e
        rw [List.getElem?_set_self (by simpa using (List.getElem?_eq_some_iff.1 hb).1)] at hk
        obtain rfl := Option.some.inj hk
        cases hl
      · rw [List.getElem?_set_ne (Ne.symm e), List.getElem?_map] at hk
        cases hq : s.hp[k]? with
        | none => rw [hq] at hk; cases hk
        | some b0 =>
          rw [hq] at hk
          obtain rfl := Option.some.inj hk
          refine ⟨e, b0, rfl, ?_, rfl⟩
          cases b0 <;> first | rfl | exact hl
    refine ⟨hmap _ _ hs.tmr, ?_, fun k hk => by simpa using hs.dom k hk, ?_, ?_, hs.ext⟩
    · intro k b' hk
      by_cases hl : b'.live = true
      · obtain ⟨hne, b0, hb0, hl0, rfl⟩ := inv k b' hk hl
        have hB0 := hs.blk k b0 hb0
        have hnf : ∀ nm, (L k).nm = some nm → ¬ Fz nm → ¬ (Fz nm ∨ (L n).nm = some nm) := fun nm hn hf hor => by
          rcases hor with h1 | h1
          · exact hf h1
          · exact hne (hs.inj k n b0 b nm hb0 hb hl0 hlv hn h1)
        cases b0 with
        | dead => cases hl0
        | rows es rows =>
          obtain ⟨q1, q2, q3, q4, q5⟩ := hB0
          refine ⟨q1, q2, q3, q4, ?_⟩
          rcases q5 with q5 | ⟨nm, cs, e1, e2, e3, e4, e5⟩
          · exact .inl q5
          · exact .inr ⟨nm, cs, e1, e2, hnf nm e1 e3, e4, e5.mono hF (fun _ _ => rfl)⟩
        | var row =>
          obtain ⟨q1, nm, cs, e1, e2, e3, e4, e5⟩ := hB0
          exact ⟨q1, nm, cs, e1, e2, hnf nm e1 e3, e4, hmap _ _ e5⟩
      · cases b' with
        | dead => trivial
        | _ => exact absurd rfl hl
    · intro k k' c c' nm hk hk' l1 l2 e1 e2
      obtain ⟨-, b1, g1, g2, -⟩ := inv k c hk l1
      obtain ⟨-, b2, g3, g4, -⟩ := inv k' c' hk' l2
      exact hs.inj k k' b1 b2 nm g1 g3 g2 g4 e1 e2
    · intro k hk
      rcases hk with hk | hk
      · exact hs.fz k hk
      · exact (hnmlt k hlv hk).2
  · -- dead already: nothing is said of it
    obtain rfl : b = .dead := by cases b <;> first | rfl | exact absurd rfl hlv
    have hmap : ∀ (l : List TV) (x : List Value), VLs Fz h L l x → VLs Fz h L (l.map (frz n .dead 4)) x := by
      intro l x hx
      refine ⟨by simp [hx.len], fun i p y hp hy => ?_⟩
      rw [List.getElem?_map] at hp
      cases hq : l[i]? with
      | none => rw [hq] at hp; cases hp
      | some q =>
        rw [hq] at hp; obtain rfl := Option.some.inj hp
        have hv := hx.at' i q y hq hy
        have : ∀ (d : Nat) {p : TV} {x : Value}, VL Fz h L p x → VL Fz h L (frz n .dead d p) x := by
          intro d
          induction d with
          | zero => intro p x _; exact .junk L x
          | succ d ih =>
            intro p x hp
            have key : ∀ (l : List TV) (l' : List Value), (∀ (i : Nat) p x, l[i]? = some p → l'[i]? = some x → VL Fz h L p x) → ∀ (i : Nat) p x, (l.map (Rex.frz n .dead d))[i]? = some p → l'[i]? = some x → VL Fz h L p x := by
              intro l l' ha i p x hp hx
              rw [List.getElem?_map] at hp
              cases hq : l[i]? with
              | none => rw [hq] at hp; cases hp
              | some q => rw [hq] at hp; obtain rfl := Option.some.inj hp; exact ih (ha i q x hq hx)
            cases hp with
            | agg _ l l' hl ha => exact .agg L _ l' (by simp [hl]) (key l l' ha)
            | tuple _ l l' hl ha => exact .tuple L _ l' (by simp [hl]) (key l l' ha)
            | lptr _ m r o nm ok hn =>
              simp only [Rex.frz]
              split
              · exact .junk L _
              · exact .lptr L m r o nm ok hn
            | lslnil _ m ok hn =>
              simp only [Rex.frz]
              split
              · exact .junk L _
              · exact .lslnil L m ok hn
            | lsl _ m o len nm ok hn hle =>
              simp only [Rex.frz]
              split
              · exact .junk L _
              · exact .lsl L m o len nm ok hn hle
            | junk _ x => exact .junk L x
            | v _ x hx => exact .v L x hx
            | func _ f a b a' b' la ha lb hb => exact .func L f a b a' b' la ha lb hb
            | nillist _ es => exact .nillist L es
            | list _ es rows n o c cs eb hn hb he hw hc hle ha => exact .list L es rows n o c cs eb hn hb he hw hc hle ha
            | fptr _ vb row off n base es cs hn hb hv hle ha => exact .fptr L vb row off n base es cs hn hb hv hle ha
        exact this 4 hv
    refine ⟨Fz, L, Grow.refl _ _, hmap _ _ hs.tmr, ?_, fun k hk => by simpa using hs.dom k hk, ?_, hs.fz, hs.ext⟩
    all_goals
      have inv : ∀ (k : Nat) (b' : TB), ((s.hp.map (frzB n .dead)).set n .dead)[k]? = some b' → b'.live = true → ∃ b0 : TB, s.hp[k]? = some b0 ∧ b0.live = true ∧ b' = frzB n .dead b0 := by
        intro k b' hk hl
        by_cases e : k = n
        · subst e
          rw [List.getElem?_set_self (by simpa using (List.getElem?_eq_some_iff.1 hb).1)] at hk
          obtain rfl := Option.some.inj hk
          cases hl
        · rw [List.getElem?_set_ne (Ne.symm e), List.getElem?_map] at hk
          cases hq : s.hp[k]? with
          | none => rw [hq] at hk; cases hk
          | some b0 =>
            rw [hq] at hk
            obtain rfl := Option.some.inj hk
            refine ⟨b0, rfl, ?_, rfl⟩
            cases b0 <;> first | rfl | exact hl
    · intro k b' hk
      by_cases hl : b'.live = true
      · obtain ⟨b0, hb0, hl0, rfl⟩ := inv k b' hk hl
        have hB0 := hs.blk k b0 hb0
        cases b0 with
        | dead => cases hl0
        | rows es rows => exact hB0
        | var row =>
          obtain ⟨q1, nm, cs, e1, e2, e3, e4, e5⟩ := hB0
          exact ⟨q1, nm, cs, e1, e2, e3, e4, hmap _ _ e5⟩
      · cases b' with
        | dead => trivial
        | _ => exact absurd rfl hl
    · intro k k' c c' nm hk hk' l1 l2 e1 e2
      obtain ⟨b1, g1, g2, -⟩ := inv k c hk l1
      obtain ⟨b2, g3, g4, -⟩ := inv k' c' hk' l2
      exact hs.inj k k' b1 b2 nm g1 g3 g2 g4 e1 e2
end
end Go.Rex
