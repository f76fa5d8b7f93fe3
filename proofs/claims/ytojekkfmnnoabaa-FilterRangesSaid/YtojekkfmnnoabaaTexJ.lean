/- An executor of the program's functions on trees of values, proved sound. -/
import Derived.Test.YtojekkfmnnoabaaTexI
set_option linter.unusedSimpArgs false
set_option linter.unusedVariables false
set_option linter.defProp false
namespace Go.Rex
open Go.RowKit
section
variable {C : Ctx} {P : Program} {Fz : Nat → Prop} {h h0 : List Blk} {L : Nat → LI} {s : TS} {tm : List Value}
variable {dst : Option Tmp} {ty : TypeId} {pos : String} {aft : Array Edge} {gd : Option (Nat × Bool)}

/-! ### append -/
def killB (n : Nat) : TB → TB
  | .var row => .var (row.map (kill n 4))
  | b => b
/-- block n is new, and what named it is forgotten -/
theorem St.renew (hs : St h0 Fz L s tm h) {n es nm : Nat} {b : TB} (hb : s.hp[n]? = some b) {h' : List Blk} {cs : List Value} {rows : List (List TV)} (hh : ∀ k, Fz k → h'[k]? = h[k]?)
    (hk : ∀ m b' k, m ≠ n → s.hp[m]? = some b' → b'.live = true → (L m).nm = some k → h'[k]? = h[k]? ∧ k < nm) (hnm : h'[nm]? = some (.cells es cs)) (hlo : h0.length ≤ nm) (hnf : ¬ Fz nm) (hfz : h.length ≤ h'.length) (hext : Ext h0 h')
    (hw : ∀ r ∈ rows, r.length = es) (hv : VLs Fz h' noL rows.flatten cs) :
    St h0 Fz (fun m => if m = n then ⟨true, some nm, es, rows.length⟩ else L m) ⟨s.tm.map (kill n 4), (s.hp.map (killB n)).set n (.rows es rows)⟩ tm h' := by
  have hL : ∀ m, m ≠ n → (fun m => if m = n then (⟨true, some nm, es, rows.length⟩ : LI) else L m) m = L m := fun m hm => by simp only [if_neg hm]
  have hLn : (fun m => if m = n then (⟨true, some nm, es, rows.length⟩ : LI) else L m) n = ⟨true, some nm, es, rows.length⟩ := by simp only [if_true]
  generalize (fun m => if m = n then (⟨true, some nm, es, rows.length⟩ : LI) else L m) = L' at hL hLn ⊢
  have hlt := (List.getElem?_eq_some_iff.1 hb).1
  have hmap : ∀ (l : List TV) (x : List Value), VLs Fz h L l x → VLs Fz h' L' (l.map (kill n 4)) x := by
    intro l x hx
    refine ⟨by simp [hx.len], fun i p y hp hy => ?_⟩
    rw [List.getElem?_map] at hp
    cases hq : l[i]? with
    | none => rw [hq] at hp; cases hp
    | some q => rw [hq] at hp; obtain rfl := Option.some.inj hp; exact ((hx.at' i q y hq hy).kill hL 4).mono (fun _ h => h) hh
  have inv : ∀ (k : Nat) (b' : TB), k ≠ n → ((s.hp.map (killB n)).set n (.rows es rows))[k]? = some b' → ∃ b0 : TB, s.hp[k]? = some b0 ∧ b0.live = b'.live ∧ b' = killB n b0 := by
    intro k b' e hk'
    rw [List.getElem?_set_ne (Ne.symm e), List.getElem?_map] at hk'
    cases hq : s.hp[k]? with
    | none => rw [hq] at hk'; cases hk'
    | some b0 =>
      rw [hq] at hk'
      obtain rfl := Option.some.inj hk'
      refine ⟨b0, rfl, ?_, rfl⟩
      cases b0 <;> rfl
  have at_n : ((s.hp.map (killB n)).set n (.rows es rows))[n]? = some (.rows es rows) := List.getElem?_set_self (by simpa using hlt)
  refine ⟨hmap _ _ hs.tmr, ?_, ?_, ?_, fun k hk' => Nat.lt_of_lt_of_le (hs.fz k hk') hfz, hext⟩
  · intro k b' hkb
    by_cases e : k = n
    · subst e
      rw [at_n] at hkb
      obtain rfl := Option.some.inj hkb
      exact ⟨by rw [hLn], by rw [hLn], by rw [hLn], hw, .inr ⟨nm, cs, by rw [hLn], hlo, hnf, hnm, hv⟩⟩
    · obtain ⟨b0, hb0, hl0, rfl⟩ := inv k b' e hkb
      have hB0 := hs.blk k b0 hb0
      cases b0 with
      | dead => trivial
      | rows es' rows' =>
        obtain ⟨q1, q2, q3, q4, q5⟩ := hB0
        simp only [killB]
        unfold BR
        rw [hL k e]
        refine ⟨q1, q2, q3, q4, ?_⟩
        rcases q5 with q5 | ⟨nm', cs', e1, e2, e3, e4, e5⟩
        · exact .inl q5
        · exact .inr ⟨nm', cs', e1, e2, e3, by rw [(hk k _ nm' e hb0 rfl e1).1]; exact e4, e5.mono (fun _ h => h) hh⟩
      | var row =>
        obtain ⟨q1, nm', cs', e1, e2, e3, e4, e5⟩ := hB0
        simp only [killB]
        unfold BR
        rw [hL k e]
        exact ⟨q1, nm', cs', e1, e2, e3, by rw [(hk k _ nm' e hb0 rfl e1).1]; exact e4, hmap _ _ e5⟩
  · intro k hk'
    by_cases e : k = n
    · subst e; simpa using hlt
    · rw [hL k e] at hk'
      simpa using hs.dom k hk'
  · intro k k' c c' x h1 h2 l1 l2 e1 e2
    by_cases a : k = n <;> by_cases b : k' = n
    · rw [a, b]
    · subst a
      rw [hLn] at e1
      obtain rfl := Option.some.inj e1
      rw [hL k' b] at e2
      obtain ⟨b0, hb0, hl0, rfl⟩ := inv k' c' b h2
      have := (hk k' b0 nm b hb0 (by rw [hl0]; exact l2) e2).2
      omega
    · subst b
      rw [hLn] at e2
      obtain rfl := Option.some.inj e2
      rw [hL k a] at e1
      obtain ⟨b0, hb0, hl0, rfl⟩ := inv k c a h1
      have := (hk k b0 nm a hb0 (by rw [hl0]; exact l1) e1).2
      omega
    · rw [hL k a] at e1
      rw [hL k' b] at e2
      obtain ⟨b0, hb0, hl0, rfl⟩ := inv k c a h1
      obtain ⟨b1, hb1, hl1, rfl⟩ := inv k' c' b h2
      exact hs.inj k k' b0 b1 x hb0 hb1 (by rw [hl0]; exact l1) (by rw [hl1]; exact l2) e1 e2

theorem VL.list_clean {es : Nat} {rows : List (List TV)} {x : Value} (hp : VL Fz h L (.list es rows) x) : (x = .slice none 0 0 ∧ rows = []) ∨ isClean x = false := by
  cases hp with
  | nillist => exact .inl ⟨rfl, rfl⟩
  | list => exact .inr rfl
theorem VL.lsl_nil {n o len : Nat} {x : Value} (hp : VL Fz h L (.lsl n o len) x) (hn : (L n).nm = none) : x = .slice none 0 0 := by
  cases hp with
  | lslnil => rfl
  | lsl _ _ _ _ nm ok hn' hle => rw [hn] at hn'; cases hn'
theorem VL.lsl_some {n o len nm : Nat} {x : Value} (hp : VL Fz h L (.lsl n o len) x) (hn : (L n).nm = some nm) : x = .slice (some ⟨nm, o * (L n).es, none⟩) len ((L n).tot - o) := by
  cases hp with
  | lslnil _ _ ok hn' => rw [hn] at hn'; cases hn'
  | lsl _ _ _ _ nm' ok hn' hle => rw [hn] at hn'; obtain rfl := Option.some.inj hn'; rfl
def limT (P : Program) (e : TypeId) (n : Nat) : Prop := n ≤ 2 ^ 40 ∧ n * bytesT P e ≤ 140737488355328
theorem St.lowB (hs : St h0 Fz L s tm h) : ∀ n b nm, s.hp[n]? = some b → b.live = true → (L n).nm = some nm → nm < h.length ∧ h0.length ≤ nm ∧ ¬ Fz nm := by
  intro n b nm hb hlv hn
  have := hs.blk n b hb
  cases b with
  | dead => cases hlv
  | rows es rows =>
    obtain ⟨-, -, -, -, h5⟩ := this
    rcases h5 with h5 | ⟨nm', cs, e1, e2, e3, e4, e5⟩
    · rw [h5.1] at hn; cases hn
    · rw [e1] at hn; obtain rfl := Option.some.inj hn
      exact ⟨(List.getElem?_eq_some_iff.1 e4).1, e2, e3⟩
  | var row =>
    obtain ⟨-, nm', cs, e1, e2, e3, e4, e5⟩ := this
    rw [e1] at hn; obtain rfl := Option.some.inj hn
    exact ⟨(List.getElem?_eq_some_iff.1 e4).1, e2, e3⟩
theorem OpW.append {x y : Operand} {t0 t1 e : TypeId} {tys : List TypeId} {n len es : Nat} {rows new : List (List TV)} {z : List Value} (hx : tev s.tm x = .lsl n 0 len) (hb : s.hp[n]? = some (.rows es rows)) (hlen : len = rows.length) (hy : tev s.tm y = .list es new)
    (hsl : sliceOf P t0 = some e) (hni : notInt P (some t1) = true) (hz : zeroC P e = some z) (hes : z.length = es) (hlim : limT P e (rows.length + new.length)) (hw : ∀ r ∈ new, r.length = es) (hone : ∀ r ∈ new, r.all tone = true) (hlf : ∀ r ∈ new, r.all (lf 4) = true) :
    OpW C P { dst := dst, op := .call { callee := .builtin .append, args := #[x, y], argTypes := ⟨t0 :: t1 :: tys⟩ }, type := ty, pos := pos, after := aft, guard := gd } s
      ⟨tput (s.tm.map (kill n 4)) dst (.lsl n 0 (rows.length + new.length)), (s.hp.map (killB n)).set n (.rows es (rows ++ new))⟩ := by
  intro h0 Fz L tm h hs
  subst hlen
  have hvx := tev_vl hs.tmr x
  have hvy := tev_vl hs.tmr y
  rw [hx] at hvx
  rw [hy] at hvy
  obtain ⟨i, z0, hi, hz0, hcl, hzz, hsz, hat⟩ := zeroC_parts hz
  have hszi : i.size = es := by omega
  obtain ⟨hl1, hl2⟩ := hlim
  have hbt : bytesT P e = i.bytes := by simp [bytesT, hi]
  rw [hbt] at hl2
  unfold sliceOf at hsl
  split at hsl
  · rename_i e' hu
    obtain rfl := Option.some.inj hsl
    have hzs : (i.zero.map fun z => z.cells.size) = some i.size := by
      rw [hz0, Option.map_some]; congr 1; rw [← hzz] at hsz; simpa using hsz
    have hxop : ∀ (v : Value) (h1 : List Blk) (w1 : Option Nat), appendV P ⟨t0 :: t1 :: tys⟩ (ev tm x) (ev tm y) h = some (v, h1, w1) →
        xop C P (ev tm) { dst := dst, op := .call { callee := .builtin .append, args := #[x, y], argTypes := ⟨t0 :: t1 :: tys⟩ }, type := ty, pos := pos, after := aft, guard := gd } h = some (v, h1, w1) := by
      intro v h1 w1 hv
      simp only [xop, hop, bhop, if_true, hv]
    -- what is appended
    have hsrc : ∃ c, srcCells h i.size (ev tm y) = some (new.length, c) ∧ c.length = new.length * es ∧ VLs Fz h noL new.flatten c := by
      rw [hszi]
      generalize ev tm y = vy at *
      cases hvy with
      | nillist => exact ⟨[], rfl, by simp, VLs.nil⟩
      | list _ _ _ m o c cs eb hn' hb' he' hw' hc' hle' ha' =>
        refine ⟨(cs.drop o).take (new.length * es), ?_, by simp; omega, ?_⟩
        · simp only [srcCells, readCells, hb']
          rw [if_pos hle']
          rfl
        · have := VLs.seg (Fz := Fz) (h := h) (L := noL) (l := new.flatten) (cs := cs) (b := o) (by rw [flat_len hw']; exact hle') ha'
          rwa [flat_len hw'] at this
    obtain ⟨c, hc1, hc2, hc3⟩ := hsrc
    have hcl1 : c.all (·.oneCell') = true := tones hc3 (by
      rw [List.all_eq_true]
      intro p hp
      simp only [List.mem_flatten] at hp
      obtain ⟨r, hr, hp⟩ := hp
      exact List.all_eq_true.1 (hone r hr) p hp)
    obtain ⟨q1, q2, q3, q4, q5⟩ := hs.blk n _ hb
    have hpop : (isClean (ev tm x) = false ∨ isClean (ev tm y) = false) → Rex.pop P (ev tm) { dst := dst, op := .call { callee := .builtin .append, args := #[x, y], argTypes := ⟨t0 :: t1 :: tys⟩ }, type := ty, pos := pos, after := aft, guard := gd } = none := by
      intro hcl
      have e : Rex.pop P (ev tm) { dst := dst, op := .call { callee := .builtin .append, args := #[x, y], argTypes := ⟨t0 :: t1 :: tys⟩ }, type := ty, pos := pos, after := aft, guard := gd } = genP P (ev tm) { dst := dst, op := .call { callee := .builtin .append, args := #[x, y], argTypes := ⟨t0 :: t1 :: tys⟩ }, type := ty, pos := pos, after := aft, guard := gd } := rfl
      rw [e]
      unfold genP
      simp only
      rw [if_neg]
      rw [show (Op.call { callee := .builtin .append, args := #[x, y], argTypes := ⟨t0 :: t1 :: tys⟩ }).operands.toList = [x, y] by simp [Op.operands, Call.operands]]
      rcases hcl with hcl | hcl <;> simp [hcl]
    have hB := hs.lowB
    have hwn : ∀ r ∈ rows ++ new, r.length = es := fun r hr => by
      rcases List.mem_append.1 hr with hr | hr
      · exact q4 r hr
      · exact hw r hr
    rcases q5 with ⟨qn, rfl⟩ | ⟨nm, cs, e1, e2, e3, e4, e5⟩
    · -- nowhere yet
      have hvx' : ev tm x = .slice none 0 0 := by
        exact hvx.lsl_nil qn
      have hst : appendV P ⟨t0 :: t1 :: tys⟩ (ev tm x) (ev tm y) h = (if new.length = 0 then (if c.isEmpty = true then some (.slice none 0 0, h, none) else none)
              else if new.length ≤ 2 ^ 40 ∧ new.length * i.bytes ≤ 140737488355328 ∧ ((i.zero.map fun z => z.cells.size) = some i.size) ∧ c.length = new.length * i.size then
                some (.slice (some ⟨h.length, 0, none⟩) new.length new.length, h ++ [.cells i.size c], none)
              else none) := by
        unfold appendV
        simp only [List.getElem?_toArray, List.getElem?_cons_zero, List.getElem?_cons_succ, hu, hi, hni, if_true, hc1, hvx']
      by_cases hn0 : new.length = 0
      · have hnew : new = [] := List.length_eq_zero_iff.1 hn0
        subst hnew
        have hce : c = [] := by simpa using hc2
        subst hce
        suffices H : St h0 Fz L ⟨tput (s.tm.map (kill n 4)) dst (.lsl n 0 (([] : List (List TV)).length + ([] : List (List TV)).length)), (s.hp.map (killB n)).set n (.rows es ([] ++ []))⟩ (putL tm dst (.slice none 0 0)) h by
          rcases hpp : Rex.pop P (ev tm) { dst := dst, op := .call { callee := .builtin .append, args := #[x, y], argTypes := ⟨t0 :: t1 :: tys⟩ }, type := ty, pos := pos, after := aft, guard := gd } with _ | v
          · exact .inr ⟨rfl, .slice none 0 0, h, none, hxop _ _ _ (by rw [hst]; simp), .inl ⟨rfl, Ext.refl h⟩, Fz, L, Grow.refl _ _, H⟩
          · refine .inl ⟨v, rfl, Fz, L, Grow.refl _ _, ?_⟩
            have hv : v = .slice none 0 0 := by
              have e : genP P (ev tm) { dst := dst, op := .call { callee := .builtin .append, args := #[x, y], argTypes := ⟨t0 :: t1 :: tys⟩ }, type := ty, pos := pos, after := aft, guard := gd } = some v := hpp
              unfold genP at e
              simp only at e
              split at e
              · split at e
                · rename_i v0 hp0
                  split at e
                  · obtain rfl := Option.some.inj e
                    have r1 := prun_run hp0 (⟨#[], fun _ _ => 0, 0, default, #[]⟩ : World)
                    have hvy' : ev tm y = .slice none 0 0 := by
                      rename_i hall hpr hcv
                      have hc := List.all_eq_true.1 hall y (by simp [Op.operands, Call.operands])
                      rcases hvy.list_clean with h1 | h1
                      · exact h1.1
                      · rw [h1] at hc; cases hc
                    have r2 := append_in_run (P := P) (ty := ty) (argTypes := ⟨t0 :: t1 :: tys⟩) (base := none) (len := 0) (cap := 0) (n := 0) (x := .slice none 0 0) (new := []) (w := (⟨#[], fun _ _ => 0, 0, default, #[]⟩ : World)) (w' := (⟨#[], fun _ _ => 0, 0, default, #[]⟩ : World)) rfl hu hi hni rfl rfl (Nat.le_refl _) rfl
                    have r3 : (execOp (ev tm) { dst := dst, op := .call { callee := .builtin .append, args := #[x, y], argTypes := ⟨t0 :: t1 :: tys⟩ }, type := ty, pos := pos, after := aft, guard := gd }).run P (⟨#[], fun _ _ => 0, 0, default, #[]⟩ : World) = .ok (.value (.slice none 0 0)) (⟨#[], fun _ _ => 0, 0, default, #[]⟩ : World) := by
                      have ee : execOp (ev tm) { dst := dst, op := .call { callee := .builtin .append, args := #[x, y], argTypes := ⟨t0 :: t1 :: tys⟩ }, type := ty, pos := pos, after := aft, guard := gd } = (do pure (.value (← Builtin.append_ ⟨t0 :: t1 :: tys⟩ ty #[ev tm x, ev tm y]))) := by
                        simp only [execOp, resolve, invoke, List.map_toArray, List.map_cons, List.map_nil]
                        rfl
                      rw [ee, hvx', hvy']
                      simp only [Sem.run_bind, r2, Result.andThen_ok, Sem.run_pure]
                    rw [r3] at r1
                    injection r1 with r1 _
                    injection r1 with r1
                    exact r1.symm
                  · cases e
                · cases e
              · cases e
            subst hv
            exact H
        -- killed all the same
        have hk : ∀ m, m ≠ n → L m = L m := fun _ _ => rfl
        refine ⟨?_, ?_, fun k hk' => by simpa using hs.dom k hk', ?_, hs.fz, hs.ext⟩
        · refine tput_vl ⟨by simp [hs.tmr.len], fun j p y hp hy => ?_⟩ dst ?_
          · rw [List.getElem?_map] at hp
            cases hq : s.tm[j]? with
            | none => rw [hq] at hp; cases hp
            | some q => rw [hq] at hp; obtain rfl := Option.some.inj hp; exact (hs.tmr.at' j q y hq hy).kill hk 4
          · exact .lslnil L n q1 qn
        · intro k b' hkb
          by_cases e : k = n
          · subst e
            rw [List.getElem?_set_self (by simpa using (List.getElem?_eq_some_iff.1 hb).1)] at hkb
            obtain rfl := Option.some.inj hkb
            exact ⟨q1, q2, q3, hwn, .inl ⟨qn, rfl⟩⟩
          · rw [List.getElem?_set_ne (Ne.symm e), List.getElem?_map] at hkb
            cases hq : s.hp[k]? with
            | none => rw [hq] at hkb; cases hkb
            | some b0 =>
              rw [hq] at hkb
              obtain rfl := Option.some.inj hkb
              have hB0 := hs.blk k b0 hq
              cases b0 with
              | dead => trivial
              | rows es' rows' => exact hB0
              | var row =>
                obtain ⟨q1, nm', cs', e1, e2, e3, e4, e5⟩ := hB0
                refine ⟨q1, nm', cs', e1, e2, e3, e4, by simp [e5.len], fun j p y hp hy => ?_⟩
                rw [List.getElem?_map] at hp
                cases hq : row[j]? with
                | none => rw [hq] at hp; cases hp
                | some q => rw [hq] at hp; obtain rfl := Option.some.inj hp; exact (e5.at' j q y hq hy).kill hk 4
        · intro k k' c c' x h1 h2 l1 l2 e1 e2
          have g : ∀ (k : Nat) (c : TB), ((s.hp.map (killB n)).set n (.rows es ([] ++ [])))[k]? = some c → c.live = true → ∃ b0 : TB, s.hp[k]? = some b0 ∧ b0.live = true := by
            intro k c hk' hl
            by_cases e : k = n
            · subst e; exact ⟨_, hb, rfl⟩
            · rw [List.getElem?_set_ne (Ne.symm e), List.getElem?_map] at hk'
              cases hq : s.hp[k]? with
              | none => rw [hq] at hk'; cases hk'
              | some b0 =>
                rw [hq] at hk'
                obtain rfl := Option.some.inj hk'
                refine ⟨b0, rfl, ?_⟩
                cases b0 <;> first | rfl | exact hl
          obtain ⟨b1, g1, g2⟩ := g k c h1 l1
          obtain ⟨b2, g3, g4⟩ := g k' c' h2 l2
          exact hs.inj k k' b1 b2 x g1 g3 g2 g4 e1 e2
      · simp only [List.length_nil, Nat.zero_add] at hl1 hl2
        rw [if_neg hn0, if_pos ⟨hl1, hl2, hzs, by rw [hc2, hszi]⟩] at hst
        have hfl : VLs Fz (h ++ [.cells i.size c]) noL new.flatten c := hc3.mono (fun _ h => h) fun k hk' => by
          rw [List.getElem?_append_left (hs.fz k hk')]
        have hycl : isClean (ev tm y) = false := by
          rcases hvy.list_clean with h1 | h1
          · rw [h1.2] at hn0; simp at hn0
          · exact h1
        refine .inr ⟨hpop (.inr hycl), _, _, none, hxop _ _ _ hst, .inl ⟨rfl, Ext.app _ _⟩, Fz, (fun m => if m = n then (⟨true, some h.length, es, ([] ++ new).length⟩ : LI) else L m), Grow.refl _ _, ?_⟩
        have hr := hs.renew (n := n) (es := es) (nm := h.length) hb (h' := h ++ [.cells i.size c]) (cs := c) (rows := [] ++ new) (fun k hk' => by rw [List.getElem?_append_left (hs.fz k hk')])
          (fun m b' k hm hb' hl hn => by
            have := (hB m b' k hb' hl hn).1
            exact ⟨by rw [List.getElem?_append_left this], this⟩) (by rw [hszi]; simp) hs.ext.le (fun hf => by have := hs.fz _ hf; omega) (by simp) (hs.ext.trans (Ext.app _ _)) hwn (by simpa using hfl)
        refine hr.put dst ?_
        have := VL.lsl (Fz := Fz) (h := h ++ [.cells i.size c]) (fun m => if m = n then (⟨true, some h.length, es, ([] ++ new).length⟩ : LI) else L m) n 0 new.length h.length (by simp) (by simp) (by simp)
        simpa using this
    · -- somewhere
      have hcl' : cs.length = rows.length * es := by rw [e5.len, flat_len q4]
      have hvx' : ev tm x = .slice (some ⟨nm, 0, none⟩) rows.length rows.length := by
        rw [hvx.lsl_some e1, q3]; simp
      have hst : appendV P ⟨t0 :: t1 :: tys⟩ (ev tm x) (ev tm y) h = (if new.length = 0 then (if c.isEmpty = true then some (.slice (some ⟨nm, 0, none⟩) rows.length rows.length, h, none) else none)
              else if rows.length + new.length ≤ rows.length then (writeBlk h nm (0 + rows.length * i.size) c).map fun h' => (.slice (some ⟨nm, 0, none⟩) (rows.length + new.length) rows.length, h', some nm)
              else
                match h[nm]? with
                | some (.cells es cs) =>
                  if es = i.size ∧ 0 + rows.length * i.size = cs.length ∧ c.length = new.length * i.size ∧ c.all (·.oneCell') = true ∧ rows.length + new.length ≤ 2 ^ 40 ∧ (rows.length + new.length) * i.bytes ≤ 140737488355328 ∧ ((i.zero.map fun z => z.cells.size) = some i.size) then
                    some (.slice (some ⟨h.length, 0, none⟩) (rows.length + new.length) (rows.length + new.length), h.set nm .dead ++ [.cells es (cs.drop 0 ++ c)], some nm)
                  else none
                | _ => none) := by
        unfold appendV
        simp only [List.getElem?_toArray, List.getElem?_cons_zero, List.getElem?_cons_succ, hu, hi, hni, if_true, hc1, hvx']
        rfl
      by_cases hn0 : new.length = 0
      · have hnew : new = [] := List.length_eq_zero_iff.1 hn0
        subst hnew
        have hce : c = [] := by simpa using hc2
        subst hce
        refine .inr ⟨hpop (.inl (by rw [hvx']; rfl)), .slice (some ⟨nm, 0, none⟩) rows.length rows.length, h, none, hxop _ _ _ (by rw [hst]; simp), .inl ⟨rfl, Ext.refl h⟩, Fz, (fun m => if m = n then (⟨true, some nm, es, (rows ++ []).length⟩ : LI) else L m), Grow.refl _ _, ?_⟩
        have hLe : (fun m => if m = n then (⟨true, some nm, es, (rows ++ []).length⟩ : LI) else L m) = L := by
          funext m
          by_cases e : m = n
          · subst e
            rw [if_pos rfl]
            generalize L m = li at *
            obtain ⟨a1, a2, a3, a4⟩ := li
            simp_all
          · rw [if_neg e]
        rw [hLe]
        have hk : ∀ m, m ≠ n → L m = L m := fun _ _ => rfl
        have hmap : ∀ (l : List TV) (x : List Value), VLs Fz h L l x → VLs Fz h L (l.map (kill n 4)) x := by
          intro l x hx
          refine ⟨by simp [hx.len], fun i p y hp hy => ?_⟩
          rw [List.getElem?_map] at hp
          cases hq : l[i]? with
          | none => rw [hq] at hp; cases hp
          | some q => rw [hq] at hp; obtain rfl := Option.some.inj hp; exact (hx.at' i q y hq hy).kill hk 4
        refine ⟨tput_vl (hmap _ _ hs.tmr) dst ?_, ?_, fun k hk' => by simpa using hs.dom k hk', ?_, hs.fz, hs.ext⟩
        · have := VL.lsl (Fz := Fz) (h := h) L n 0 rows.length nm q1 e1 (by rw [q3]; omega)
          rw [q3] at this
          simpa using this
        · intro k b' hkb
          by_cases e : k = n
          · subst e
            rw [List.getElem?_set_self (by simpa using (List.getElem?_eq_some_iff.1 hb).1)] at hkb
            obtain rfl := Option.some.inj hkb
            rw [List.append_nil]
            exact hs.blk k _ hb
          · rw [List.getElem?_set_ne (Ne.symm e), List.getElem?_map] at hkb
            cases hq : s.hp[k]? with
            | none => rw [hq] at hkb; cases hkb
            | some b0 =>
              rw [hq] at hkb
              obtain rfl := Option.some.inj hkb
              have hB0 := hs.blk k b0 hq
              cases b0 with
              | dead => trivial
              | rows es' rows' => exact hB0
              | var row =>
                obtain ⟨q1, nm', cs', e1, e2, e3, e4, e5⟩ := hB0
                exact ⟨q1, nm', cs', e1, e2, e3, e4, hmap _ _ e5⟩
        · intro k k' c c' x h1 h2 l1 l2 e1 e2
          have g : ∀ (k : Nat) (c : TB), ((s.hp.map (killB n)).set n (.rows es (rows ++ [])))[k]? = some c → c.live = true → ∃ b0 : TB, s.hp[k]? = some b0 ∧ b0.live = true := by
            intro k c hk' hl
            by_cases e : k = n
            · subst e; exact ⟨_, hb, rfl⟩
            · rw [List.getElem?_set_ne (Ne.symm e), List.getElem?_map] at hk'
              cases hq : s.hp[k]? with
              | none => rw [hq] at hk'; cases hk'
              | some b0 =>
                rw [hq] at hk'
                obtain rfl := Option.some.inj hk'
                refine ⟨b0, rfl, ?_⟩
                cases b0 <;> first | rfl | exact hl
          obtain ⟨b1, g1, g2⟩ := g k c h1 l1
          obtain ⟨b2, g3, g4⟩ := g k' c' h2 l2
          exact hs.inj k k' b1 b2 x g1 g3 g2 g4 e1 e2
      · rw [if_neg hn0, if_neg (by omega), e4] at hst
        simp only at hst
        rw [if_pos ⟨hszi.symm, by rw [hszi]; omega, by rw [hc2, hszi], hcl1, hl1, hl2, hzs⟩, List.drop_zero] at hst
        have hltn := (List.getElem?_eq_some_iff.1 e4).1
        have hhk : ∀ k, k ≠ nm → k < h.length → (h.set nm .dead ++ [Blk.cells es (cs ++ c)])[k]? = h[k]? := fun k hne hlt => by
          rw [List.getElem?_append_left (by simpa using hlt), List.getElem?_set_ne (Ne.symm hne)]
        have hhf : ∀ k, Fz k → (h.set nm .dead ++ [Blk.cells es (cs ++ c)])[k]? = h[k]? := fun k hk' => hhk k (by rintro rfl; exact e3 hk') (hs.fz k hk')
        have hextw : Ext h0 (h.set nm .dead ++ [Blk.cells es (cs ++ c)]) := by
          obtain ⟨t, rfl⟩ := hs.ext
          exact ⟨t.set (nm - h0.length) .dead ++ [Blk.cells es (cs ++ c)], by rw [List.set_append_right _ _ e2, List.append_assoc]⟩
        refine .inr ⟨hpop (.inl (by rw [hvx']; rfl)), _, _, some nm, hxop _ _ _ hst, .inr ⟨nm, rfl, e2, hltn, by simp⟩, Fz, (fun m => if m = n then (⟨true, some h.length, es, (rows ++ new).length⟩ : LI) else L m), Grow.refl _ _, ?_⟩
        have hr := hs.renew (n := n) (es := es) (nm := h.length) hb (h' := h.set nm .dead ++ [Blk.cells es (cs ++ c)]) (cs := cs ++ c) (rows := rows ++ new) hhf
          (fun m b' k hm hb' hl hn => by
            have := (hB m b' k hb' hl hn).1
            exact ⟨hhk k (by rintro rfl; exact hm (hs.inj m n b' _ k hb' hb hl rfl hn e1)) this, this⟩) (by
              rw [List.getElem?_append_right (by simp)]; simp) (Nat.le_of_lt (Nat.lt_of_le_of_lt e2 hltn)) (fun hf => by have := hs.fz _ hf; omega) (by simp) hextw hwn (by
              rw [List.flatten_append]
              exact (e5.append hc3).mono (fun _ h => h) hhf)
        refine hr.put dst ?_
        have := VL.lsl (Fz := Fz) (h := h.set nm .dead ++ [Blk.cells es (cs ++ c)]) (fun m => if m = n then (⟨true, some h.length, es, (rows ++ new).length⟩ : LI) else L m) n 0 (rows.length + new.length) h.length (by simp) (by simp) (by simp)
        simpa using this
  · cases hsl
end
end Go.Rex
