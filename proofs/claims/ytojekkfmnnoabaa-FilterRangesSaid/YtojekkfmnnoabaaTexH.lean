/- An executor of the program's functions on trees of values, proved sound. -/
import Derived.Test.YtojekkfmnnoabaaTexG
set_option linter.unusedSimpArgs false
set_option linter.unusedVariables false
set_option linter.defProp false
namespace Go.Rex
open Go.RowKit
section
variable {C : Ctx} {P : Program} {Fz : Nat → Prop} {h h0 : List Blk} {L : Nat → LI} {s : TS} {tm : List Value}
variable {dst : Option Tmp} {ty : TypeId} {pos : String} {aft : Array Edge} {gd : Option (Nat × Bool)}

/-- parts in their order -/
def tparts (es : Nat) : Nat → List (Nat × TV) → Option (List (List TV))
  | _, [] => some []
  | i, (k, p) :: l => if k = i ∧ isJunk p = false ∧ (tcells p).length = es ∧ (tcells p).all (lf 4) = true then (tparts es (i + 1) l).map fun r => tcells p :: r else none
theorem tparts_fill {es : Nat} : ∀ (ps : List (Nat × TV)) (ps' : List (Nat × Value)) (i : Nat) (rows : List (List TV)), PLs Fz h L ps ps' → tparts es i ps = some rows →
    rows.length = ps.length ∧ (∀ r ∈ rows, r.length = es) ∧ ∀ (c : Array Value) (pre : List Value), c.size = (i + rows.length) * es → c.toList.take (i * es) = pre →
      ∃ c', Instr.fill (fun i => some (i * es, es)) c ps' = some c' ∧ ∃ new, c'.toList = pre ++ new ∧ VLs Fz h noL rows.flatten new
  | [], ps', i, rows, hp, ht => by
    have : ps' = [] := by have := hp.len; simpa using this
    subst this
    obtain rfl := Option.some.inj ht
    refine ⟨rfl, by simp, fun c pre hc hpre => ⟨c, rfl, [], ?_, VLs.nil⟩⟩
    rw [← hpre, List.append_nil, List.take_of_length_le (by simp [hc])]
  | (k, v) :: ps, ps', i, rows, hp, ht => by
    obtain ⟨p', rest, rfl⟩ : ∃ v' rest, ps' = v' :: rest := by
      have h1 := hp.len
      cases ps' with
      | nil => simp at h1
      | cons a b => exact ⟨a, b, rfl⟩
    obtain ⟨k', v'⟩ := p'
    obtain ⟨e1, hv⟩ := hp.at' 0 _ _ rfl rfl
    simp only at e1 hv
    subst e1
    have hs : PLs Fz h L ps rest := ⟨by have := hp.len; simpa using this, fun i x x' h h' => hp.at' (i + 1) _ _ (by simpa using h) (by simpa using h')⟩
    simp only [tparts] at ht
    split at ht
    · rename_i hc
      obtain ⟨rfl, hj, hlen, hlf⟩ := hc
      obtain ⟨r, hr, rfl⟩ := Option.map_eq_some_iff.1 ht
      obtain ⟨g1, g2, g3⟩ := tparts_fill ps rest _ r hs hr
      refine ⟨by simp [g1], fun q hq => ?_, fun c pre hc hpre => ?_⟩
      · simp only [List.mem_cons] at hq
        rcases hq with rfl | hq
        · exact hlen
        · exact g2 q hq
      · have hcv := tcells_vl hv hj
        have hsz : v'.cells.size = es := by have := hcv.len; simp at this; omega
        have hmul : k' * es + es ≤ (k' + (r.length + 1)) * es := by rw [← Nat.succ_mul]; exact Nat.mul_le_mul_right _ (by omega)
        simp only [List.length_cons] at hc
        simp only [Instr.fill]
        rw [if_neg (by simp [hsz, hc]; omega)]
        have hsp := foldl_set_splice v'.cells.toList 0 (k' * es) c (by simp [hsz, hc]; omega)
        simp only [Nat.add_zero] at hsp
        have hlv : v'.cells.toList.length = es := by simp [hsz]
        have hpl : pre.length = k' * es := by rw [← hpre, List.length_take, Array.length_toList, hc]; omega
        obtain ⟨c', h1, new, h2, h3⟩ := g3 (Array.foldl (fun (cs : Array Value) (x : Value × Nat) => cs.setIfInBounds (k' * es + x.2) x.1) c v'.cells.zipIdx) (pre ++ v'.cells.toList) (by
            have : (Array.foldl (fun (cs : Array Value) (x : Value × Nat) => cs.setIfInBounds (k' * es + x.2) x.1) c v'.cells.zipIdx).toList.length = c.toList.length := by
              simp only [← Array.foldl_toList, Array.toList_zipIdx]
              rw [hsp, splice_len (by simp [hsz, hc]; omega)]
            simp only [Array.length_toList] at this
            rw [this, hc]; congr 1; omega) (by
          simp only [← Array.foldl_toList, Array.toList_zipIdx]
          rw [hsp]
          unfold splice
          rw [hpre, List.take_append_of_le_length (by simp [hpl, hlv]; rw [Nat.succ_mul]; omega), List.take_of_length_le (by simp [hpl, hlv]; rw [Nat.succ_mul]; omega)])
        refine ⟨c', h1, v'.cells.toList ++ new, by rw [h2, List.append_assoc], ?_⟩
        simp only [List.flatten_cons]
        refine VLs.append ⟨hcv.len, fun j p x hp hx => VL.toNo 4 (by simpa using List.all_eq_true.1 hlf p (List.mem_of_getElem? hp)) (hcv.at' j p x hp hx)⟩ h3
    · cases ht
theorem parts_pls (hs : VLs Fz h L s.tm tm) (ps : Array (Nat × Operand)) : PLs Fz h L (ps.toList.map fun q => (q.1, tev s.tm q.2)) (mapParts (ev tm) ps).toList := by
  refine ⟨by simp [mapParts], fun i p p' h1 h2 => ?_⟩
  simp only [mapParts, Array.toList_map, List.getElem?_map] at h1 h2
  cases hq : ps.toList[i]? with
  | none => rw [hq] at h1; cases h1
  | some q =>
    rw [hq] at h1 h2
    simp only [Option.map_some, Option.some.injEq] at h1 h2
    subst h1 h2
    exact ⟨rfl, tev_vl hs q.2⟩
def tslice (P : Program) (t : TypeId) (len : Nat) (ps : List (Nat × TV)) : Option (Nat × List (List TV)) :=
  match sliceOf P t with
  | some e => match zeroC P e with
    | some z => if ps.length = len ∧ len * z.length ≤ 2 ^ 24 ∧ P.cellsOf e = z.length then (tparts z.length 0 ps).map fun r => (z.length, r) else none
    | none => none
  | none => none
theorem tslice_sound {t : TypeId} {len : Nat} {ps : List (Nat × TV)} {ps' : Array (Nat × Value)} {es : Nat} {rows : List (List TV)} (hp : PLs Fz h L ps ps'.toList) (ht : tslice P t len ps = some (es, rows)) :
    rows.length = len ∧ (∀ r ∈ rows, r.length = es) ∧ ∃ cs, buildSliceV P t len ps' h = some (.slice (some ⟨h.length, 0, none⟩) len len, h ++ [.cells es cs]) ∧ VLs Fz h noL rows.flatten cs := by
  unfold tslice at ht
  split at ht
  · rename_i e he
    split at ht
    · rename_i z hz
      split at ht
      · rename_i hc
        obtain ⟨hc1, hc2, hc3⟩ := hc
        obtain ⟨r, hr, he'⟩ := Option.map_eq_some_iff.1 ht
        obtain ⟨rfl, rfl⟩ := Prod.mk.inj he'
        obtain ⟨i, z0, hi, hz0, hcl, hzz, hsz, hat⟩ := zeroC_parts hz
        unfold sliceOf at he
        split at he
        · rename_i e' hu
          obtain rfl := Option.some.inj he
          obtain ⟨g1, g2, g3⟩ := tparts_fill ps ps'.toList 0 r hp hr
          have hrl : r.length = len := by omega
          refine ⟨hrl, g2, ?_⟩
          have hlen : ∀ a : Array Value, (zeroRow a (len * z.length)).size = len * z.length := fun a => by simp [zeroRow]
          by_cases hn0 : len * z.length = 0
          · obtain ⟨c', h1, new, h2, h3⟩ := g3 (zeroRow #[] (len * z.length)) [] (by rw [hlen, hrl]; simp) (by simp)
            refine ⟨new, ?_, h3⟩
            unfold buildSliceV
            simp only [hu, hc3]
            rw [if_pos ⟨by rw [hi]; rfl, by omega⟩]
            simp only [zeroOf, hn0, if_true]
            rw [hn0] at h1
            rw [h1]
            simp only [Option.bind_some]
            have hsz' : c'.size = 0 := by
              have hl := h3.len
              rw [flat_len g2, hrl, hn0] at hl
              have : c'.toList.length = new.length := by rw [h2]; simp
              simp only [Array.length_toList] at this
              omega
            rw [if_pos hsz', h2]
            simp
          · obtain ⟨c', h1, new, h2, h3⟩ := g3 (zeroRow z0.cells (len * z.length)) [] (by rw [hlen, hrl]; simp) (by simp)
            refine ⟨new, ?_, h3⟩
            unfold buildSliceV
            simp only [hu, hc3]
            rw [if_pos ⟨by rw [hi]; rfl, by omega⟩]
            simp only [zeroOf, if_neg hn0, hi, hz0, hcl, if_true]
            rw [h1]
            simp only [Option.bind_some]
            have hsz' : c'.size = len * z.length := by
              have hl := h3.len
              rw [flat_len g2, hrl] at hl
              have : c'.toList.length = new.length := by rw [h2]; simp
              simp only [Array.length_toList] at this
              omega
            rw [if_pos hsz', h2]
            simp
        · cases he
      · cases ht
    · cases ht
  · cases ht
/-- a literal that is not written again -/
theorem OpG.buildSlice {t : TypeId} {len : Nat} {ps : Array (Nat × Operand)} {es : Nat} {rows : List (List TV)} (ht : tslice P t len (ps.toList.map fun q => (q.1, tev s.tm q.2)) = some (es, rows)) :
    OpG C P { dst := dst, op := .buildSlice t len ps, type := ty, pos := pos, after := aft, guard := gd } s ⟨tput s.tm dst (.list es rows), s.hp⟩ := by
  intro h0 Fz L tm h hs
  obtain ⟨h1, h2, cs, h3, h4⟩ := tslice_sound (P := P) (parts_pls hs.tmr ps) ht
  have hx := Ext.app h [Blk.cells es cs]
  refine ⟨rfl, _, _, by simp only [xop, hop, newH, h3, Option.map_some]; rfl, hx, fun n => Fz n ∨ n = h.length, L, ⟨fun n hn => .inl hn, fun n hn => ?_⟩, ?_⟩
  · rcases hn with hn | rfl
    · exact .inl hn
    · exact .inr hs.ext.le
  · refine (hs.heap hx (fun n hn => .inl hn) (fun n hn => ?_)).put dst ?_
    · rcases hn with hn | rfl
      · exact .inl hn
      · exact .inr (by simp)
    · have hl := h4.len
      rw [flat_len h2] at hl
      have := VL.list (Fz := fun n => Fz n ∨ n = h.length) (h := h ++ [Blk.cells es cs]) L es rows h.length 0 len cs es (.inr rfl) (by simp) (.inl rfl) h2 (by omega) (by omega) (fun j p y q1 q2 => by
        rw [Nat.zero_add] at q2
        refine (h4.at' j p y q1 q2).mono (fun n hn => .inl hn) (fun n hn => ?_)
        have := hs.fz n hn
        rw [List.getElem?_append_left this])
      rw [h1] at this
      exact this
/-- a literal of one's own -/
theorem OpG.buildOwn {t : TypeId} {len : Nat} {ps : Array (Nat × Operand)} {es : Nat} {rows : List (List TV)} (ht : tslice P t len (ps.toList.map fun q => (q.1, tev s.tm q.2)) = some (es, rows)) :
    OpG C P { dst := dst, op := .buildSlice t len ps, type := ty, pos := pos, after := aft, guard := gd } s ⟨tput s.tm dst (.lsl s.hp.length 0 len), s.hp ++ [.rows es rows]⟩ := by
  intro h0 Fz L tm h hs
  obtain ⟨h1, h2, cs, h3, h4⟩ := tslice_sound (P := P) (parts_pls hs.tmr ps) ht
  refine ⟨rfl, _, _, by simp only [xop, hop, newH, h3, Option.map_some]; rfl, Ext.app _ _, Fz, _, Grow.refl _ _, (hs.new (newRowsBR hs h2 h4)).put dst ?_⟩
  have := newL_sl (Fz := Fz) (h := h ++ [.cells es cs]) (L := L) (k := s.hp.length) (nm := h.length) (es := es) (tot := rows.length) (len := len) (by omega)
  rw [h1] at this ⊢
  exact this

/-! ### stores -/
def tstore (P : Program) (hp : List TB) (t : TypeId) (p v : TV) : Option (List TB) :=
  match p with
  | .lptr n r o => if isJunk v = false ∧ okT P t = true ∧ (tcells v).length = P.cellsOf t ∧ (tcells v).all tone = true then
      match hp[n]? with
      | some (.rows es rows) => match rows[r]? with
        | some row => if o + (tcells v).length ≤ row.length ∧ (tcells v).all (lf 4) = true then some (hp.set n (.rows es (rows.set r (tsplice row o (tcells v))))) else none
        | none => none
      | some (.var row) => if r = 0 ∧ o + (tcells v).length ≤ row.length then some (hp.set n (.var (tsplice row o (tcells v)))) else none
      | _ => none
    else none
  | _ => none
theorem tone_one {p : TV} {x : Value} (hp : VL Fz h L p x) (ht : tone p = true) : x.oneCell' = true := by
  cases hp with
  | v _ x hx => cases x <;> first | rfl | (simp [isAtom] at hx)
  | junk => simp [tone] at ht
  | agg => simp [tone] at ht
  | tuple => simp [tone] at ht
  | _ => rfl
theorem tones {l : List TV} {l' : List Value} (hs : VLs Fz h L l l') (ht : l.all tone = true) : l'.all (·.oneCell') = true := by
  rw [List.all_eq_true]
  intro x hx
  obtain ⟨i, hi⟩ := List.mem_iff_getElem?.1 hx
  have hlt := (List.getElem?_eq_some_iff.1 hi).1
  have hll := hs.len
  have hp : l[i]? = some l[i] := List.getElem?_eq_getElem (by omega)
  exact tone_one (hs.at' i _ _ hp hi) (by simpa using List.all_eq_true.1 ht _ (List.mem_of_getElem? hp))
theorem flat_set {es : Nat} : ∀ (rows : List (List TV)) (r : Nat) (row row' : List TV), (∀ q ∈ rows, q.length = es) → rows[r]? = some row → row'.length = es →
    (rows.set r row').flatten = tsplice rows.flatten (r * es) row'
  | [], r, row, row', hw, hr, hl => by simp at hr
  | q :: rows, 0, row, row', hw, hr, hl => by
    have := hw q (by simp)
    simp only [List.set_cons_zero, List.flatten_cons, tsplice, Nat.zero_mul, List.take_zero, List.nil_append, Nat.zero_add]
    rw [List.drop_append_of_le_length (by omega), List.drop_of_length_le (by omega), List.nil_append]
  | q :: rows, r + 1, row, row', hw, hr, hl => by
    have h1 := hw q (by simp)
    simp only [List.getElem?_cons_succ] at hr
    simp only [List.set_cons_succ, List.flatten_cons]
    rw [flat_set rows r row row' (fun x hx => hw x (by simp [hx])) hr hl]
    unfold tsplice
    have e : (r + 1) * es = q.length + r * es := by rw [Nat.succ_mul, h1]; omega
    rw [e, List.take_append, List.drop_append]
    rw [List.take_of_length_le (show q.length ≤ q.length + r * es by omega), List.drop_of_length_le (show q.length ≤ q.length + r * es + row'.length by omega)]
    simp [Nat.add_assoc]
theorem tsplice_len {c l : List TV} {o : Nat} (hl : o + l.length ≤ c.length) : (tsplice c o l).length = c.length := by unfold tsplice; simp; omega
theorem tsplice_splice {c row l : List TV} {b o : Nat} (hb : (c.drop b).take row.length = row) (hle : b + row.length ≤ c.length) (hl : o + l.length ≤ row.length) : tsplice c b (tsplice row o l) = tsplice c (b + o) l := by
  have h1 : c = c.take b ++ (row ++ c.drop (b + row.length)) := by
    conv => lhs; rw [← List.take_append_drop b c, ← List.take_append_drop row.length (c.drop b), hb, List.drop_drop]
  unfold tsplice
  have hlen : (row.take o ++ l ++ row.drop (o + l.length)).length = row.length := by simp; omega
  rw [hlen]
  have e2 : c.take (b + o) = c.take b ++ row.take o := by
    conv => lhs; rw [h1]
    rw [List.take_append, List.take_of_length_le (by simp; omega), List.length_take, Nat.min_eq_left (by omega), Nat.add_sub_cancel_left, List.take_append_of_le_length (by omega)]
  have e3 : c.drop (b + o + l.length) = row.drop (o + l.length) ++ c.drop (b + row.length) := by
    conv => lhs; rw [h1]
    rw [List.drop_append, List.drop_of_length_le (by simp; omega), List.nil_append, List.length_take, Nat.min_eq_left (by omega), show b + o + l.length - b = o + l.length by omega, List.drop_append_of_le_length hl]
  rw [e2, e3]
  simp only [List.append_assoc]
theorem OpW.store {t : TypeId} {a x : Operand} {hp' : List TB} (hst : tstore P s.hp t (tev s.tm a) (tev s.tm x) = some hp') :
    OpW C P { dst := none, op := .store t a x, type := ty, pos := pos, after := aft, guard := gd } s ⟨s.tm, hp'⟩ := by
  intro h0 Fz L tm h hs
  have ha := tev_vl hs.tmr a
  have hx := tev_vl hs.tmr x
  refine .inr ⟨rfl, ?_⟩
  generalize tev s.tm x = v at *
  unfold tstore at hst
  split at hst
  · rename_i n r o hpa
    rw [hpa] at ha
    split at hst
    · rename_i hc
      obtain ⟨hj, hok, hlen, hone⟩ := hc
      have hcv := tcells_vl hx hj
      obtain ⟨i, hi⟩ := Option.isSome_iff_exists.1 hok
      have hsz : P.cellsOf t = i.size := by simp [Program.cellsOf, hi]
      have hones := tones hcv hone
      have hvs : (ev tm x).cells.size = i.size := by have := hcv.len; simp at this; omega
      obtain ⟨nm, hnm, hav⟩ : ∃ nm, (L n).nm = some nm ∧ ev tm a = .pointer (some ⟨nm, r * (L n).es + o, none⟩) := by
        generalize ev tm a = y at *
        cases ha with
        | lptr _ _ _ _ nm ok hn => exact ⟨nm, hn, rfl⟩
      -- the store of the executor
      have key : ∀ (es : Nat) (cs : List Value) (b' : TB) (b : TB), s.hp[n]? = some b → b.live = true → h[nm]? = some (.cells es cs) → h0.length ≤ nm → ¬ Fz nm → r * (L n).es + o + (ev tm x).cells.toList.length ≤ cs.length →
          BR h0.length Fz (h.set nm (.cells es (splice cs (r * (L n).es + o) (ev tm x).cells.toList))) L n b' → hp' = s.hp.set n b' →
          ∃ v1 h1 w1, xop C P (ev tm) { dst := none, op := .store t a x, type := ty, pos := pos, after := aft, guard := gd } h = some (v1, h1, w1) ∧ ((w1 = none ∧ Ext h h1) ∨ ∃ nm, w1 = some nm ∧ h0.length ≤ nm ∧ nm < h.length ∧ h.length ≤ h1.length) ∧
            ∃ Fz' L', Grow h0 Fz Fz' ∧ St h0 Fz' L' ⟨s.tm, hp'⟩ (putL tm none v1) h1 := by
        intro es cs b' b hb hlv hcs hlo hnf hle hB hp
        refine ⟨undef, h.set nm (.cells es (splice cs (r * (L n).es + o) (ev tm x).cells.toList)), some nm, ?_, .inr ⟨nm, rfl, hlo, (List.getElem?_eq_some_iff.1 hcs).1, by simp⟩, Fz, L, Grow.refl _ _, ?_⟩
        · simp only [xop, hop, hav, storeV, hi, hvs, if_true, writeBlk, hcs]
          rw [if_pos ⟨hle, hones⟩]
          rfl
        · subst hp
          exact hs.write hb hlv hnm hcs hlo hnf hB
      have hh : ∀ (es : Nat) (cs : List Value), ¬ Fz nm → ∀ k, Fz k → (h.set nm (.cells es cs))[k]? = h[k]? := fun es cs hnf k hk => by
        rw [List.getElem?_set_ne]; rintro rfl; exact hnf hk
      split at hst
      · rename_i es rows hb
        split at hst
        · rename_i row hrow
          split at hst
          · rename_i hcond
            obtain ⟨hfit, hlf⟩ := hcond
            obtain rfl := Option.some.inj hst
            obtain ⟨q1, q2, q3, q4, q5⟩ := hs.blk n _ hb
            rcases q5 with q5 | ⟨nm', cs, e1, e2, e3, e4, e5⟩
            · rw [q5.1] at hnm; cases hnm
            · rw [hnm] at e1
              obtain rfl := Option.some.inj e1
              have hlt := (List.getElem?_eq_some_iff.1 hrow).1
              have hrl := q4 row (List.mem_of_getElem? hrow)
              have hcl : cs.length = rows.length * es := by rw [e5.len, flat_len q4]
              have hmul : r * es + es ≤ rows.length * es := by rw [← Nat.succ_mul]; exact Nat.mul_le_mul_right _ hlt
              have hcvl : (ev tm x).cells.toList.length = (tcells v).length := hcv.len
              refine key es cs (.rows es (rows.set r (tsplice row o (tcells v)))) _ hb rfl e4 e2 e3 (by rw [q2]; omega) ?_ rfl
              have hseg : (rows.flatten.drop (r * es)).take row.length = row := by
                apply List.ext_getElem?
                intro j
                rw [List.getElem?_take, List.getElem?_drop]
                split
                · rename_i hj'
                  exact flat_at q4 hrow (by omega)
                · rw [List.getElem?_eq_none (by omega)]
              have hfs : (rows.set r (tsplice row o (tcells v))).flatten = tsplice rows.flatten (r * es + o) (tcells v) := by
                rw [flat_set rows r row _ q4 hrow (by rw [tsplice_len hfit]; exact hrl), tsplice_splice hseg (by rw [flat_len q4]; omega) hfit]
              refine ⟨q1, q2, by simp [q3], fun q hq => ?_, .inr ⟨nm, _, hnm, e2, e3, by rw [List.getElem?_set_self (List.getElem?_eq_some_iff.1 e4).1], ?_⟩⟩
              · rcases List.mem_or_eq_of_mem_set hq with hq | rfl
                · exact q4 q hq
                · rw [tsplice_len hfit]; exact hrl
              · rw [hfs, q2]
                refine VLs.mono (splice_vl e5 ⟨hcv.len, fun j p y hp hy => VL.toNo 4 (by simpa using List.all_eq_true.1 hlf p (List.mem_of_getElem? hp)) (hcv.at' j p y hp hy)⟩ _) (fun _ h => h) (hh es _ e3)
          · cases hst
        · cases hst
      · rename_i row hb
        split at hst
        · rename_i hcond
          obtain ⟨rfl, hfit⟩ := hcond
          obtain rfl := Option.some.inj hst
          obtain ⟨q1, nm', cs, e1, e2, e3, e4, e5⟩ := hs.blk n _ hb
          rw [hnm] at e1
          obtain rfl := Option.some.inj e1
          have hcvl : (ev tm x).cells.toList.length = (tcells v).length := hcv.len
          have hcl := e5.len
          refine key 0 cs (.var (tsplice row o (tcells v))) _ hb rfl e4 e2 e3 (by omega) ?_ rfl
          rw [Nat.zero_mul, Nat.zero_add]
          refine ⟨q1, nm, _, hnm, e2, e3, by rw [List.getElem?_set_self (List.getElem?_eq_some_iff.1 e4).1], ?_⟩
          exact (splice_vl e5 hcv o).mono (fun _ h => h) (hh 0 _ e3)
        · cases hst
      · cases hst
    · cases hst
  · cases hst
end
end Go.Rex
