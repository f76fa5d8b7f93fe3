/- An executor of the program's functions on trees of values, proved sound. -/
import Derived.Test.YtojekkfmnnoabaaTexF
import Derived.IntWalk
set_option linter.unusedSimpArgs false
set_option linter.unusedVariables false
set_option linter.defProp false
namespace Go.Rex
open Go.RowKit
section
variable {C : Ctx} {P : Program} {Fz : Nat → Prop} {h h0 : List Blk} {L : Nat → LI} {s : TS} {tm : List Value}
variable {dst : Option Tmp} {ty : TypeId} {pos : String} {aft : Array Edge} {gd : Option (Nat × Bool)}

def rowOf (hp : List TB) : TV → Option (List TV × Nat)
  | .fptr _ row o => some (row, o)
  | .lptr n r o => match hp[n]? with
    | some (.rows _ rows) => (rows[r]?).map fun row => (row, o)
    | some (.var row) => if r = 0 then some (row, o) else none
    | _ => none
  | _ => none
theorem VLs.seg {l : List TV} {cs : List Value} {b : Nat} (hle : b + l.length ≤ cs.length) (ha : ∀ (j : Nat) p x, l[j]? = some p → cs[b + j]? = some x → VL Fz h L p x) : VLs Fz h L l ((cs.drop b).take l.length) := by
  refine ⟨by simp; omega, fun i p x hp hx => ?_⟩
  rw [List.getElem?_take, List.getElem?_drop] at hx
  split at hx
  · exact ha i p x hp hx
  · cases hx
theorem rowOf_sound (hs : St h0 Fz L s tm h) {p : TV} {x : Value} (hp : VL Fz h L p x) {row : List TV} {o : Nat} (hr : rowOf s.hp p = some (row, o)) :
    ∃ n b es cs, x = .pointer (some ⟨n, b + o, none⟩) ∧ h[n]? = some (.cells es cs) ∧ b + row.length ≤ cs.length ∧ VLs Fz h L row ((cs.drop b).take row.length) := by
  cases hp with
  | fptr _ vb row' off n base es cs hn hb hv hle ha =>
    obtain ⟨rfl, rfl⟩ := Prod.mk.inj (Option.some.inj hr)
    exact ⟨n, base, es, cs, rfl, hb, hle, VLs.seg hle fun j p x h1 h2 => (ha j p x h1 h2).ofNo⟩
  | lptr _ n r o' nm ok hn =>
    simp only [rowOf] at hr
    split at hr
    · rename_i es rows hb
      obtain ⟨row', hrow, he⟩ := Option.map_eq_some_iff.1 hr
      obtain ⟨rfl, rfl⟩ := Prod.mk.inj he
      obtain ⟨q1, q2, q3, q4, q5⟩ := hs.blk n _ hb
      rcases q5 with q5 | ⟨nm', cs, e1, e2, e3, e4, e5⟩
      · rw [q5.1] at hn; cases hn
      · rw [hn] at e1
        obtain rfl := Option.some.inj e1
        have hlt := (List.getElem?_eq_some_iff.1 hrow).1
        have hl := q4 row' (List.mem_of_getElem? hrow)
        have hcl : cs.length = rows.length * es := by rw [e5.len, flat_len q4]
        have hmul : r * es + es ≤ rows.length * es := by rw [← Nat.succ_mul]; exact Nat.mul_le_mul_right _ hlt
        rw [q2]
        refine ⟨nm, r * es, es, cs, rfl, e4, by omega, VLs.seg (by omega) fun j p x h1 h2 => ?_⟩
        have hjl := (List.getElem?_eq_some_iff.1 h1).1
        exact (e5.at' (r * es + j) p x (by rw [flat_at q4 hrow (by omega)]; exact h1) h2).ofNo
    · rename_i row' hb
      split at hr
      · rename_i h0'
        subst h0'
        obtain ⟨rfl, rfl⟩ := Prod.mk.inj (Option.some.inj hr)
        obtain ⟨q1, nm', cs, e1, e2, e3, e4, e5⟩ := hs.blk n _ hb
        rw [hn] at e1
        obtain rfl := Option.some.inj e1
        refine ⟨nm, 0, 0, cs, by simp, e4, by have := e5.len; omega, ?_⟩
        rw [List.drop_zero, List.take_of_length_le (by have := e5.len; omega)]
        exact e5
      · cases hr
    · cases hr
  | _ => simp [rowOf] at hr

def tload (P : Program) (hp : List TB) (t : TypeId) (p : TV) : Option TV :=
  match rowOf hp p with
  | some (row, o) => partT P t row o
  | none => none
theorem tload_sound (hs : St h0 Fz L s tm h) {t : TypeId} {p q : TV} {x : Value} (hp : VL Fz h L p x) (hl : tload P s.hp t p = some q) : ∃ n o v, x = .pointer (some ⟨n, o, none⟩) ∧ loadV P t h n o = some v ∧ VL Fz h L q v := by
  unfold tload at hl
  split at hl
  · rename_i row o hr
    obtain ⟨n, b, es, cs, rfl, hb, hle, hv⟩ := rowOf_sound hs hp hr
    unfold partT at hl
    split at hl
    · rename_i hg
      split at hl
      · rename_i hc
        obtain rfl := Option.some.inj hl
        obtain ⟨hc1, hc2⟩ := hc
        obtain ⟨i, hi⟩ := Option.isSome_iff_exists.1 hc1
        have hsz : P.cellsOf t = i.size := by simp [Program.cellsOf, hi]
        rw [hsz] at hc2 ⊢
        refine ⟨n, b + o, .agg ⟨(cs.drop (b + o)).take i.size⟩, rfl, ?_, .agg' ?_⟩
        · simp only [loadV, hg, hi, readCells, hb]
          rw [if_pos (by omega)]
          rfl
        · have := hv.extract o i.size
          rw [List.drop_take, List.take_take, List.drop_drop, Nat.min_eq_left (by omega)] at this
          exact this
      · cases hl
    · rename_i hg
      obtain ⟨v, h1, h2⟩ := hv.at hl
      rw [List.getElem?_take, List.getElem?_drop] at h1
      split at h1
      · exact ⟨n, b + o, v, rfl, load1 hg hb h1, h2⟩
      · cases h1
    · cases hl
  · cases hl
theorem OpG.load {t : TypeId} {a : Operand} {q : TV} (hl : tload P s.hp t (tev s.tm a) = some q) : OpG C P { dst := dst, op := .load t a, type := ty, pos := pos, after := aft, guard := gd } s ⟨tput s.tm dst q, s.hp⟩ := by
  intro h0 Fz L tm h hs
  obtain ⟨n, o, v, hx, hv, hq⟩ := tload_sound hs (tev_vl hs.tmr a) hl
  refine ⟨rfl, v, h, ?_, Ext.refl h, Fz, L, Grow.refl _ _, hs.put dst hq⟩
  simp only [xop, hop, hx, hv, Option.map_some]

/-- a new block of one's own -/
def newL (L : Nat → LI) (k nm es tot : Nat) : Nat → LI := fun n => if n = k then ⟨true, some nm, es, tot⟩ else L n
theorem newL_old (hs : St h0 Fz L s tm h) {nm es tot : Nat} : ∀ n, (L n).ok = true → newL L s.hp.length nm es tot n = L n := fun n hn => by
  have := hs.dom n hn
  unfold newL
  rw [if_neg (by omega)]
theorem newL_new {k nm es tot : Nat} : newL L k nm es tot k = ⟨true, some nm, es, tot⟩ := by unfold newL; rw [if_pos rfl]
theorem St.new (hs : St h0 Fz L s tm h) {b : TB} {es tot : Nat} {cs : List Value} (hb : BR h0.length Fz (h ++ [.cells es cs]) (newL L s.hp.length h.length es tot) s.hp.length b) :
    St h0 Fz (newL L s.hp.length h.length es tot) ⟨s.tm, s.hp ++ [b]⟩ tm (h ++ [.cells es cs]) := by
  have hold := newL_old hs (nm := h.length) (es := es) (tot := tot)
  have hs1 := hs.heap (Ext.app h [.cells es cs]) (Fz' := Fz) (fun _ h => h) (fun n hn => .inl hn)
  have hlow : ∀ n b nm, s.hp[n]? = some b → b.live = true → (L n).nm = some nm → nm < h.length := by
    intro n b nm hb hlv hn
    have := hs.blk n b hb
    cases b with
    | dead => cases hlv
    | rows es rows =>
      obtain ⟨-, -, -, -, h5⟩ := this
      rcases h5 with h5 | ⟨nm', cs, e1, e2, e3, e4, e5⟩
      · rw [h5.1] at hn; cases hn
      · rw [e1] at hn; obtain rfl := Option.some.inj hn
        exact (List.getElem?_eq_some_iff.1 e4).1
    | var row =>
      obtain ⟨-, nm', cs, e1, e2, e3, e4, e5⟩ := this
      rw [e1] at hn; obtain rfl := Option.some.inj hn
      exact (List.getElem?_eq_some_iff.1 e4).1
  refine ⟨hs1.tmr.own hold, ?_, ?_, ?_, hs1.fz, hs1.ext⟩
  · intro n b' hb'
    rcases Nat.lt_or_ge n s.hp.length with hlt | hge
    · rw [List.getElem?_append_left hlt] at hb'
      exact (hs1.blk n b' hb').own hold (by unfold newL; rw [if_neg (by omega)])
    · rw [List.getElem?_append_right hge] at hb'
      have hlt := (List.getElem?_eq_some_iff.1 hb').1
      simp only [List.length_singleton] at hlt
      obtain rfl : n = s.hp.length := by omega
      simp at hb'
      subst hb'
      exact hb
  · intro n hn
    simp only [List.length_append, List.length_singleton]
    unfold newL at hn
    split at hn
    · omega
    · have := hs.dom n hn; omega
  · intro n n' b1 b2 nm hb1 hb2 l1 l2 e1 e2
    have f : ∀ n (b' : TB), (s.hp ++ [b])[n]? = some b' → (n < s.hp.length ∧ s.hp[n]? = some b') ∨ n = s.hp.length := by
      intro n b' hb'
      rcases Nat.lt_or_ge n s.hp.length with hlt | hge
      · rw [List.getElem?_append_left hlt] at hb'; exact .inl ⟨hlt, hb'⟩
      · rw [List.getElem?_append_right hge] at hb'
        have hlt := (List.getElem?_eq_some_iff.1 hb').1
        simp only [List.length_singleton] at hlt
        exact .inr (by omega)
    rcases f n b1 hb1 with ⟨a1, a2⟩ | rfl <;> rcases f n' b2 hb2 with ⟨c1, c2⟩ | rfl
    · unfold newL at e1 e2
      rw [if_neg (by omega)] at e1 e2
      exact hs.inj n n' b1 b2 nm a2 c2 l1 l2 e1 e2
    · unfold newL at e1
      rw [if_neg (by omega)] at e1
      rw [newL_new] at e2
      obtain rfl := Option.some.inj e2
      have := hlow n b1 _ a2 l1 e1
      omega
    · unfold newL at e2
      rw [if_neg (by omega)] at e2
      rw [newL_new] at e1
      obtain rfl := Option.some.inj e1
      have := hlow n' b2 _ c2 l2 e2
      omega
    · rfl

theorem newL_vl {k nm es tot : Nat} : VL Fz h (newL L k nm es tot) (.lptr k 0 0) (.pointer (some ⟨nm, 0, none⟩)) := by
  have := VL.lptr (Fz := Fz) (h := h) (newL L k nm es tot) k 0 0 nm (by rw [newL_new]) (by rw [newL_new])
  simpa using this
theorem newL_sl {k nm es tot : Nat} {len : Nat} (hl : len ≤ tot) : VL Fz h (newL L k nm es tot) (.lsl k 0 len) (.slice (some ⟨nm, 0, none⟩) len tot) := by
  have := VL.lsl (Fz := Fz) (h := h) (newL L k nm es tot) k 0 len nm (by rw [newL_new]) (by rw [newL_new]) (by rw [newL_new]; simpa using hl)
  rw [newL_new] at this
  simpa using this
theorem newVarBR (hs : St h0 Fz L s tm h) {row : List TV} {cs : List Value} (hv : VLs Fz h L row cs) : BR h0.length Fz (h ++ [.cells 0 cs]) (newL L s.hp.length h.length 0 0) s.hp.length (.var row) := by
  have hold := newL_old hs (nm := h.length) (es := 0) (tot := 0)
  refine ⟨by rw [newL_new], h.length, cs, by rw [newL_new], hs.ext.le, fun hf => by have := hs.fz _ hf; omega, by simp, (hv.own hold).mono (fun _ h => h) (fun n hn => ?_)⟩
  have := hs.fz n hn
  rw [List.getElem?_append_left this]
theorem OpG.box {e : TypeId} {x : Operand} {p : TV} (hp : tev s.tm x = p) (hj : isJunk p = false) : OpG C P { dst := dst, op := .box e x, type := ty, pos := pos, after := aft, guard := gd } s ⟨tput s.tm dst (.lptr s.hp.length 0 0), s.hp ++ [.var (tcells p)]⟩ := by
  intro h0 Fz L tm h hs
  subst hp
  have hv := tcells_vl (tev_vl hs.tmr x) hj
  refine ⟨rfl, _, _, rfl, Ext.app _ _, Fz, _, Grow.refl _ _, (hs.new (newVarBR hs hv)).put dst newL_vl⟩
/-- a variable that is not written again -/
theorem OpG.boxF {e : TypeId} {x : Operand} {p : TV} (hp : tev s.tm x = p) (hj : isJunk p = false) (hl : (tcells p).all (lf 4) = true) : OpG C P { dst := dst, op := .box e x, type := ty, pos := pos, after := aft, guard := gd } s ⟨tput s.tm dst (.fptr true (tcells p) 0), s.hp⟩ := by
  intro h0 Fz L tm h hs
  subst hp
  have hv := tcells_vl (tev_vl hs.tmr x) hj
  have hx := Ext.app h [Blk.cells (esOf P e) (ev tm x).cells.toList]
  refine ⟨rfl, _, _, rfl, hx, fun n => Fz n ∨ n = h.length, L, ⟨fun n hn => .inl hn, fun n hn => ?_⟩, ?_⟩
  · rcases hn with hn | rfl
    · exact .inl hn
    · exact .inr hs.ext.le
  · refine (hs.heap hx (fun n hn => .inl hn) (fun n hn => ?_)).put dst ?_
    · rcases hn with hn | rfl
      · exact .inl hn
      · exact .inr (by simp)
    · have := VL.fptr (Fz := fun n => Fz n ∨ n = h.length) (h := h ++ [Blk.cells (esOf P e) (ev tm x).cells.toList]) L true (tcells (tev s.tm x)) 0 h.length 0 (esOf P e) (ev tm x).cells.toList (.inr rfl) (by simp) (fun _ => rfl) (by have := hv.len; omega) (fun j p y h1 h2 => by
        rw [Nat.zero_add] at h2
        refine (VL.toNo 4 (by simpa using List.all_eq_true.1 hl p (List.mem_of_getElem? h1)) (hv.at' j p y h1 h2)).mono (fun n hn => .inl hn) (fun n hn => ?_)
        have := hs.fz n hn
        rw [List.getElem?_append_left this])
      simpa using this
theorem OpG.alloc {e : TypeId} {z : List Value} (hz : zeroC P e = some z) : OpG C P { dst := dst, op := .alloc e, type := ty, pos := pos, after := aft, guard := gd } s ⟨tput s.tm dst (.lptr s.hp.length 0 0), s.hp ++ [.var (z.map .v)]⟩ := by
  intro h0 Fz L tm h hs
  obtain ⟨i, z0, hi, hz0, hcl, rfl, hsz, hat⟩ := zeroC_parts hz
  refine ⟨rfl, .pointer (some ⟨h.length, 0, none⟩), h ++ [.cells (esOf P e) z0.cells.toList], ?_, Ext.app _ _, Fz, _, Grow.refl _ _, (hs.new (newVarBR hs (atoms_vl hat))).put dst newL_vl⟩
  simp only [xop, hop, hi, hz0, hcl, if_true]

theorem newRowsBR (hs : St h0 Fz L s tm h) {es : Nat} {rows : List (List TV)} {cs : List Value} (hw : ∀ r ∈ rows, r.length = es) (hv : VLs Fz h noL rows.flatten cs) : BR h0.length Fz (h ++ [.cells es cs]) (newL L s.hp.length h.length es rows.length) s.hp.length (.rows es rows) := by
  refine ⟨by rw [newL_new], by rw [newL_new], by rw [newL_new], hw, .inr ⟨h.length, cs, by rw [newL_new], hs.ext.le, fun hf => by have := hs.fz _ hf; omega, by simp, hv.mono (fun _ h => h) (fun n hn => ?_)⟩⟩
  have := hs.fz n hn
  rw [List.getElem?_append_left this]
theorem zeroRow_rep {z : List Value} {a : Array Value} (ha : a.toList = z) : ∀ (n : Nat), (zeroRow a (n * z.length)).toList = (List.replicate n z).flatten := by
  intro n
  subst ha
  unfold zeroRow
  rw [Array.toList_map, Array.toList_range]
  induction n with
  | zero => simp
  | succ n ih =>
    rw [Nat.succ_mul, List.range_add, List.map_append, ih, List.replicate_succ', List.flatten_append]
    congr 1
    simp only [List.flatten_cons, List.flatten_nil, List.append_nil, List.map_map]
    apply List.ext_getElem
    · simp
    · intro i h1 h2
      simp only [List.length_map, List.length_range] at h1
      simp only [List.getElem_map, List.getElem_range, Function.comp]
      rw [show (n * a.toList.length + i) % a.size = i by
        rw [Array.length_toList, Nat.add_comm, Nat.add_mul_mod_self_right, Nat.mod_eq_of_lt (by simpa using h1)]]
      simp at h1
      rw [getElem!_pos a i h1]
      simp
def tmake (P : Program) (t : TypeId) (l c : TV) : Option (Nat × List Value) :=
  match l, c with
  | .v (.int _ l), .v (.int _ c) => match sliceOf P t with
    | some e => match zeroC P e with
      | some z => if l = c ∧ 0 ≤ c ∧ c < 2 ^ 63 ∧ (bytesT P e : Int) * c ≤ 2 ^ 48 ∧ z ≠ [] then some (c.toNat, z) else none
      | none => none
    | none => none
  | _, _ => none
theorem OpG.makeSlice {t : TypeId} {l c : Operand} {n : Nat} {z : List Value} (hm : tmake P t (tev s.tm l) (tev s.tm c) = some (n, z)) :
    OpG C P { dst := dst, op := .makeSlice t l c, type := ty, pos := pos, after := aft, guard := gd } s ⟨tput s.tm dst (.lsl s.hp.length 0 n), s.hp ++ [.rows z.length (List.replicate n (z.map .v))]⟩ := by
  intro h0 Fz L tm h hs
  have h1 := tev_vl hs.tmr l
  have h2 := tev_vl hs.tmr c
  unfold tmake at hm
  split at hm
  · rename_i k1 l' k2 c' hl hc
    rw [hl] at h1
    rw [hc] at h2
    have e1 := h1.bool_inv
    have e2 := h2.bool_inv
    split at hm
    · rename_i e he
      split at hm
      · rename_i z' hz
        split at hm
        · rename_i hcond
          obtain ⟨rfl, hc0, hc1, hc2, hc3⟩ := hcond
          obtain ⟨rfl, rfl⟩ := Prod.mk.inj (Option.some.inj hm)
          obtain ⟨i, z0, hi, hz0, hcl, hzz, hsz, hat⟩ := zeroC_parts hz
          unfold sliceOf at he
          split at he
          · rename_i e' hu
            obtain rfl := Option.some.inj he
            have hb : bytesT P e' = i.bytes := by simp [bytesT, hi]
            rw [hb] at hc2
            have hwrap : IntKind.i64.wrap l' = l' := IntWalk.i64_in _ (by omega)
            have hcs : (zeroRow z0.cells (l'.toNat * i.size)).toList = (List.replicate l'.toNat z').flatten := by
              rw [← hsz]; exact zeroRow_rep hzz _
            have hfl : VLs Fz h noL (List.replicate l'.toNat (z'.map TV.v)).flatten (List.replicate l'.toNat z').flatten := by
              have := atoms_vl (Fz := Fz) (h := h) (L := noL) (z := (List.replicate l'.toNat z').flatten) (fun x hx => by
                simp only [List.mem_flatten, List.mem_replicate] at hx
                obtain ⟨q, ⟨_, rfl⟩, hx⟩ := hx
                exact hat x hx)
              rwa [List.map_flatten, List.map_replicate] at this
            have hmk : makeSliceV P t (ev tm l) (ev tm c) h = some (.slice (some ⟨h.length, 0, none⟩) l'.toNat l'.toNat, h ++ [.cells z'.length (List.replicate l'.toNat z').flatten]) := by
              unfold makeSliceV
              simp only [e1, e2, hu, hi]
              rw [if_pos ⟨hwrap, hwrap, hc0, Int.le_refl _, by omega⟩]
              by_cases hn0 : l'.toNat * i.size = 0
              · have : l'.toNat = 0 := by
                  rcases Nat.mul_eq_zero.1 hn0 with h | h
                  · exact h
                  · rw [h] at hsz; exact absurd (List.length_eq_zero_iff.1 hsz) hc3
                simp only [zeroOf, hn0, if_true, zeroRow, this, List.replicate_zero, List.flatten_nil, hsz]
                simp
              · simp only [zeroOf, if_neg hn0, hi, hz0, hcl, if_true, hcs, hsz]
            refine ⟨rfl, .slice (some ⟨h.length, 0, none⟩) l'.toNat l'.toNat, _, ?_, Ext.app h [.cells z'.length (List.replicate l'.toNat z').flatten], Fz, newL L s.hp.length h.length z'.length (List.replicate l'.toNat (z'.map TV.v)).length, Grow.refl _ _, ?_⟩
            · simp only [xop, hop, newH, hmk, Option.map_some]
            · refine (hs.new (newRowsBR hs (fun r hr => ?_) hfl)).put dst ?_
              · rw [List.mem_replicate] at hr
                rw [hr.2]; simp
              · have := newL_sl (Fz := Fz) (h := h ++ [.cells z'.length (List.replicate l'.toNat z').flatten]) (L := L) (k := s.hp.length) (nm := h.length) (es := z'.length) (tot := (List.replicate l'.toNat (z'.map TV.v)).length) (len := l'.toNat) (by simp)
                simpa using this
          · cases he
        · cases hm
      · cases hm
    · cases hm
  · cases hm
end
end Go.Rex
