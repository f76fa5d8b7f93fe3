/- An executor of the program's functions on trees of values, proved sound. -/
import Derived.Test.YtojekkfmnnoabaaTexD
set_option linter.unusedSimpArgs false
set_option linter.unusedVariables false
set_option linter.defProp false
namespace Go.Rex
open Go.RowKit
/-! ### what is asked of types, as closed facts -/
def okT (P : Program) (t : TypeId) : Bool := (P.info? t).isSome
def sliceOf (P : Program) (t : TypeId) : Option TypeId := match P.underlying t with | some (.slice e) => some e | _ => none
def arrayOf (P : Program) (t : TypeId) : Option (Nat × TypeId) := match P.underlying t with | some (.array n e) => some (n, e) | _ => none
def fieldT (P : Program) (t : TypeId) (f : Nat) : Option (Nat × TypeId) := match P.underlying t with
  | some (.struct fields) => match fields[f]? with
    | some fd => if (P.info? fd.type).isSome = true ∧ P.cellsOf fd.type ≠ 0 then some (fd.offset, fd.type) else none
    | none => none
  | _ => none
/-- offset and size of the fields, if all are known -/
def structT (P : Program) (t : TypeId) : Option (List (Nat × Nat)) := match P.underlying t with
  | some (.struct fields) => if fields.all (fun f => (P.info? f.type).isSome) = true then some (fields.toList.map fun f => (f.offset, P.cellsOf f.type)) else none
  | _ => none
def zeroC (P : Program) (t : TypeId) : Option (List Value) := match P.info? t with
  | some i => match i.zero with
    | some z => if isClean z = true ∧ z.cells.toList.all isAtom = true ∧ z.cells.size = i.size then some z.cells.toList else none
    | none => none
  | none => none
def bytesT (P : Program) (t : TypeId) : Nat := match P.info? t with | some i => i.bytes | none => 0

def tcells : TV → List TV
  | .agg l => l
  | p => [p]
def isJunk : TV → Bool
  | .junk => true
  | _ => false
def tone : TV → Bool
  | .agg _ => false
  | .tuple _ => false
  | .junk => false
  | _ => true
def tsplice (c : List TV) (o : Nat) (l : List TV) : List TV := c.take o ++ l ++ c.drop (o + l.length)
def tfill (place : Nat → Option (Nat × Nat)) : List TV → List (Nat × TV) → Option (List TV)
  | c, [] => some c
  | c, (i, p) :: ps => match place i with
    | none => none
    | some (off, size) => if isJunk p = true then none else if (tcells p).length = size ∧ off + size ≤ c.length then tfill place (tsplice c off (tcells p)) ps else none
def tbuild (P : Program) (t : TypeId) (parts : List (Nat × TV)) : Option TV :=
  match zeroC P t with
  | none => none
  | some z => match structT P t with
    | some pl => (tfill (pl[·]?) (z.map .v) parts).map .agg
    | none => match arrayOf P t with
      | some (_, e) => if okT P e = true then (tfill (fun k => some (k * P.cellsOf e, P.cellsOf e)) (z.map .v) parts).map .agg else none
      | none => none
def partT (P : Program) (t : TypeId) (row : List TV) (o : Nat) : Option TV :=
  match aggB P t with
  | some true => if okT P t = true ∧ o + P.cellsOf t ≤ row.length then some (.agg ((row.drop o).take (P.cellsOf t))) else none
  | some false => row[o]?
  | none => none
def tidx (rows : List (List TV)) (i : Int) : Option (List TV) := if 0 ≤ i then rows[i.toNat]? else none
def tindexAddr (P : Program) (hp : List TB) (t : TypeId) (x ix : TV) : Option TV :=
  match ix with
  | .v (.int _ i) => match sliceOf P t with
    | some e => if okT P e = true then match x with
        | .list es rows => if P.cellsOf e = es then (tidx rows i).map fun row => .fptr false row 0 else none
        | .lsl n o len => match hp[n]? with
          | some (.rows es _) => if 0 ≤ i ∧ i < len ∧ P.cellsOf e = es then some (.lptr n (o + i.toNat) 0) else none
          | _ => none
        | _ => none
      else none
    | none => match arrayOf P t with
      | some (n, e) => if 0 ≤ i ∧ i < n ∧ okT P e = true then match x with
          | .fptr vb row o => some (.fptr vb row (o + i.toNat * P.cellsOf e))
          | .lptr b r o => some (.lptr b r (o + i.toNat * P.cellsOf e))
          | _ => none
        else none
      | none => none
  | _ => none
def tfieldAddr (P : Program) (t : TypeId) (x : TV) (f : Nat) : Option TV :=
  match fieldT P t f with
  | some (off, _) => match x with
    | .fptr vb row o => some (.fptr vb row (o + off))
    | .lptr b r o => some (.lptr b r (o + off))
    | _ => none
  | none => none
def tfield (P : Program) (t : TypeId) (x : TV) (f : Nat) : Option TV :=
  match fieldT P t f, x with
  | some (off, ft), .agg row => partT P ft row off
  | _, _ => none
def tindex (P : Program) (t : TypeId) (x ix : TV) : Option TV :=
  match arrayOf P t, x, ix with
  | some (n, e), .agg row, .v (.int _ i) => if 0 ≤ i ∧ i < n ∧ okT P e = true then partT P e row (i.toNat * P.cellsOf e) else none
  | _, _, _ => none
def tlen (P : Program) (t : Option TypeId) (x : TV) : Option TV :=
  match t with
  | none => none
  | some t => match sliceOf P t with
    | none => none
    | some _ => match x with
      | .list _ rows => some (.v (.int .i64 rows.length))
      | .lsl _ _ len => some (.v (.int .i64 len))
      | _ => none
def erased (tm : List TV) (x : Operand) : Value := (er 3 (tev tm x)).getD undef
def tgen (P : Program) (tm : List TV) (o : Oper) : Option TV :=
  if o.op.operands.toList.all (fun x => (er 3 (tev tm x)).isSome) = true then
    match Rex.pop P (erased tm) o with
    | some v => if injOk 3 v = true then some (inj 3 v) else none
    | none => none
  else none
def orT (a : Option TV) (b : Option TV) : Option TV := match a with | some x => some x | none => b
def tpick (c a b : TV) : Option TV := match c with
  | .v (.bool t) => (match t with | true => some a | false => some b)
  | _ => none
def tbin (op : BinOp) (x y : TV) : Option TV := match x, y with
  | .v a, .v b => (fastBin op a b).map .v
  | _, _ => none
def tpop (P : Program) (hp : List TB) (tm : List TV) (o : Oper) : Option TV :=
  match o.op with
  | .move x => some (tev tm x)
  | .assign x => some (tev tm x)
  | .pick c a b => tpick (tev tm c) (tev tm a) (tev tm b)
  | .nilCheck x => match tev tm x with
    | .func f a b => some (.func f a b)
    | .fptr vb r o => some (.fptr vb r o)
    | .lptr n r o => some (.lptr n r o)
    | _ => none
  | .build t ps => tbuild P t (ps.toList.map fun q => (q.1, tev tm q.2))
  | .makeFunc fn first caps => match fn with
    | .func f => if (first.toList.all fun x => lf 4 (tev tm x)) && (caps.toList.all fun x => lf 4 (tev tm x)) then some (.func f (first.toList.map (tev tm)) (caps.toList.map (tev tm))) else none
    | _ => none
  | .extract t i => match tev tm t with
    | .tuple l => l[i]?
    | _ => none
  | .fieldAddr t x f => tfieldAddr P t (tev tm x) f
  | .indexAddr t x ix => tindexAddr P hp t (tev tm x) (tev tm ix)
  | .field t x f => tfield P t (tev tm x) f
  | .index t x ix => orT (tindex P t (tev tm x) (tev tm ix)) (tgen P tm o)
  | .call c => match c.callee with
    | .builtin b => if b = .len then match c.args.toList with
        | [x] => orT (tlen P c.argTypes[0]? (tev tm x)) (tgen P tm o)
        | _ => none
      else tgen P tm o
    | _ => none
  | .binOp op _ x y _ => orT (tbin op (tev tm x) (tev tm y)) (tgen P tm o)
  | _ => tgen P tm o

section
variable {P : Program} {Fz : Nat → Prop} {h h0 : List Blk} {L : Nat → LI}
theorem genP_congr {ρ ρ' : Operand → Value} {o : Oper} (hx : ∀ x ∈ o.op.operands, ρ x = ρ' x) : genP P ρ o = genP P ρ' o := by
  have e1 : o.op.operands.toList.all (fun x => isClean (ρ x)) = o.op.operands.toList.all (fun x => isClean (ρ' x)) := by
    rw [Bool.eq_iff_iff, List.all_eq_true, List.all_eq_true]
    exact ⟨fun h x hm => by rw [← hx x (by simpa using hm)]; exact h x hm, fun h x hm => by rw [hx x (by simpa using hm)]; exact h x hm⟩
  unfold genP
  rw [e1]
  split
  · rfl
  · rename_i hs
    rw [execOp_congr o (fun cs b e => hs cs b e) hx]
theorem mapParts_congr {ρ ρ' : Operand → Value} {ps : Array (Nat × Operand)} (hx : ∀ x ∈ (ps.toList.map (·.2)).toArray, ρ x = ρ' x) : mapParts ρ ps = mapParts ρ' ps := by
  unfold mapParts
  apply Array.map_congr_left
  intro p hp
  obtain ⟨i, x⟩ := p
  simp only [hx x (by simp; exact ⟨i, hp⟩)]
theorem arr_congr {ρ ρ' : Operand → Value} {xs : Array Operand} (hx : ∀ x ∈ xs, ρ x = ρ' x) : xs.map ρ = xs.map ρ' := Array.map_congr_left hx
theorem pop_congr {ρ ρ' : Operand → Value} {o : Oper} (hx : ∀ x ∈ o.op.operands, ρ x = ρ' x) : Rex.pop P ρ o = Rex.pop P ρ' o := by
  have hg := genP_congr (P := P) hx
  obtain ⟨dst, op, ty, pos, after, guard⟩ := o
  cases op <;> simp only [Op.operands] at hx <;> simp only [Rex.pop] <;> try exact hg
  case move x => rw [hx x (by simp)]
  case assign x => rw [hx x (by simp)]
  case pick c a b => rw [hx c (by simp), hx a (by simp), hx b (by simp)]
  case build t ps => rw [mapParts_congr hx]
  case nilCheck x => rw [hx x (by simp)]
  case binOp op t x y u => rw [hx x (by simp), hx y (by simp)]; simp only [orGen, hg]
  case makeFunc fn a b => rw [arr_congr (xs := a) fun x hm => hx x (by simp [hm]), arr_congr (xs := b) fun x hm => hx x (by simp [hm])]
  case fieldAddr t x f => rw [hx x (by simp)]
  case field t x f => rw [hx x (by simp)]
  case indexAddr t x ix => rw [hx x (by simp), hx ix (by simp)]
  case index t x ix => rw [hx x (by simp), hx ix (by simp)]; simp only [orGen, hg]
  case extract t i => rw [hx t (by simp)]
  case call c =>
    obtain ⟨callee, args, tys⟩ := c
    unfold bpop
    cases callee with
    | builtin b =>
      simp only
      split
      · split
        · rename_i x hxs
          rw [hx x (by
            have : x ∈ args.toList := by rw [hxs]; simp
            simp [Call.operands]; exact by simpa using this)]; simp only [orGen, hg]
        · rfl
      · exact hg
    | _ => rfl

theorem tgen_sound {tm : List TV} {vm : List Value} (hs : VLs Fz h L tm vm) {o : Oper} {p : TV} (hp : tgen P tm o = some p) : ∃ v, Rex.pop P (ev vm) o = some v ∧ VL Fz h L p v := by
  unfold tgen at hp
  split at hp
  · rename_i hall
    have hx : ∀ x ∈ o.op.operands, ev vm x = erased tm x := by
      intro x hm
      have h1 := List.all_eq_true.1 hall x (by simpa using hm)
      obtain ⟨y, hy⟩ := Option.isSome_iff_exists.1 h1
      rw [(tev_vl hs x).er 3 hy, erased, hy]
      rfl
    rw [pop_congr hx]
    split at hp
    · rename_i v hv
      split at hp
      · rename_i hi
        obtain rfl := Option.some.inj hp
        exact ⟨v, hv, VL.inj 3 hi⟩
      · cases hp
    · cases hp
  · cases hp

theorem tcells_vl {p : TV} {x : Value} (hp : VL Fz h L p x) (hj : isJunk p = false) : VLs Fz h L (tcells p) x.cells.toList := by
  have one : ∀ q y, VL Fz h L q y → VLs Fz h L [q] [y] := fun q y hq => VLs.cons hq VLs.nil
  cases hp with
  | junk => simp [isJunk] at hj
  | v _ x hx =>
    have : x.cells.toList = [x] := by
      cases x <;> first | rfl | (simp [isAtom] at hx)
    rw [this]
    exact one _ _ (.v L x hx)
  | agg _ l l' hl ha => exact ⟨hl, ha⟩
  | tuple _ l l' hl ha => exact one _ _ (.tuple L l l' hl ha)
  | func _ f a b a' b' la ha lb hb => exact one _ _ (.func L f a b a' b' la ha lb hb)
  | nillist _ es => exact one _ _ (.nillist L es)
  | list _ es rows n o c cs eb hn hb he hw hc hle ha => exact one _ _ (.list L es rows n o c cs eb hn hb he hw hc hle ha)
  | fptr _ vb row off n base es cs hn hb hv hle ha => exact one _ _ (.fptr L vb row off n base es cs hn hb hv hle ha)
  | lptr _ n r o nm ok hn => exact one _ _ (.lptr L n r o nm ok hn)
  | lslnil _ n ok hn => exact one _ _ (.lslnil L n ok hn)
  | lsl _ n o len nm ok hn hle => exact one _ _ (.lsl L n o len nm ok hn hle)

theorem foldl_set_splice : ∀ (l : List Value) (k : Nat) (off : Nat) (c : Array Value), off + k + l.length ≤ c.size →
    ((l.zipIdx k).foldl (fun (cs : Array Value) (x : Value × Nat) => cs.setIfInBounds (off + x.2) x.1) c).toList = splice c.toList (off + k) l
  | [], k, off, c, _ => by simp [splice]
  | v :: l, k, off, c, hle => by
    simp only [List.zipIdx_cons, List.foldl_cons]
    rw [foldl_set_splice l (k + 1) off _ (by simp at hle ⊢; omega)]
    simp only [Array.toList_setIfInBounds]
    simp only [List.length_cons] at hle
    have hlt : off + k < c.toList.length := by simp; omega
    have hl1 : off + (k + 1) + l.length ≤ (c.toList.set (off + k) v).length := by simp; omega
    have hl2 : off + k + (v :: l).length ≤ c.toList.length := by simp; omega
    apply List.ext_getElem?
    intro i
    by_cases h1 : off + (k + 1) ≤ i ∧ i < off + (k + 1) + l.length
    · rw [splice_in hl1 h1.1 h1.2, splice_in hl2 (by omega) (by simp; omega)]
      rw [show i - (off + k) = (i - (off + (k + 1))) + 1 by omega, List.getElem?_cons_succ]
    · rw [splice_out hl1 (by omega)]
      by_cases h2 : i = off + k
      · subst h2
        rw [splice_in hl2 (Nat.le_refl _) (by simp), List.getElem?_set_self hlt]
        simp
      · rw [splice_out hl2 (by simp; omega), List.getElem?_set_ne (by omega)]
theorem splice_vl {c l : List TV} {c' l' : List Value} (hc : VLs Fz h L c c') (hl : VLs Fz h L l l') (o : Nat) : VLs Fz h L (tsplice c o l) (splice c' o l') := by
  unfold tsplice splice
  rw [hl.len]
  have h1 := hc.extract 0 o
  have h2 : VLs Fz h L (c.drop (o + l.length)) (c'.drop (o + l.length)) := by
    have := hc.extract (o + l.length) c.length
    rw [List.take_of_length_le (by simp), List.take_of_length_le (by simp [hc.len])] at this
    exact this
  simp only [List.drop_zero] at h1
  exact (h1.append hl).append h2

structure PLs (Fz : Nat → Prop) (h : List Blk) (L : Nat → LI) (ps : List (Nat × TV)) (ps' : List (Nat × Value)) : Prop where
  len : ps'.length = ps.length
  at' : ∀ (i : Nat) p p', ps[i]? = some p → ps'[i]? = some p' → p'.1 = p.1 ∧ VL Fz h L p.2 p'.2
theorem tfill_sound {place : Nat → Option (Nat × Nat)} : ∀ (ps : List (Nat × TV)) (ps' : List (Nat × Value)) (c : List TV) (c' : Array Value) (r : List TV), PLs Fz h L ps ps' → VLs Fz h L c c'.toList → tfill place c ps = some r →
    ∃ r', Instr.fill place c' ps' = some r' ∧ VLs Fz h L r r'.toList
  | [], ps', c, c', r, hp, hc, hf => by
    have : ps' = [] := by have := hp.len; simpa using this
    subst this
    simp [tfill] at hf
    subst hf
    exact ⟨c', rfl, hc⟩
  | (i, v) :: ps, ps', c, c', r, hp, hc, hf => by
    obtain ⟨p', rest, rfl⟩ : ∃ v' rest, ps' = v' :: rest := by
      have h1 := hp.len
      cases ps' with
      | nil => simp at h1
      | cons a b => exact ⟨a, b, rfl⟩
    obtain ⟨i', v'⟩ := p'
    obtain ⟨e1, hv⟩ := hp.at' 0 _ _ rfl rfl
    simp only at e1 hv
    subst e1
    have hs : PLs Fz h L ps rest := ⟨by have := hp.len; simpa using this, fun i x x' h h' => hp.at' (i + 1) _ _ (by simpa using h) (by simpa using h')⟩
    simp only [tfill] at hf
    simp only [Instr.fill]
    split at hf
    · cases hf
    · rename_i off size hpl
      split at hf
      · cases hf
      · rename_i hj
        split at hf
        · rename_i hcond
          have hcv := tcells_vl hv (by simpa using hj)
          have hsz : v'.cells.size = size := by have := hcv.len; simp at this; omega
          have hcs : c'.size = c.length := by have := hc.len; simpa using this
          simp only [hpl]
          rw [if_neg (by simp [hsz]; omega)]
          refine tfill_sound ps rest _ _ r hs ?_ hf
          have := foldl_set_splice v'.cells.toList 0 off c' (by simp; omega)
          simp only [← Array.foldl_toList, Array.toList_zipIdx]
          rw [this]
          exact splice_vl hc hcv off
        · cases hf
theorem zeroC_parts {t : TypeId} {z : List Value} (hz : zeroC P t = some z) : ∃ i z0, P.info? t = some i ∧ i.zero = some z0 ∧ isClean z0 = true ∧ z0.cells.toList = z ∧ z.length = i.size ∧ ∀ x ∈ z, isAtom x = true := by
  unfold zeroC at hz
  split at hz
  · rename_i i hi
    split at hz
    · rename_i z0 hz0
      split at hz
      · rename_i hc
        obtain rfl := Option.some.inj hz
        exact ⟨i, z0, hi, hz0, hc.1, rfl, by simpa using hc.2.2, fun x hx => by simpa using List.all_eq_true.1 hc.2.1 x hx⟩
      · cases hz
    · cases hz
  · cases hz
theorem atoms_vl {z : List Value} (hz : ∀ x ∈ z, isAtom x = true) : VLs Fz h L (z.map .v) z :=
  ⟨by simp, fun i p x hp hx => by
    rw [List.getElem?_map, hx] at hp
    obtain rfl := Option.some.inj hp
    exact .v L x (hz x (List.mem_of_getElem? hx))⟩
theorem tbuild_sound {t : TypeId} {ps : List (Nat × TV)} {ps' : Array (Nat × Value)} {p : TV} (hp : PLs Fz h L ps ps'.toList) (hb : tbuild P t ps = some p) : ∃ v, buildV P t ps' = some v ∧ VL Fz h L p v := by
  unfold tbuild at hb
  split at hb
  · cases hb
  · rename_i z hz
    obtain ⟨i, z0, hi, hz0, hcl, rfl, hsz, hat⟩ := zeroC_parts hz
    split at hb
    · rename_i pl hpl
      unfold structT at hpl
      split at hpl
      · rename_i fields hu
        split at hpl
        · rename_i hall
          obtain rfl := Option.some.inj hpl
          obtain ⟨r, hr, rfl⟩ := Option.map_eq_some_iff.1 hb
          obtain ⟨r', h1, h2⟩ := tfill_sound ps ps'.toList _ z0.cells r hp (atoms_vl hat) hr
          refine ⟨.agg r', ?_, .agg' h2⟩
          unfold buildV
          simp only [hi, hz0, hcl, if_true, hu]
          have e : ((fields.map fun f => (f.offset, P.cellsOf f.type))[·]? : Nat → Option (Nat × Nat)) = ((fields.toList.map fun f => (f.offset, P.cellsOf f.type))[·]? : Nat → Option (Nat × Nat)) := by
            funext k; simp
          rw [e, h1]
          simp only [Option.bind_some]
          rw [if_pos hall]
        · cases hpl
      · cases hpl
    · split at hb
      · rename_i n e ha
        unfold arrayOf at ha
        split at ha
        · rename_i n' e' hu
          obtain ⟨rfl, rfl⟩ := Prod.mk.inj (Option.some.inj ha)
          split at hb
          · rename_i hok
            obtain ⟨r, hr, rfl⟩ := Option.map_eq_some_iff.1 hb
            obtain ⟨r', h1, h2⟩ := tfill_sound ps ps'.toList _ z0.cells r hp (atoms_vl hat) hr
            refine ⟨.agg r', ?_, .agg' h2⟩
            unfold buildV
            simp only [hi, hz0, hcl, if_true, hu]
            rw [h1]
            simp only [Option.bind_some]
            exact if_pos hok
          · cases hb
        · cases ha
      · cases hb
end
end Go.Rex
