/- An executor of the program's functions on trees of values, proved sound. -/
import Derived.Test.YtojekkfmnnoabaaTexJ
set_option linter.unusedSimpArgs false
set_option linter.unusedVariables false
set_option linter.defProp false
namespace Go.Rex
open Go.RowKit
section
variable {C : Ctx} {P : Program} {Fz : Nat → Prop} {h h0 : List Blk} {L : Nat → LI} {s : TS} {tm : List Value}
variable {dst : Option Tmp} {ty : TypeId} {pos : String} {aft : Array Edge} {gd : Option (Nat × Bool)}
/-! ### slices of slices -/
def tbnd (x : Option TV) (d : Nat) : Option Nat :=
  match x with
  | none => some d
  | some (.v (.int _ i)) => if 0 ≤ i then some i.toNat else none
  | some _ => none
def tsub (P : Program) (hp : List TB) (t : TypeId) (x : TV) (lo hi : Option TV) : Option TV :=
  match sliceOf P t with
  | some e => if okT P e = true then match x with
      | .list es rows => match tbnd lo 0, tbnd hi rows.length with
        | some l, some k => if es = P.cellsOf e ∧ rows ≠ [] ∧ l ≤ k ∧ k ≤ rows.length ∧ (l = 0 ∨ l < rows.length) then some (.list es ((rows.drop l).take (k - l))) else none
        | _, _ => none
      | .lsl n o len => match hp[n]? with
        | some (.rows es rows) => match tbnd lo 0, tbnd hi len with
          | some l, some k => if es = P.cellsOf e ∧ rows ≠ [] ∧ l ≤ k ∧ o + k ≤ rows.length ∧ (l = 0 ∨ o + l < rows.length) then some (.lsl n (o + l) (k - l)) else none
          | _, _ => none
        | _ => none
      | _ => none
    else none
  | none => none
theorem tbnd_sound {x : Option TV} {y : Option Value} {d k : Nat} (hx : ∀ p, x = some p → ∃ v, y = some v ∧ VL Fz h L p v) (hn : x = none → y = none) (hk : tbnd x d = some k) : bnd y d = some k := by
  cases x with
  | none => rw [hn rfl]; exact hk
  | some p =>
    obtain ⟨v, rfl, hv⟩ := hx p rfl
    unfold tbnd at hk
    split at hk
    · rename_i e; cases e
    · rename_i _ kk i e
      obtain rfl := Option.some.inj e
      rw [hv.bool_inv]
      exact hk
    · cases hk
theorem OpG.slice {t : TypeId} {x : Operand} {lo hi : Option Operand} {q : TV} (hq : tsub P s.hp t (tev s.tm x) (lo.map (tev s.tm)) (hi.map (tev s.tm)) = some q) :
    OpG C P { dst := dst, op := .slice t x lo hi none, type := ty, pos := pos, after := aft, guard := gd } s ⟨tput s.tm dst q, s.hp⟩ := by
  intro h0 Fz L tm h hs
  have hvx := tev_vl hs.tmr x
  have hb : ∀ (o : Option Operand) d k, tbnd (o.map (tev s.tm)) d = some k → bnd (o.map (ev tm)) d = some k := by
    intro o d k hk
    refine tbnd_sound (Fz := Fz) (h := h) (L := L) (fun p hp => ?_) (fun hn => ?_) hk
    · cases o with
      | none => cases hp
      | some y => obtain rfl := Option.some.inj hp; exact ⟨_, rfl, tev_vl hs.tmr y⟩
    · cases o with
      | none => rfl
      | some y => cases hn
  suffices H : isClean (ev tm x) = false ∧ ∃ v, sliceV P t (ev tm x) (lo.map (ev tm)) (hi.map (ev tm)) h = some v ∧ VL Fz h L q v by
    obtain ⟨hcl, v, hv, hvl⟩ := H
    refine ⟨?_, v, h, ?_, Ext.refl h, Fz, L, Grow.refl _ _, hs.put dst hvl⟩
    · have e : Rex.pop P (ev tm) { dst := dst, op := .slice t x lo hi none, type := ty, pos := pos, after := aft, guard := gd } = genP P (ev tm) { dst := dst, op := .slice t x lo hi none, type := ty, pos := pos, after := aft, guard := gd } := rfl
      rw [e]
      unfold genP
      simp only
      rw [if_neg]
      simp [Op.operands, hcl]
    · simp only [xop, hop, hv, Option.map_some]
  unfold tsub at hq
  split at hq
  · rename_i e he
    unfold sliceOf at he
    split at he
    · rename_i e' hu
      obtain rfl := Option.some.inj he
      split at hq
      · rename_i hok
        split at hq
        · rename_i es rows hx
          rw [hx] at hvx
          split at hq
          · rename_i l k hl hk
            split at hq
            · rename_i hc
              obtain ⟨c1, c2, c3, c4, c5⟩ := hc
              obtain rfl := Option.some.inj hq
              have hl' := hb lo _ _ hl
              have hk' := hb hi _ _ hk
              generalize ev tm x = vx at *
              cases hvx with
              | nillist => exact absurd rfl c2
              | list _ _ _ n o c cs eb hn hb' he hw hcc hle ha =>
                refine ⟨rfl, .slice (some ⟨n, o + l * es, none⟩) (k - l) (c - l), ?_, ?_⟩
                · simp only [sliceV, hu, hb', hl', hk', ← c1]
                  rw [if_pos ⟨he, hok, c3, by omega, by omega⟩]
                · exact VL.part hn hb' he hw hle ha l (k - l) (by omega) (by omega)
            · cases hq
          · cases hq
        · rename_i n o len hx
          rw [hx] at hvx
          split at hq
          · rename_i es rows hbn
            split at hq
            · rename_i l k hl hk
              split at hq
              · rename_i hc
                obtain ⟨c1, c2, c3, c4, c5⟩ := hc
                obtain rfl := Option.some.inj hq
                have hl' := hb lo _ _ hl
                have hk' := hb hi _ _ hk
                obtain ⟨q1, q2, q3, q4, q5⟩ := hs.blk n _ hbn
                rcases q5 with ⟨q5, q6⟩ | ⟨nm, cs, e1, e2, e3, e4, e5⟩
                · exact absurd q6 c2
                · rw [hvx.lsl_some e1]
                  refine ⟨rfl, .slice (some ⟨nm, o * es + l * es, none⟩) (k - l) (rows.length - o - l), ?_, ?_⟩
                  · simp only [sliceV, hu, q2, q3, e4, hl', hk']
                    rw [if_pos ⟨.inl c1, hok, c3, by omega, by omega⟩, ← c1]
                  · have := VL.lsl (Fz := Fz) (h := h) L n (o + l) (k - l) nm q1 e1 (by rw [q3]; omega)
                    rw [q2, q3, Nat.add_mul, Nat.sub_add_eq] at this
                    exact this
              · cases hq
            · cases hq
          · cases hq
        · cases hq
      · cases hq
    · cases he
  · cases hq

/-! ### calls -/
theorem xcall_go {g : FuncId} {f : Operand} {args : Array Operand} {tys : Array TypeId} {first caps : List Value} (hf : ev tm f = .func (.func g) ⟨first⟩ ⟨caps⟩) (hg : goFn P g = true) :
    xop C P (ev tm) { dst := dst, op := .call { callee := .value f, args := args, argTypes := tys }, type := ty, pos := pos, after := aft, guard := gd } h = C.call g (first ++ (args.toList.map (ev tm) ++ caps)) h := by
  simp only [xop, hop, bhop]
  rw [xcall_eq]
  simp only [hf]
  rw [if_pos hg]
theorem args_vls (hs : VLs Fz h L s.tm tm) (args : List Operand) : VLs Fz h L (args.map (tev s.tm)) (args.map (ev tm)) := by
  refine ⟨by simp, fun i p x hp hx => ?_⟩
  rw [List.getElem?_map] at hp hx
  cases hq : args[i]? with
  | none => rw [hq] at hp; cases hp
  | some q =>
    rw [hq] at hp hx
    obtain rfl := Option.some.inj hp
    obtain rfl := Option.some.inj hx
    exact tev_vl hs q
theorem VLs.toNo {l : List TV} {x : List Value} (hs : VLs Fz h L l x) (hl : l.all (lf 4) = true) {L' : Nat → LI} : VLs Fz h L' l x :=
  ⟨hs.len, fun i p y hp hy => VL.toNo 4 (by simpa using List.all_eq_true.1 hl p (List.mem_of_getElem? hp)) (hs.at' i p y hp hy)⟩
/-- a call whose arguments own nothing -/
theorem OpG.call {f : Operand} {g : FuncId} {args : Array Operand} {tys : Array TypeId} {first caps as : List TV} {p : TV} {th : List TB} (hf : tev s.tm f = .func g first caps) (hg : goFn P g = true) (has : first ++ (args.toList.map (tev s.tm) ++ caps) = as)
    (hl : as.all (lf 4) = true) (hsp : Spec C g as ⟨[p], th⟩) (hth : th.all resTB = true) :
    OpG C P { dst := dst, op := .call { callee := .value f, args := args, argTypes := tys }, type := ty, pos := pos, after := aft, guard := gd } s ⟨tput s.tm dst (shift s.hp.length 4 p), s.hp ++ th⟩ := by
  intro h0 Fz L tm h hs
  subst has
  have hfv := tev_vl hs.tmr f
  rw [hf] at hfv
  obtain ⟨f', c', hfe, vf, vc⟩ : ∃ f' c', ev tm f = .func (.func g) ⟨f'⟩ ⟨c'⟩ ∧ VLs Fz h noL first f' ∧ VLs Fz h noL caps c' := by
    generalize ev tm f = y at *
    cases hfv with
    | func _ _ _ _ a' b' la ha lb hb => exact ⟨a', b', rfl, ⟨la, ha⟩, ⟨lb, hb⟩⟩
  have hargs : VLs Fz h noL (first ++ (args.toList.map (tev s.tm) ++ caps)) (f' ++ (args.toList.map (ev tm) ++ c')) := by
    refine VLs.append vf (VLs.append (VLs.toNo (args_vls hs.tmr args.toList) ?_) vc)
    simp only [List.all_append, Bool.and_eq_true] at hl
    exact hl.2.1
  obtain ⟨v, h', F1, L1, hc, g1, hr⟩ := hsp Fz h _ hs.fz hargs
  obtain ⟨L3, h3⟩ := hs.adopt dst hr hth g1
  refine ⟨rfl, v, h', by rw [xcall_go hfe hg]; exact hc, hr.ext, F1, L3, ⟨g1.1, fun n hn => ?_⟩, h3⟩
  rcases g1.2 n hn with h1 | h1
  · exact .inl h1
  · exact .inr (Nat.le_trans hs.ext.le h1)

/-- what one owns, seen for the time of a call -/
def view (hp : List TB) : Nat → TV → TV
  | 0, _ => .junk
  | d + 1, p => match p with
    | .lsl n o len => (match hp[n]? with
      | some (.rows es rows) => .list es ((rows.drop o).take len)
      | _ => .junk)
    | .lptr n r o => (match rowOf hp (.lptr n r o) with
      | some (row, o) => if row.all (lf 4) = true then .fptr false row o else .junk
      | none => .junk)
    | .agg l => .agg (l.map (view hp d))
    | .tuple l => .tuple (l.map (view hp d))
    | p => p
/-- what is frozen, or one's own -/
def FzAll (Fz : Nat → Prop) (L : Nat → LI) (s : TS) : Nat → Prop := fun k => Fz k ∨ ∃ n b, s.hp[n]? = some b ∧ b.live = true ∧ (L n).nm = some k
theorem VL.view (hs : St h0 Fz L s tm h) : ∀ (d : Nat) {p : TV} {x : Value}, VL Fz h L p x → VL (FzAll Fz L s) h noL (view s.hp d p) x
  | 0, p, x, hp => by rw [Rex.view]; exact .junk noL x
  | d + 1, p, x, hp => by
    have hF : ∀ n, Fz n → FzAll Fz L s n := fun n hn => .inl hn
    have key : ∀ (l : List TV) (l' : List Value), (∀ (i : Nat) p x, l[i]? = some p → l'[i]? = some x → VL Fz h L p x) → ∀ (i : Nat) p x, (l.map (Rex.view s.hp d))[i]? = some p → l'[i]? = some x → VL (FzAll Fz L s) h noL p x := by
      intro l l' ha i p x hp hx
      rw [List.getElem?_map] at hp
      cases hq : l[i]? with
      | none => rw [hq] at hp; cases hp
      | some q => rw [hq] at hp; obtain rfl := Option.some.inj hp; exact VL.view hs d (ha i q x hq hx)
    cases hp with
    | junk _ x => exact .junk noL x
    | v _ x hx => exact .v noL x hx
    | agg _ l l' hl ha => exact .agg noL _ l' (by simp [hl]) (key l l' ha)
    | tuple _ l l' hl ha => exact .tuple noL _ l' (by simp [hl]) (key l l' ha)
    | func _ f a b a' b' la ha lb hb => exact (VL.func noL f a b a' b' la ha lb hb).mono hF (fun _ _ => rfl)
    | nillist _ es => exact .nillist noL es
    | list _ es rows n o c cs eb hn hb he hw hc hle ha => exact (VL.list noL es rows n o c cs eb hn hb he hw hc hle ha).mono hF (fun _ _ => rfl)
    | fptr _ vb row off n base es cs hn hb hv hle ha => exact (VL.fptr noL vb row off n base es cs hn hb hv hle ha).mono hF (fun _ _ => rfl)
    | lptr _ n r o nm ok hn =>
      simp only [Rex.view]
      split
      · rename_i row o' hr
        split
        · rename_i hlf
          have hbl : ∃ b, s.hp[n]? = some b ∧ b.live = true := by
            simp only [rowOf] at hr
            split at hr
            · rename_i hb; exact ⟨_, hb, rfl⟩
            · rename_i hb; exact ⟨_, hb, rfl⟩
            · cases hr
          obtain ⟨b, hb, hlv⟩ := hbl
          obtain ⟨n', bb, es, cs, he, hcs, hle, hv⟩ := rowOf_sound hs (VL.lptr (Fz := Fz) (h := h) L n r o nm ok hn) hr
          injection he with he
          injection he with he
          injection he with he1 he2
          subst he1
          rw [he2]
          have := VL.fptr (Fz := FzAll Fz L s) (h := h) noL false row o' nm bb es cs (.inr ⟨n, b, hb, hlv, hn⟩) hcs (fun h => by cases h) hle (fun j p x h1 h2 => by
            have hjl := (List.getElem?_eq_some_iff.1 h1).1
            have h3 : ((cs.drop bb).take row.length)[j]? = some x := by
              rw [List.getElem?_take, if_pos hjl, List.getElem?_drop]; exact h2
            exact (VL.toNo 4 (by simpa using List.all_eq_true.1 hlf p (List.mem_of_getElem? h1)) (hv.at' j p x h1 h3)).mono hF (fun _ _ => rfl))
          exact this
        · exact .junk noL _
      · exact .junk noL _
    | lslnil _ n ok hn =>
      simp only [Rex.view]
      split
      · simp only [List.take_zero]; exact .nillist noL _
      · exact .junk noL _
    | lsl _ n o len nm ok hn hle =>
      simp only [Rex.view]
      split
      · rename_i es rows hb
        obtain ⟨q1, q2, q3, q4, q5⟩ := hs.blk n _ hb
        rcases q5 with q5 | ⟨nm', cs, e1, e2, e3, e4, e5⟩
        · rw [q5.1] at hn; cases hn
        · rw [hn] at e1
          obtain rfl := Option.some.inj e1
          have hcl : cs.length = rows.length * es := by rw [e5.len, flat_len q4]
          have := VL.part (Fz := FzAll Fz L s) (h := h) (L := noL) (es := es) (rows := rows) (n := nm) (o := 0) (c := (L n).tot - o) (cs := cs) (.inr ⟨n, _, hb, rfl, hn⟩) e4 (.inl rfl) q4 (by omega) (fun j p x h1 h2 => by
            rw [Nat.zero_add] at h2
            exact (e5.at' j p x h1 h2).mono hF (fun _ _ => rfl)) o len (by rw [← q3]; exact hle) (by omega)
          rw [Nat.zero_add] at this
          rw [q2]
          exact this
      · exact .junk noL _
def clTB : TB → Bool
  | .rows _ rows => rows.all fun r => r.all (cl 4)
  | .var row => row.all (cl 4)
  | .dead => true
/-- a result that names nothing frozen -/
theorem St.ofCl {L2 : Nat → LI} {p : TV} {v : Value} {th : List TB} {Fz' : Nat → Prop} {h' : List Blk} (hr : St h Fz' L2 ⟨[p], th⟩ [v] h') (hp : cl 4 p = true) (hth : th.all clTB = true) {F : Nat → Prop} (hF : ∀ n, F n → n < h.length) : St h F L2 ⟨[p], th⟩ [v] h' := by
  have hv : VL Fz' h' L2 p v := hr.tmr.at' 0 p v rfl rfl
  refine ⟨VLs.cons (hv.ofCl 4 hp) VLs.nil, fun n b hb => ?_, hr.dom, hr.inj, fun n hn => Nat.lt_of_lt_of_le (hF n hn) hr.ext.le, hr.ext⟩
  have hc := List.all_eq_true.1 hth b (List.mem_of_getElem? hb)
  have hB := hr.blk n b hb
  cases b with
  | dead => trivial
  | rows es rows =>
    obtain ⟨q1, q2, q3, q4, q5⟩ := hB
    refine ⟨q1, q2, q3, q4, ?_⟩
    rcases q5 with q5 | ⟨nm, cs, e1, e2, e3, e4, e5⟩
    · exact .inl q5
    · refine .inr ⟨nm, cs, e1, e2, fun hf => by have := hF _ hf; omega, e4, e5.len, fun i p x hp hx => VL.ofCl 4 ?_ (e5.at' i p x hp hx)⟩
      have hm := List.mem_of_getElem? hp
      simp only [List.mem_flatten] at hm
      obtain ⟨r, hr, hpr⟩ := hm
      simp only [clTB] at hc
      exact List.all_eq_true.1 (List.all_eq_true.1 hc r hr) p hpr
  | var row =>
    obtain ⟨q1, nm, cs, e1, e2, e3, e4, e5⟩ := hB
    refine ⟨q1, nm, cs, e1, e2, fun hf => by have := hF _ hf; omega, e4, e5.len, fun i p x hp hx => VL.ofCl 4 ?_ (e5.at' i p x hp hx)⟩
    simp only [clTB] at hc
    exact List.all_eq_true.1 hc p (List.mem_of_getElem? hp)
/-- a call that looks at what one owns -/
theorem OpG.look {f : Operand} {g : FuncId} {args : Array Operand} {tys : Array TypeId} {first caps as : List TV} {p : TV} {th : List TB} (hf : tev s.tm f = .func g first caps) (hg : goFn P g = true) (has : first ++ ((args.toList.map (tev s.tm)).map (view s.hp 4) ++ caps) = as)
    (hsp : Spec C g as ⟨[p], th⟩) (hth : th.all resTB = true) (hp : cl 4 p = true) (hcl : th.all clTB = true) :
    OpG C P { dst := dst, op := .call { callee := .value f, args := args, argTypes := tys }, type := ty, pos := pos, after := aft, guard := gd } s ⟨tput s.tm dst (shift s.hp.length 4 p), s.hp ++ th⟩ := by
  intro h0 Fz L tm h hs
  subst has
  have hfv := tev_vl hs.tmr f
  rw [hf] at hfv
  have hF : ∀ n, Fz n → FzAll Fz L s n := fun n hn => .inl hn
  obtain ⟨f', c', hfe, vf, vc⟩ : ∃ f' c', ev tm f = .func (.func g) ⟨f'⟩ ⟨c'⟩ ∧ VLs Fz h noL first f' ∧ VLs Fz h noL caps c' := by
    generalize ev tm f = y at *
    cases hfv with
    | func _ _ _ _ a' b' la ha lb hb => exact ⟨a', b', rfl, ⟨la, ha⟩, ⟨lb, hb⟩⟩
  have hargs : VLs (FzAll Fz L s) h noL (first ++ ((args.toList.map (tev s.tm)).map (Rex.view s.hp 4) ++ caps)) (f' ++ (args.toList.map (ev tm) ++ c')) := by
    refine VLs.append (vf.mono hF (fun _ _ => rfl)) (VLs.append ?_ (vc.mono hF (fun _ _ => rfl)))
    have ha := args_vls hs.tmr args.toList
    refine ⟨by simp, fun i p x hp hx => ?_⟩
    rw [List.getElem?_map] at hp
    cases hq : (args.toList.map (tev s.tm))[i]? with
    | none => rw [hq] at hp; cases hp
    | some q => rw [hq] at hp; obtain rfl := Option.some.inj hp; exact VL.view hs 4 (ha.at' i q x hq hx)
  have hall : ∀ n, FzAll Fz L s n → n < h.length := by
    rintro n (hn | ⟨m, b, hb, hlv, hn⟩)
    · exact hs.fz n hn
    · exact (hs.lowB m b n hb hlv hn).1
  obtain ⟨v, h', F1, L1, hc, g1, hr⟩ := hsp _ h _ hall hargs
  have hr' := hr.ofCl hp hcl hs.fz
  obtain ⟨L3, h3⟩ := hs.adopt dst hr' hth (Grow.refl _ _)
  exact ⟨rfl, v, h', by rw [xcall_go hfe hg]; exact hc, hr.ext, Fz, L3, Grow.refl _ _, h3⟩

/-! ### a function -/
def tresAll (P : Program) (hp : List TB) (tm : List TV) : List ResultVar → Option (List TV)
  | [] => some []
  | r :: rs => match tres (tload P hp) tm r with
    | some v => (tresAll P hp tm rs).map fun vs => v :: vs
    | none => none
theorem tresAll_sound (hs : St h0 Fz L s tm h) : ∀ (rs : List ResultVar) (ps : List TV), tresAll P s.hp s.tm rs = some ps → ∃ vs, resAll P h tm rs = some vs ∧ VLs Fz h L ps vs
  | [], ps, hp => by obtain rfl := Option.some.inj hp; exact ⟨[], rfl, VLs.nil⟩
  | r :: rs, ps, hp => by
    simp only [tresAll] at hp
    split at hp
    · rename_i p hr
      obtain ⟨ps', h1, rfl⟩ := Option.map_eq_some_iff.1 hp
      obtain ⟨vs, h2, h3⟩ := tresAll_sound hs rs ps' h1
      have : ∃ v, resV P h tm r = some v ∧ VL Fz h L p v := by
        cases r with
        | tmp t =>
          simp only [tres] at hr
          obtain rfl := Option.some.inj hr
          exact ⟨_, rfl, tev_vl hs.tmr (.tmp t)⟩
        | cell a t =>
          simp only [tres] at hr
          obtain ⟨n, o, v, hx, hl, hv⟩ := tload_sound hs (tev_vl hs.tmr (.tmp a)) hr
          refine ⟨v, ?_, hv⟩
          simp only [ev] at hx
          simp only [resV, hx, hl]
      obtain ⟨v, h4, h5⟩ := this
      exact ⟨v :: vs, by simp only [resAll, h4, h2, Option.map_some], VLs.cons h5 h3⟩
    · cases hp
theorem Spec.fn {f : FuncId} {fd : Func} {c : Code} {args : List TV} {r : TS} (hf : P.funcs[f]? = some fd) (hb : fd.body = some c) {tm0 : List TV} (htm : args ++ List.replicate (fd.ntmps - args.length) TV.junk = tm0)
    (hx : TX (lim P) P c ⟨tm0, []⟩ (fun e s => (e = .normal ∨ e = .ret) ∧ ∃ ps, tresAll P s.hp s.tm fd.results.toList = some ps ∧ Wk ⟨[oneT ps], s.hp⟩ r)) (hcov : cov r = true) : Spec (lim P) f args r := by
  intro Fz h vs hfz hargs
  subst htm
  have hs : St h Fz noL ⟨args ++ List.replicate (fd.ntmps - args.length) TV.junk, []⟩ (vs ++ List.replicate (fd.ntmps - vs.length) undef) h := by
    refine ⟨?_, fun n b hb => by simp at hb, fun n hn => by simp [noL] at hn, fun n n' b b' nm hb => by simp at hb, hfz, Ext.refl h⟩
    refine VLs.append hargs ?_
    rw [hargs.len]
    exact VLs.replicate (.junk noL undef) _
  obtain ⟨K, e, a1, h1, w1, hexec, hw, hdf, s1, F1, L1, ⟨he, ps, hps, hwk⟩, g1, hs1⟩ := hx h Fz noL _ h hs
  obtain ⟨vs1, hres, hvs1⟩ := tresAll_sound (P := P) hs1 _ ps hps
  have hs2 : St h F1 L1 ⟨[oneT ps], s1.hp⟩ [oneOf vs1] h1 := ⟨VLs.cons (oneT_vl hvs1) VLs.nil, hs1.blk, hs1.dom, hs1.inj, hs1.fz, hs1.ext⟩
  obtain ⟨F2, L2, g2, hs3⟩ := hwk h F1 L1 _ h1 hs2
  have hm : wmin w1 none = w1 := by cases w1 <;> rfl
  by_cases hcl : isClean (oneOf vs1) = true
  · obtain ⟨L4, hs4⟩ := hs3.clean hcl hcov hfz
    refine ⟨oneOf vs1, h, Fz, L4, lim_runCall (K := K) ?_, Grow.refl _ _, hs4⟩
    unfold runCall
    simp only [hf, hb, hexec]
    have hend : runEnd P fd h.length h a1 h1 w1 = some (oneOf vs1, h, none) := by
      simp only [runEnd, hdf, takeDefers, hres, hcl, if_true, hm, hw]
    rcases he with rfl | rfl <;> exact hend
  · refine ⟨oneOf vs1, h1, F2, L2, lim_runCall (K := K) ?_, g1.trans g2, hs3⟩
    unfold runCall
    simp only [hf, hb, hexec]
    have hend : runEnd P fd h.length h a1 h1 w1 = some (oneOf vs1, h1, none) := by
      simp [runEnd, hdf, takeDefers, hres, hcl, hm, hw]
    rcases he with rfl | rfl <;> exact hend
theorem Spec.weak {f : FuncId} {args : List TV} {r r' : TS} (hs : Spec C f args r) (hw : Wk r r') : Spec C f args r' := by
  intro Fz h vs hfz hargs
  obtain ⟨v, h', F1, L1, hc, g1, hr⟩ := hs Fz h vs hfz hargs
  obtain ⟨F2, L2, g2, hr2⟩ := hw h F1 L1 _ h' hr
  exact ⟨v, h', F2, L2, hc, g1.trans g2, hr2⟩
/-! ### a law: it may call f, which is true -/
theorem Spec.ov {f g : FuncId} {args : List TV} {r : TS} (hs : Spec (lim P) g args r) (hne : g ≠ f) : Spec (over P f) g args r := by
  intro Fz h vs hfz hargs
  obtain ⟨v, h', F1, L1, hc, g1, hr⟩ := hs Fz h vs hfz hargs
  refine ⟨v, h', F1, L1, ?_, g1, hr⟩
  rw [over_call, if_neg (fun hh => hne hh.1)]
  exact hc
theorem Spec.awake {f : FuncId} : Spec (over P f) f [] ⟨[.v (.bool true)], []⟩ := by
  intro Fz h vs hfz hargs
  have : vs = [] := by have := hargs.len; simpa using this
  subst this
  exact ⟨.bool true, h, Fz, noL, by rw [over_call, if_pos ⟨rfl, rfl⟩], Grow.refl _ _, ⟨VLs.cons (.v noL _ rfl) VLs.nil, fun n b hb => by simp at hb, fun n hn => by simp [noL] at hn, fun n n' b b' nm hb => by simp at hb, hfz, Ext.refl h⟩⟩
theorem law_tex (hm : P.follows .mixedOrders = true) {k d : Nat} {f : FuncId} (hv : isTrue (ecall P k d f [] []) = true) {g : FuncId} {fd : Func} {c : Code} {args : List TV} (hf : P.funcs[g]? = some fd) (hb : fd.body = some c)
    {tm0 : List TV} (htm : args ++ List.replicate (fd.ntmps - args.length) TV.junk = tm0)
    (hx : TX (over P f) P c ⟨tm0, []⟩ (fun e s => (e = .normal ∨ e = .ret) ∧ tresAll P s.hp s.tm fd.results.toList = some [.v (.bool true)]))
    {Fz : Nat → Prop} {h : List Blk} {vs : List Value} (hfz : ∀ n, Fz n → n < h.length) (hargs : VLs Fz h noL args vs)
    {B lo : Nat} {D : Nat → Prop} {m : NMap} {w : World} {args' : List Value} (hr : Rel B lo D m h w) (hlo : lo ≤ h.length) (hargs' : VRs D m vs args') : Calls P g ⟨args'⟩ w (fun e w' => e = .returned (.bool true) ∧ Below w.heap.size w w') := by
  refine law_call hm hv hf hb (args := vs) rfl ?_ hr hlo hargs'
  subst htm
  have hs : St h Fz noL ⟨args ++ List.replicate (fd.ntmps - args.length) TV.junk, []⟩ (vs ++ List.replicate (fd.ntmps - vs.length) undef) h := by
    refine ⟨?_, fun n b hb => by simp at hb, fun n hn => by simp [noL] at hn, fun n n' b b' nm hb => by simp at hb, hfz, Ext.refl h⟩
    refine VLs.append hargs ?_
    rw [hargs.len]
    exact VLs.replicate (.junk noL undef) _
  refine (hx h Fz noL _ h hs).mono ?_
  rintro e a' h' ⟨hd, s', F', L', ⟨he, hres⟩, g, hs'⟩
  refine ⟨he, hd, ?_⟩
  obtain ⟨vs1, h1, h2⟩ := tresAll_sound (P := P) hs' _ _ hres
  have hl := h2.len
  match vs1, hl, h1, h2 with
  | [x], _, h1, h2 =>
    have := h2.at' 0 _ x rfl rfl
    exact ⟨[x], h1, by rw [this.bool_inv]; rfl⟩
end
end Go.Rex
