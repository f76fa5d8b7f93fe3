/- An executor of the program's functions on trees of values, proved sound. -/
import Derived.Test.YtojekkfmnnoabaaTexE
set_option linter.unusedSimpArgs false
set_option linter.unusedVariables false
set_option linter.defProp false
namespace Go.Rex
open Go.RowKit
section
variable {P : Program} {Fz : Nat → Prop} {h h0 : List Blk} {L : Nat → LI}
theorem flat_at : ∀ {rows : List (List TV)} {es : Nat}, (∀ r ∈ rows, r.length = es) → ∀ {i j : Nat} {row : List TV}, rows[i]? = some row → j < es → rows.flatten[i * es + j]? = row[j]?
  | [], es, _, i, j, row, hr, _ => by simp at hr
  | r :: rows, es, hw, 0, j, row, hr, hj => by
    simp at hr
    subst hr
    have := hw r (by simp)
    simp only [List.flatten_cons, Nat.zero_mul, Nat.zero_add]
    rw [List.getElem?_append_left (by omega)]
  | r :: rows, es, hw, i + 1, j, row, hr, hj => by
    have h1 := hw r (by simp)
    simp only [List.getElem?_cons_succ] at hr
    simp only [List.flatten_cons]
    rw [List.getElem?_append_right (by rw [h1, Nat.succ_mul]; omega), h1, show (i + 1) * es + j - es = i * es + j by rw [Nat.succ_mul]; omega]
    exact flat_at (fun r hr => hw r (by simp [hr])) hr hj
theorem flat_len : ∀ {rows : List (List TV)} {es : Nat}, (∀ r ∈ rows, r.length = es) → rows.flatten.length = rows.length * es
  | [], es, _ => by simp
  | r :: rows, es, hw => by
    simp only [List.flatten_cons, List.length_append, List.length_cons, Nat.succ_mul]
    rw [hw r (by simp), flat_len (fun r hr => hw r (by simp [hr]))]
    omega

theorem partT_sound {t : TypeId} {l : List TV} {l' : List Value} (hs : VLs Fz h L l l') {o : Nat} {p : TV} (hp : partT P t l o = some p) : ∃ v, partV P t l' o = some v ∧ VL Fz h L p v := by
  unfold partT at hp
  unfold partV
  split at hp
  · rename_i hg
    split at hp
    · rename_i hc
      obtain rfl := Option.some.inj hp
      rw [hg]
      simp only
      rw [if_pos (show (P.info? t).isSome = true from hc.1)]
      exact ⟨_, rfl, .agg' (hs.extract _ _)⟩
    · cases hp
  · rename_i hg
    rw [hg]
    exact hs.at hp
  · cases hp

theorem tpop_sound {hpp : List TB} {tm : List TV} {vm : List Value} (hs : VLs Fz h L tm vm) (hB : ∀ n es rows, hpp[n]? = some (.rows es rows) → (L n).es = es) {o : Oper} {p : TV} (hp : tpop P hpp tm o = some p) : ∃ v, Rex.pop P (ev vm) o = some v ∧ VL Fz h L p v := by
  have hgen : ∀ {p}, tgen P tm o = some p → ∃ v, Rex.pop P (ev vm) o = some v ∧ VL Fz h L p v := fun hp => tgen_sound hs hp
  obtain ⟨dst, op, ty, pos, after, guard⟩ := o
  have ht := fun x => tev_vl hs x
  have hor : ∀ {a b : Option TV} {p}, orT a b = some p → a = some p ∨ b = some p := by
    intro a b p h
    cases a with
    | none => exact .inr h
    | some x => exact .inl h
  cases op <;> simp only [tpop] at hp <;> try exact hgen hp
  case move x => obtain rfl := Option.some.inj hp; exact ⟨_, rfl, ht x⟩
  case assign x => obtain rfl := Option.some.inj hp; exact ⟨_, rfl, ht x⟩
  case pick c a b =>
    unfold tpick at hp
    split at hp
    · rename_i t hc
      have h1 := ht c
      rw [hc] at h1
      have h2 := h1.bool_inv
      simp only [Rex.pop, h2]
      cases t with
      | true => obtain rfl := Option.some.inj hp; exact ⟨_, rfl, ht a⟩
      | false => obtain rfl := Option.some.inj hp; exact ⟨_, rfl, ht b⟩
    · cases hp
  case nilCheck x =>
    have h1 := ht x
    simp only [Rex.pop]
    generalize tev tm x = q at *
    generalize ev vm x = y at *
    split at hp
    · obtain rfl := Option.some.inj hp
      refine ⟨y, ?_, h1⟩
      cases h1; rfl
    · obtain rfl := Option.some.inj hp
      refine ⟨y, ?_, h1⟩
      cases h1; rfl
    · obtain rfl := Option.some.inj hp
      refine ⟨y, ?_, h1⟩
      cases h1; rfl
    · cases hp
  case build t ps =>
    refine tbuild_sound (ps' := mapParts (ev vm) ps) ⟨by simp [mapParts], fun i p p' h1 h2 => ?_⟩ hp
    simp only [mapParts, Array.toList_map, List.getElem?_map] at h1 h2
    cases hq : ps.toList[i]? with
    | none => rw [hq] at h1; cases h1
    | some q =>
      rw [hq] at h1 h2
      simp only [Option.map_some, Option.some.injEq] at h1 h2
      subst h1 h2
      exact ⟨rfl, ht q.2⟩
  case makeFunc fn first caps =>
    cases fn <;> simp only [] at hp <;> try (cases hp; done)
    rename_i f
    split at hp
    · rename_i hc
      simp only [Bool.and_eq_true] at hc
      obtain rfl := Option.some.inj hp
      refine ⟨_, rfl, ?_⟩
      have key : ∀ xs : Array Operand, (xs.toList.all fun x => lf 4 (tev tm x)) = true → VLs Fz h noL (xs.toList.map (tev tm)) (xs.map (ev vm)).toList := by
        intro xs hx
        refine ⟨by simp, fun i p y h1 h2 => ?_⟩
        simp only [Array.toList_map, List.getElem?_map] at h1 h2
        cases hq : xs.toList[i]? with
        | none => rw [hq] at h1; cases h1
        | some q =>
          rw [hq] at h1 h2
          simp only [Option.map_some, Option.some.injEq] at h1 h2
          subst h1 h2
          exact (ht q).toNo 4 (by simpa using List.all_eq_true.1 hx q (List.mem_of_getElem? hq))
      have k1 := key first hc.1
      have k2 := key caps hc.2
      exact .func L f _ _ _ _ k1.len k1.at' k2.len k2.at'
    · cases hp
  case extract t i =>
    split at hp
    · rename_i l hl
      have h1 := ht t
      rw [hl] at h1
      simp only [Rex.pop]
      generalize ev vm t = y at *
      cases h1 with
      | tuple _ _ l' hl' ha =>
        have hi := (List.getElem?_eq_some_iff.1 hp).1
        have hx : l'[i]? = some l'[i] := List.getElem?_eq_getElem (by omega)
        exact ⟨_, hx, ha i p _ hp hx⟩
    · cases hp
  case fieldAddr t x f =>
    unfold tfieldAddr fieldT at hp
    have h1 := ht x
    simp only [Rex.pop, fieldAddrV]
    split at hp
    · rename_i off ft hf
      split at hf
      · rename_i fields hu
        split at hf
        · rename_i fd hfd
          split at hf
          · rename_i hc
            obtain ⟨rfl, rfl⟩ := Prod.mk.inj (Option.some.inj hf)
            generalize tev tm x = q at *
            generalize ev vm x = y at *
            split at hp
            · obtain rfl := Option.some.inj hp
              cases h1 with
              | fptr _ vb row' off' n base es cs hn hb hv hle ha =>
                simp only [hu, hfd]
                rw [if_pos hc]
                exact ⟨_, rfl, by rw [Nat.add_assoc]; exact .fptr L _ _ _ n base es cs hn hb hv hle ha⟩
            · obtain rfl := Option.some.inj hp
              cases h1 with
              | lptr _ n' r' o' nm ok hn =>
                simp only [hu, hfd]
                rw [if_pos hc]
                exact ⟨_, rfl, by rw [Nat.add_assoc]; exact .lptr L _ _ _ nm ok hn⟩
            · cases hp
          · cases hf
        · cases hf
      · cases hf
    · cases hp
  case indexAddr t x ix =>
    unfold tindexAddr at hp
    have h1 := ht x
    have h2 := ht ix
    simp only [Rex.pop, indexAddrV]
    split at hp
    · rename_i k i hix
      rw [hix] at h2
      have h3 := h2.bool_inv
      generalize tev tm x = q at *
      generalize ev vm x = y at *
      split at hp
      · rename_i e he
        unfold sliceOf at he
        split at he
        · rename_i e' hu
          obtain rfl := Option.some.inj he
          split at hp
          · rename_i hok
            split at hp
            · rename_i es rows
              split at hp
              · rename_i hes
                obtain ⟨row, hrow, rfl⟩ := Option.map_eq_some_iff.1 hp
                unfold tidx at hrow
                split at hrow
                · rename_i h0
                  have hlt := (List.getElem?_eq_some_iff.1 hrow).1
                  cases h1 with
                  | nillist => simp at hrow
                  | list _ _ _ n o c cs eb hn hb he hw hc hle ha =>
                    simp only [hu, h3]
                    rw [if_pos ⟨h0, by omega, hok⟩]
                    have hrl := hw row (List.mem_of_getElem? hrow)
                    refine ⟨_, rfl, ?_⟩
                    rw [hes]
                    have hmul : i.toNat * es + es ≤ rows.length * es := by rw [← Nat.succ_mul]; exact Nat.mul_le_mul_right _ hlt
                    have := VL.fptr (Fz := Fz) (h := h) L false row 0 n (o + i.toNat * es) eb cs hn hb (fun h => by cases h) (by omega) (fun j p x hj hx => by
                      have hjl := (List.getElem?_eq_some_iff.1 hj).1
                      refine ha (i.toNat * es + j) p x ?_ (by rw [← Nat.add_assoc]; exact hx)
                      rw [flat_at hw hrow (by omega)]; exact hj)
                    simpa using this
                · cases hrow
              · cases hp
            · rename_i n o len
              split at hp
              · rename_i es rows hbn
                split at hp
                · rename_i hi
                  obtain rfl := Option.some.inj hp
                  cases h1 with
                  | lslnil => simp at hi; omega
                  | lsl _ _ _ _ nm ok hn hle =>
                    simp only [hu, h3]
                    rw [if_pos ⟨hi.1, hi.2.1, hok⟩]
                    refine ⟨_, rfl, ?_⟩
                    have he := hB _ _ _ hbn
                    have := VL.lptr (Fz := Fz) (h := h) L n (o + i.toNat) 0 nm ok hn
                    rw [he] at this ⊢
                    rw [hi.2.2, ← Nat.add_mul]
                    exact this
                · cases hp
              · cases hp
            · cases hp
          · cases hp
        · cases he
      · rename_i he
        split at hp
        · rename_i n e ha
          unfold arrayOf at ha
          split at ha
          · rename_i n' e' hu
            obtain ⟨rfl, rfl⟩ := Prod.mk.inj (Option.some.inj ha)
            split at hp
            · rename_i hi
              split at hp
              · obtain rfl := Option.some.inj hp
                cases h1 with
                | fptr _ _ row off' nn base es cs hn hb hv hle hh =>
                  simp only [hu, h3]
                  rw [if_pos (show 0 ≤ i ∧ i < ((n' : Nat) : Int) ∧ (P.info? e').isSome = true from hi)]
                  exact ⟨_, rfl, by rw [Nat.add_assoc]; exact .fptr L _ _ _ nn base es cs hn hb hv hle hh⟩
              · obtain rfl := Option.some.inj hp
                cases h1 with
                | lptr _ nn r o nm ok hn =>
                  simp only [hu, h3]
                  rw [if_pos (show 0 ≤ i ∧ i < ((n' : Nat) : Int) ∧ (P.info? e').isSome = true from hi)]
                  exact ⟨_, rfl, by rw [Nat.add_assoc]; exact .lptr L _ _ _ nm ok hn⟩
              · cases hp
            · cases hp
          · cases ha
        · cases hp
    · cases hp
  case field t x f =>
    unfold tfield fieldT at hp
    have h1 := ht x
    simp only [Rex.pop, fieldV]
    split at hp
    · rename_i off ft row hf hx
      rw [hx] at h1
      generalize ev vm x = y at *
      split at hf
      · rename_i fields hu
        split at hf
        · rename_i fd hfd
          split at hf
          · rename_i hc
            obtain ⟨rfl, rfl⟩ := Prod.mk.inj (Option.some.inj hf)
            cases h1 with
            | agg _ _ l' hl ha =>
              simp only [hu, hfd]
              exact partT_sound ⟨hl, ha⟩ hp
          · cases hf
        · cases hf
      · cases hf
    · cases hp
  case index t x ix =>
    rcases hor hp with hp | hp
    · unfold tindex at hp
      have h1 := ht x
      have h2 := ht ix
      split at hp
      · rename_i n e row k i ha hx hix
        rw [hx] at h1
        rw [hix] at h2
        have h3 := h2.bool_inv
        split at hp
        · rename_i hi
          unfold arrayOf at ha
          split at ha
          · rename_i n' e' hu
            obtain ⟨rfl, rfl⟩ := Prod.mk.inj (Option.some.inj ha)
            simp only [Rex.pop, h3]
            generalize ev vm x = y at *
            cases h1 with
            | agg _ _ l' hl hh =>
              obtain ⟨v, h4, h5⟩ := partT_sound (P := P) ⟨hl, hh⟩ hp
              refine ⟨v, ?_, h5⟩
              simp only [indexV, hu]
              rw [if_pos (show 0 ≤ i ∧ i < ((n' : Nat) : Int) ∧ (P.info? e').isSome = true from hi), h4]
              rfl
          · cases ha
        · cases hp
      · cases hp
    · exact hgen hp
  case call c =>
    obtain ⟨callee, args, tys⟩ := c
    cases callee with
    | builtin b =>
      simp only at hp
      split at hp
      · rename_i hb
        subst hb
        split at hp
        · rename_i x hxs
          rcases hor hp with hp | hp
          · unfold tlen at hp
            have h1 := ht x
            split at hp
            · cases hp
            · rename_i t htt
              split at hp
              · cases hp
              · rename_i e he
                unfold sliceOf at he
                split at he
                · rename_i e' hu
                  simp only [Rex.pop, bpop, if_true, hxs]
                  generalize tev tm x = q at *
                  generalize ev vm x = y at *
                  split at hp
                  · obtain rfl := Option.some.inj hp
                    cases h1 with
                    | nillist => exact ⟨.int .i64 0, by simp [lenV, htt, hu, orGen], .v L _ rfl⟩
                    | list _ _ _ n o c cs eb hn hb he hw hc hle ha => exact ⟨_, by simp only [lenV, htt, hu, orGen], .v L _ rfl⟩
                  · obtain rfl := Option.some.inj hp
                    cases h1 with
                    | lslnil => exact ⟨.int .i64 0, by simp [lenV, htt, hu, orGen], .v L _ rfl⟩
                    | lsl _ _ _ _ nm ok hn hle => exact ⟨_, by simp only [lenV, htt, hu, orGen], .v L _ rfl⟩
                  · cases hp
                · cases he
          · exact hgen hp
        · cases hp
      · exact hgen hp
    | _ => cases hp
  case binOp op t x y u =>
    rcases hor hp with hp | hp
    · unfold tbin at hp
      split at hp
      · rename_i a b hx hy
        obtain ⟨r, hr, rfl⟩ := Option.map_eq_some_iff.1 hp
        have h1 := ht x
        have h2 := ht y
        rw [hx] at h1
        rw [hy] at h2
        have e1 := h1.bool_inv
        have e2 := h2.bool_inv
        refine ⟨r, by simp [Rex.pop, e1, e2, hr, orGen], .v L r ?_⟩
        unfold fastBin at hr
        split at hr
        · split at hr
          · cases op <;> simp only [] at hr <;> first
              | (cases hr; done)
              | (obtain rfl := Option.some.inj hr; rfl)
              | (split at hr
                 · cases hr
                 · obtain rfl := Option.some.inj hr; rfl)
          · cases hr
        · cases hr
      · cases hp
    · exact hgen hp
  all_goals first | (cases hp; done) | exact hgen hp

theorem St.es {s : TS} {tm : List Value} (hs : St h0 Fz L s tm h) : ∀ n es rows, s.hp[n]? = some (.rows es rows) → (L n).es = es := fun n _ _ hb => (hs.blk n _ hb).2.1
theorem OpP.of {o : Oper} {s : TS} {p : TV} (hp : tpop P s.hp s.tm o = some p) : OpP P o s ⟨tput s.tm o.dst p, s.hp⟩ := by
  intro h0 Fz L tm h hs
  obtain ⟨v, h1, h2⟩ := tpop_sound hs.tmr hs.es hp
  exact ⟨v, h1, Fz, L, Grow.refl _ _, hs.put o.dst h2⟩
end
end Go.Rex
