/- An executor of the program's functions on trees of values, proved sound. -/
import Derived.Test.YtjlembaicmibhaaRexG8
set_option linter.unusedSimpArgs false
set_option linter.unusedVariables false
set_option linter.defProp false
namespace Go.Rex
open Go.RowKit
section
variable {C : Ctx} {P : Program} {Fz : Nat → Prop} {h h0 : List Blk} {L : Nat → LI} {s : TS} {tm : List Value}
variable {dst : Option Tmp} {ty : TypeId} {pos : String} {aft : Array Edge} {gd : Option (Nat × Bool)}

/-- what names a block is forgotten -/
theorem St.kills (n : Nat) (hs : St h0 Fz L s tm h) : St h0 Fz L ⟨s.tm.map (kill n 4), s.hp.map (killB n)⟩ tm h := by
  have hk : ∀ m, m ≠ n → L m = L m := fun _ _ => rfl
  have hmap : ∀ (l : List TV) (x : List Value), VLs Fz h L l x → VLs Fz h L (l.map (kill n 4)) x := by
    intro l x hx
    refine ⟨by simp [hx.len], fun i p y hp hy => ?_⟩
    rw [List.getElem?_map] at hp
    cases hq : l[i]? with
    | none => rw [hq] at hp; cases hp
    | some q => rw [hq] at hp; obtain rfl := Option.some.inj hp; exact (hx.at' i q y hq hy).kill hk 4
  have g : ∀ (k : Nat) (c : TB), (s.hp.map (killB n))[k]? = some c → ∃ b0 : TB, s.hp[k]? = some b0 ∧ c = killB n b0 := by
    intro k c hk'
    rw [List.getElem?_map] at hk'
    cases hq : s.hp[k]? with
    | none => rw [hq] at hk'; cases hk'
    | some b0 => rw [hq] at hk'; exact ⟨b0, rfl, (Option.some.inj hk').symm⟩
  refine ⟨hmap _ _ hs.tmr, ?_, fun k hk' => by simpa using hs.dom k hk', ?_, hs.fz, hs.ext⟩
  · intro k c hc
    obtain ⟨b0, h1, rfl⟩ := g k c hc
    have hB := hs.blk k b0 h1
    cases b0 with
    | dead => trivial
    | rows es' rows' => exact hB
    | var row =>
      obtain ⟨q1, nm', cs', e1, e2, e3, e4, e5⟩ := hB
      exact ⟨q1, nm', cs', e1, e2, e3, e4, hmap _ _ e5⟩
  · intro k k' c c' x h1 h2 l1 l2 e1 e2
    obtain ⟨b1, g1, rfl⟩ := g k c h1
    obtain ⟨b2, g2, rfl⟩ := g k' c' h2
    have lv : ∀ b : TB, (killB n b).live = true → b.live = true := fun b hb => by cases b <;> first | rfl | exact hb
    exact hs.inj k k' b1 b2 x g1 g2 (lv b1 l1) (lv b2 l2) e1 e2

/-- an append for which there is room -/
theorem OpW.appIn {x y : Operand} {t0 t1 e : TypeId} {tys : List TypeId} {n len es : Nat} {rows new : List (List TV)} {z : List Value} (hx : tev s.tm x = .lsl n 0 len) (hb : s.hp[n]? = some (.rows es rows)) (hy : tev s.tm y = .list es new)
    (hsl : sliceOf P t0 = some e) (hni : notInt P (some t1) = true) (hz : zeroC P e = some z) (hes : z.length = es) (hle : len + new.length ≤ rows.length) (hw : ∀ r ∈ new, r.length = es) (hone : ∀ r ∈ new, r.all tone = true) (hlf : ∀ r ∈ new, r.all (lf 4) = true) :
    OpW C P { dst := dst, op := .call { callee := .builtin .append, args := #[x, y], argTypes := ⟨t0 :: t1 :: tys⟩ }, type := ty, pos := pos, after := aft, guard := gd } s
      ⟨tput (s.tm.map (kill n 4)) dst (.lsl n 0 (len + new.length)), (s.hp.map (killB n)).set n (.rows es (rows.take len ++ (new ++ rows.drop (len + new.length))))⟩ := by
  intro h0 Fz L tm h hs
  have hvx := tev_vl hs.tmr x
  have hvy := tev_vl hs.tmr y
  rw [hx] at hvx
  rw [hy] at hvy
  obtain ⟨q1, q2, q3, q4, q5⟩ := hs.blk n _ hb
  rcases q5 with ⟨qn, rfl⟩ | ⟨nm, cs, e1, e2, e3, e4, e5⟩
  · -- nowhere: nothing is appended
    have h1 : new = [] := by
      have : new.length = 0 := by rw [List.length_nil] at hle; omega
      exact List.length_eq_zero_iff.1 this
    have h2 : len = 0 := by rw [List.length_nil] at hle; omega
    subst h1 h2
    have := OpW.append (C := C) (P := P) (s := s) (dst := dst) (ty := ty) (pos := pos) (aft := aft) (gd := gd) (tys := tys) hx hb rfl hy hsl hni hz hes ⟨by simp, by simp⟩ hw hone hlf h0 Fz L tm h hs
    simpa using this
  · obtain ⟨i, z0, hi, hz0, hcl, hzz, hsz, hat⟩ := zeroC_parts hz
    have hszi : i.size = es := by omega
    have hu : P.underlying t0 = some (.slice e) := by
      unfold sliceOf at hsl
      split at hsl
      · rename_i e' hu; rw [hu]; exact congrArg some (congrArg TypeDesc.slice (Option.some.inj hsl))
      · cases hsl
    have hxop : ∀ (v : Value) (h1 : List Blk) (w1 : Option Nat), appendV P ⟨t0 :: t1 :: tys⟩ (ev tm x) (ev tm y) h = some (v, h1, w1) →
        xop C P (ev tm) { dst := dst, op := .call { callee := .builtin .append, args := #[x, y], argTypes := ⟨t0 :: t1 :: tys⟩ }, type := ty, pos := pos, after := aft, guard := gd } h = some (v, h1, w1) := by
      intro v h1 w1 hv
      simp only [xop, hop, bhop, if_true, hv]
    have hsrc : ∃ c, srcCells h i.size (ev tm y) = some (new.length, c) ∧ c.length = new.length * es ∧ VLs Fz h noL new.flatten c := by
      rw [hszi]
      generalize ev tm y = vy at *
      cases hvy with
      | nillist => exact ⟨[], rfl, by simp, VLs.nil⟩
      | vague => exact ⟨[], rfl, by simp, VLs.nil⟩
      | list _ _ _ m o c cs eb hn' hb' he' hw' hc' hle' ha' =>
        refine ⟨(cs.drop o).take (new.length * es), ?_, by simp; omega, ?_⟩
        · simp only [srcCells, readCells, hb']
          rw [if_pos hle']
          rfl
        · have := VLs.seg (Fz := Fz) (h := h) (L := noL) (l := new.flatten) (cs := cs) (b := o) (by rw [flat_len hw']; exact hle') ha'
          rwa [flat_len hw'] at this
    obtain ⟨c, hc1, hc2, hc3⟩ := hsrc
    have hcl1 : c.all (·.oneCell') = true := tones hc3 (by
      rw [List.all_eq_true]
      intro p hp
      simp only [List.mem_flatten] at hp
      obtain ⟨r, hr, hp⟩ := hp
      exact List.all_eq_true.1 (hone r hr) p hp)
    have hcs : cs.length = rows.length * es := by rw [e5.len, flat_len q4]
    have hvx' : ev tm x = .slice (some ⟨nm, 0, none⟩) len rows.length := by
      rw [hvx.lsl_some e1, q3]; simp
    have hpop : Rex.pop P (ev tm) { dst := dst, op := .call { callee := .builtin .append, args := #[x, y], argTypes := ⟨t0 :: t1 :: tys⟩ }, type := ty, pos := pos, after := aft, guard := gd } = none := by
      have e : Rex.pop P (ev tm) { dst := dst, op := .call { callee := .builtin .append, args := #[x, y], argTypes := ⟨t0 :: t1 :: tys⟩ }, type := ty, pos := pos, after := aft, guard := gd } = genP P (ev tm) { dst := dst, op := .call { callee := .builtin .append, args := #[x, y], argTypes := ⟨t0 :: t1 :: tys⟩ }, type := ty, pos := pos, after := aft, guard := gd } := rfl
      rw [e]
      unfold genP
      simp only
      rw [if_neg]
      rw [show (Op.call { callee := .builtin .append, args := #[x, y], argTypes := ⟨t0 :: t1 :: tys⟩ }).operands.toList = [x, y] by simp [Op.operands, Call.operands]]
      simp [hvx', show isClean (.slice (some ⟨nm, 0, none⟩) len rows.length) = false from rfl]
    have hsk := hs.kills n
    have hbk : (s.hp.map (killB n))[n]? = some (.rows es rows) := by rw [List.getElem?_map, hb]; rfl
    by_cases hn0 : new.length = 0
    · have hnew : new = [] := List.length_eq_zero_iff.1 hn0
      subst hnew
      have hce : c = [] := by simpa using hc2
      subst hce
      refine .inr ⟨hpop, .slice (some ⟨nm, 0, none⟩) len rows.length, h, none, hxop _ _ _ (by
        unfold appendV
        simp only [List.getElem?_toArray, List.getElem?_cons_zero, List.getElem?_cons_succ, hu, hi, hni, if_true, hc1, hvx']
        rfl), .inl ⟨rfl, Ext.refl h⟩, Fz, L, Grow.refl _ _, ?_⟩
      have e1' : (s.hp.map (killB n)).set n (.rows es (rows.take len ++ (([] : List (List TV)) ++ rows.drop (len + ([] : List (List TV)).length)))) = s.hp.map (killB n) := by
        rw [List.length_nil, Nat.add_zero, List.nil_append, List.take_append_drop]
        apply List.ext_getElem?
        intro k
        rw [List.getElem?_set]
        split
        · rename_i e; subst e
          split
          · rw [hbk]
          · rename_i hlt; exact absurd (List.getElem?_eq_some_iff.1 hbk).1 hlt
        · rfl
      rw [e1']
      refine hsk.put dst ?_
      have := VL.lsl (Fz := Fz) (h := h) L n 0 len nm q1 e1 (by rw [q3]; simp at hle; omega)
      rw [q3] at this
      simpa using this
    · have hmul : len * es + new.length * es ≤ rows.length * es := by rw [← Nat.add_mul]; exact Nat.mul_le_mul_right _ hle
      have hfit : len * es + c.length ≤ cs.length := by omega
      refine .inr ⟨hpop, .slice (some ⟨nm, 0, none⟩) (len + new.length) rows.length, h.set nm (.cells es (splice cs (len * es) c)), some nm, hxop _ _ _ (by
        unfold appendV
        simp only [List.getElem?_toArray, List.getElem?_cons_zero, List.getElem?_cons_succ, hu, hi, hni, if_true, hc1, hvx']
        rw [if_neg hn0, if_pos hle]
        simp only [writeBlk, e4, Nat.zero_add, hszi]
        rw [if_pos ⟨hfit, hcl1⟩]
        rfl), .inr ⟨nm, rfl, e2, (List.getElem?_eq_some_iff.1 e4).1, by simp⟩, Fz, L, Grow.set e3, ?_⟩
      have hwn : ∀ r ∈ rows.take len ++ (new ++ rows.drop (len + new.length)), r.length = es := fun r hr => by
        rcases List.mem_append.1 hr with hr | hr
        · exact q4 r (List.mem_of_mem_take hr)
        · rcases List.mem_append.1 hr with hr | hr
          · exact hw r hr
          · exact q4 r (List.mem_of_mem_drop hr)
      have hfl : (rows.take len ++ (new ++ rows.drop (len + new.length))).flatten = rows.flatten.take (len * es) ++ (new.flatten ++ rows.flatten.drop ((len + new.length) * es)) := by
        rw [List.flatten_append, List.flatten_append, flat_take q4, flat_drop q4]
      have hst := hsk.write (n := n) (nm := nm) (es := es) (b := .rows es rows) (b' := .rows es (rows.take len ++ (new ++ rows.drop (len + new.length)))) (cs := cs) (cs' := splice cs (len * es) c) hbk rfl e1 e4 e2 e3
        ⟨q1, q2, by rw [q3]; simp; omega, hwn, .inr ⟨nm, _, e1, e2, e3, by rw [List.getElem?_set_self (List.getElem?_eq_some_iff.1 e4).1], by
          rw [hfl]
          have hmono : VLs Fz (h.set nm (.cells es (splice cs (len * es) c))) noL rows.flatten cs := e5.mono (fun _ h => h) fun k hk => by
            rw [List.getElem?_set_ne]; rintro rfl; exact e3 hk
          have hmono2 : VLs Fz (h.set nm (.cells es (splice cs (len * es) c))) noL new.flatten c := hc3.mono (fun _ h => h) fun k hk => by
            rw [List.getElem?_set_ne]; rintro rfl; exact e3 hk
          have a1 := hmono.extract 0 (len * es)
          have a2 := hmono.extract ((len + new.length) * es) (cs.length)
          rw [List.drop_zero, List.drop_zero] at a1
          have t1 : (rows.flatten.drop ((len + new.length) * es)).take cs.length = rows.flatten.drop ((len + new.length) * es) := List.take_of_length_le (by rw [List.length_drop, ← e5.len]; omega)
          have t2 : (cs.drop ((len + new.length) * es)).take cs.length = cs.drop ((len + new.length) * es) := List.take_of_length_le (by simp)
          rw [t1, t2] at a2
          have hsp : splice cs (len * es) c = cs.take (len * es) ++ (c ++ cs.drop ((len + new.length) * es)) := by
            unfold splice
            rw [List.append_assoc, show len * es + c.length = (len + new.length) * es by rw [hc2, Nat.add_mul]]
          have h9 := a1.append (hmono2.append a2)
          rw [← hsp] at h9
          exact h9⟩⟩
      refine hst.put dst ?_
      have := VL.lsl (Fz := Fz) (h := h.set nm (.cells es (splice cs (len * es) c))) L n 0 (len + new.length) nm q1 e1 (by rw [q3]; omega)
      rw [q3] at this
      simpa using this

theorem cells_clean {v : Value} (hv : isClean v = true) : ∀ x ∈ v.cells.toList, ∃ d, clean d x = true := by
  intro x hx
  have one : v.cells = #[v] → ∃ d, clean d x = true := fun h => by
    rw [h] at hx
    have hx : x = v := by simpa using hx
    subst hx
    exact ⟨depth, hv⟩
  cases v with
  | agg c =>
    obtain ⟨c⟩ := c
    unfold isClean at hv
    generalize depth = d at hv
    cases d with
    | zero => simp [clean] at hv
    | succ d =>
      simp only [clean] at hv
      exact ⟨d, List.all_eq_true.1 hv x hx⟩
  | _ => exact one rfl
/-- zeros at no slice -/
theorem OpG.appz {x y : Operand} {t0 t1 e : TypeId} {tys : List TypeId} {k : IntKind} {l : Int} {z : List Value} (hx : tev s.tm x = .v (.slice none 0 0)) (hy : tev s.tm y = .v (.int k l))
    (hsl : sliceOf P t0 = some e) (hni : isIntT P (some t1) = true) (hz : zeroC P e = some z) (h0l : 0 < l) (hll : l ≤ 2 ^ 40) (hlb : l.toNat * bytesT P e ≤ 140737488355328) (hz0 : z ≠ []) :
    OpG C P { dst := dst, op := .call { callee := .builtin .append, args := #[x, y], argTypes := ⟨t0 :: t1 :: tys⟩ }, type := ty, pos := pos, after := aft, guard := gd } s
      ⟨tput s.tm dst (.lsl s.hp.length 0 l.toNat), s.hp ++ [.rows z.length (List.replicate l.toNat (z.map .v))]⟩ := by
  intro h0 Fz L tm h hs
  have hvx := (hx ▸ tev_vl hs.tmr x : VL Fz h L (.v (.slice none 0 0)) (ev tm x)).bool_inv
  have hvy := (hy ▸ tev_vl hs.tmr y : VL Fz h L (.v (.int k l)) (ev tm y)).bool_inv
  obtain ⟨i, z0, hi, hz0', hcl, hzz, hsz, hat⟩ := zeroC_parts hz
  have hu : P.underlying t0 = some (.slice e) := by
    unfold sliceOf at hsl
    split at hsl
    · rename_i e' hu; rw [hu]; exact congrArg some (congrArg TypeDesc.slice (Option.some.inj hsl))
    · cases hsl
  have hb : bytesT P e = i.bytes := by simp [bytesT, hi]
  rw [hb] at hlb
  have hwrap : IntKind.i64.wrap l = l := IntWalk.i64_in _ (by omega)
  have hni' : notInt P (some t1) = false := by
    unfold isIntT at hni
    simp only at hni
    split at hni
    · rename_i hq; simp [notInt, hq]
    · cases hni
  have hsz0 : z0.cells.size = i.size := by rw [← hzz] at hsz; simpa using hsz
  have hpos : 0 < i.size := by
    rw [← hsz]
    exact List.length_pos_iff.2 hz0
  have hall : z0.cells.all isClean = true := by
    rw [Array.all_eq_true]
    intro j hj
    have hm : z0.cells[j] ∈ z := by rw [← hzz]; exact Array.getElem_mem_toList hj
    have ha := hat _ hm
    have hc : ∃ d, clean d z0.cells[j] = true := cells_clean hcl _ (Array.getElem_mem_toList hj)
    obtain ⟨d, hc⟩ := hc
    generalize z0.cells[j] = v at *
    cases v with
    | func f a b =>
      cases f with
      | yield n => cases d <;> simp [clean] at hc
      | _ => simp [isAtom] at ha
    | agg => simp [isAtom] at ha
    | tuple => simp [isAtom] at ha
    | _ => exact ha
  have hzc : (Builtin.zeroCells z0.cells l.toNat).toList = (List.replicate l.toNat z).flatten := by
    have := zeroRow_rep hzz l.toNat
    rw [← hzz, Array.length_toList] at this
    rw [← hzz]
    exact this
  have hap : appendV P ⟨t0 :: t1 :: tys⟩ (ev tm x) (ev tm y) h = some (.slice (some ⟨h.length, 0, none⟩) l.toNat l.toNat, h ++ [.cells z.length (List.replicate l.toNat z).flatten], none) := by
    unfold appendV
    simp only [List.getElem?_toArray, List.getElem?_cons_zero, List.getElem?_cons_succ, hu, hi, hni', hvx, hvy, appendZ, hz0']
    rw [if_neg (by simp), if_pos ⟨hni, hwrap, h0l, hll, hlb, hsz0, hpos, hall⟩, hzc, hsz]
  have hfl : VLs Fz h noL (List.replicate l.toNat (z.map TV.v)).flatten (List.replicate l.toNat z).flatten := by
    have := atoms_vl (Fz := Fz) (h := h) (L := noL) (z := (List.replicate l.toNat z).flatten) (fun x hx => by
      simp only [List.mem_flatten, List.mem_replicate] at hx
      obtain ⟨q, ⟨_, rfl⟩, hx⟩ := hx
      exact hat x hx)
    rwa [List.map_flatten, List.map_replicate] at this
  have hpop : Rex.pop P (ev tm) { dst := dst, op := .call { callee := .builtin .append, args := #[x, y], argTypes := ⟨t0 :: t1 :: tys⟩ }, type := ty, pos := pos, after := aft, guard := gd } = none := by
    cases hp : Rex.pop P (ev tm) { dst := dst, op := .call { callee := .builtin .append, args := #[x, y], argTypes := ⟨t0 :: t1 :: tys⟩ }, type := ty, pos := pos, after := aft, guard := gd } with
    | none => rfl
    | some v =>
      exfalso
      have e : genP P (ev tm) { dst := dst, op := .call { callee := .builtin .append, args := #[x, y], argTypes := ⟨t0 :: t1 :: tys⟩ }, type := ty, pos := pos, after := aft, guard := gd } = some v := hp
      unfold genP at e
      simp only at e
      split at e
      · split at e
        · rename_i v0 hp0
          have r1 := prun_run hp0 (⟨#[], fun _ _ => 0, 0, default, #[]⟩ : World)
          obtain ⟨cap, _, r2⟩ := append_zero_run (P := P) (ty := ty) (argTypes := ⟨t0 :: t1 :: tys⟩) (k := k) (w := (⟨#[], fun _ _ => 0, 0, default, #[]⟩ : World)) rfl hu hi hni hwrap h0l hll hlb hz0' hpos
          have ee : execOp (ev tm) { dst := dst, op := .call { callee := .builtin .append, args := #[x, y], argTypes := ⟨t0 :: t1 :: tys⟩ }, type := ty, pos := pos, after := aft, guard := gd } = (do pure (.value (← Builtin.append_ ⟨t0 :: t1 :: tys⟩ ty #[ev tm x, ev tm y]))) := by
            simp only [execOp, resolve, invoke, List.map_toArray, List.map_cons, List.map_nil]
            rfl
          rw [ee, hvx, hvy] at r1
          simp only [Sem.run_bind, r2, Result.andThen_ok, Sem.run_pure] at r1
          injection r1 with _ r1
          have := congrArg (fun w => w.heap.size) r1
          simp [World.alloc] at this
        · cases e
      · cases e
  refine ⟨hpop, .slice (some ⟨h.length, 0, none⟩) l.toNat l.toNat, _, ?_, Ext.app h [.cells z.length (List.replicate l.toNat z).flatten], Fz, newL L s.hp.length h.length z.length (List.replicate l.toNat (z.map TV.v)).length, Grow.ext hs.fz (Ext.app _ _), ?_⟩
  · simp only [xop, hop, bhop, if_true, hap]
  · refine (hs.new (newRowsBR hs (fun r hr => ?_) hfl)).put dst ?_
    · rw [List.mem_replicate] at hr
      rw [hr.2]; simp
    · have := newL_sl (Fz := Fz) (h := h ++ [.cells z.length (List.replicate l.toNat z).flatten]) (L := L) (k := s.hp.length) (nm := h.length) (es := z.length) (tot := (List.replicate l.toNat (z.map TV.v)).length) (len := l.toNat) (by simp)
      simpa using this
end

/-! ### as they are used -/
def ainI {α : Type} (xs : List α) (len : Nat) (ys : List α) : Option (List α × Nat) := if len + ys.length ≤ xs.length then some (xs.take len ++ (ys ++ xs.drop (len + ys.length)), len + ys.length) else none
def mzI {α : Type} (bytes : Nat) (n : Int) (z : α) : Option (List α) := if 0 < n ∧ n ≤ 2 ^ 40 ∧ n.toNat * bytes ≤ 140737488355328 then some (List.replicate n.toNat z) else none
def cutI {α : Type} (xs : List α) (k : Int) : Option Nat := if 0 ≤ k ∧ k ≤ xs.length ∧ 0 < xs.length then some k.toNat else none
section
variable {C : Ctx} {P : Program} {ops : Array Oper} {rest : List Oper} {tm tm2 : List TV} {hp hp2 : List TB} {Q : TS → Prop} {o : Oper}
variable {dst : Option Tmp} {ty : TypeId} {pos : String} {aft : Array Edge} {gd : Option (Nat × Bool)} {p q : TV} {ms : List Nat} {i : Nat} {np : List Nat} {c : Bool}
theorem anW {α : Type} {x y : Operand} {t0 t1 e : TypeId} {tys : List TypeId} {n len es : Nat} {xs ys : List α} {f : α → List TV} {z : List Value} {new : List (List TV)} {xy : List α} {m : Nat} (hx : tev tm x = .lsl n 0 len) (hb : hp[n]? = some (.rows es (xs.map f))) (hy : tev tm y = .list es new) (hnew : new = ys.map f) (hsl : sliceOf P t0 = some e) (hni : notInt P (some t1) = true) (hz : zeroC P e = some z) (hes : z.length = es) (hap : ainI xs len ys = some (xy, m)) (hff : ∀ a, (f a).length = es ∧ (f a).all tone = true ∧ (f a).all (lf 4) = true) :
    OpW C P { dst := dst, op := .call { callee := .builtin .append, args := #[x, y], argTypes := ⟨t0 :: t1 :: tys⟩ }, type := ty, pos := pos, after := aft, guard := gd } ⟨tm, hp⟩ ⟨tput (tm.map (kill n 4)) dst (.lsl n 0 m), (hp.map (killB n)).set n (.rows es (xy.map f))⟩ := by
  unfold ainI at hap
  split at hap
  · rename_i hl
    obtain ⟨rfl, rfl⟩ := Prod.mk.inj (Option.some.inj hap)
    subst hnew
    have := OpW.appIn (C := C) (P := P) (s := ⟨tm, hp⟩) (dst := dst) (ty := ty) (pos := pos) (aft := aft) (gd := gd) (x := x) (y := y) (t0 := t0) (t1 := t1) (e := e) (tys := tys) (n := n) (len := len) (es := es) (rows := xs.map f) (new := ys.map f) (z := z) hx hb hy hsl hni hz hes (by simpa using hl)
      (fun r hr => by obtain ⟨a, _, rfl⟩ := List.mem_map.1 hr; exact (hff a).1) (fun r hr => by obtain ⟨a, _, rfl⟩ := List.mem_map.1 hr; exact (hff a).2.1) (fun r hr => by obtain ⟨a, _, rfl⟩ := List.mem_map.1 hr; exact (hff a).2.2)
    simpa [List.map_take, List.map_drop] using this
  · cases hap
theorem TO.an {α : Type} {x y : Operand} {t0 t1 e : TypeId} {tys : List TypeId} {n len es : Nat} {xs ys : List α} {f : α → List TV} {z : List Value} {new : List (List TV)} {xy : List α} {m : Nat} (hw : twant ops tm { dst := dst, op := .call { callee := .builtin .append, args := #[x, y], argTypes := ⟨t0 :: t1 :: tys⟩ }, type := ty, pos := pos, after := aft, guard := gd } = some true) (hx : tev tm x = .lsl n 0 len) (hb : hp[n]? = some (.rows es (xs.map f))) (hy : tev tm y = .list es new) (hnew : new = ys.map f) (hsl : sliceOf P t0 = some e) (hni : notInt P (some t1) = true) (hz : zeroC P e = some z) (hes : z.length = es) (hap : ainI xs len ys = some (xy, m)) (hff : ∀ a, (f a).length = es ∧ (f a).all tone = true ∧ (f a).all (lf 4) = true)
    (ht : tput (tm.map (kill n 4)) dst (.lsl n 0 m) = tm2) (hh2 : (hp.map (killB n)).set n (.rows es (xy.map f)) = hp2) (hq : TO C P ops rest ⟨tm2, hp2⟩ Q) : TO C P ops ({ dst := dst, op := .call { callee := .builtin .append, args := #[x, y], argTypes := ⟨t0 :: t1 :: tys⟩ }, type := ty, pos := pos, after := aft, guard := gd } :: rest) ⟨tm, hp⟩ Q := by
  subst ht hh2
  exact TO.w hw (anW hx hb hy hnew hsl hni hz hes hap hff) hq
theorem TD.an {α : Type} {x y : Operand} {t0 t1 e : TypeId} {tys : List TypeId} {n len es : Nat} {xs ys : List α} {f : α → List TV} {z : List Value} {new : List (List TV)} {xy : List α} {m : Nat} (hw : twant ops tm { dst := dst, op := .call { callee := .builtin .append, args := #[x, y], argTypes := ⟨t0 :: t1 :: tys⟩ }, type := ty, pos := pos, after := aft, guard := gd } = some true) (hx : tev tm x = .lsl n 0 len) (hb : hp[n]? = some (.rows es (xs.map f))) (hy : tev tm y = .list es new) (hnew : new = ys.map f) (hsl : sliceOf P t0 = some e) (hni : notInt P (some t1) = true) (hz : zeroC P e = some z) (hes : z.length = es) (hap : ainI xs len ys = some (xy, m)) (hff : ∀ a, (f a).length = es ∧ (f a).all tone = true ∧ (f a).all (lf 4) = true) (hnp : np.all (fun j => (nthN ms i).testBit j) = true)
    (ht : tput (tm.map (kill n 4)) dst (.lsl n 0 m) = tm2) (hh2 : (hp.map (killB n)).set n (.rows es (xy.map f)) = hp2) (hq : TD C P ops ms rest (i + 1) (i :: np) true ⟨tm2, hp2⟩ Q) : TD C P ops ms ({ dst := dst, op := .call { callee := .builtin .append, args := #[x, y], argTypes := ⟨t0 :: t1 :: tys⟩ }, type := ty, pos := pos, after := aft, guard := gd } :: rest) i np c ⟨tm, hp⟩ Q := by
  subst ht hh2
  exact TD.w hw (anW hx hb hy hnew hsl hni hz hes hap hff) hnp hq
theorem azG {α : Type} {f : α → List TV} {z0 : α} {xs : List α} {t0 t1 e : TypeId} {tys : List TypeId} {x y : Operand} {k : IntKind} {n : Int} {z : List Value} {es by' : Nat} (hm : mzI by' n z0 = some xs) (hx : tev tm x = .v (.slice none 0 0)) (hy : tev tm y = .v (.int k n)) (hs : sliceOf P t0 = some e) (hni : isIntT P (some t1) = true) (hz : zeroC P e = some z) (hb : bytesT P e = by') (hne : z.length = es) (he : Nat.ble 1 es = true) (hf : z.map .v = f z0) :
    OpG C P { dst := dst, op := .call { callee := .builtin .append, args := #[x, y], argTypes := ⟨t0 :: t1 :: tys⟩ }, type := ty, pos := pos, after := aft, guard := gd } ⟨tm, hp⟩ ⟨tput tm dst (.lsl hp.length 0 xs.length), hp ++ [.rows es (xs.map f)]⟩ := by
  unfold mzI at hm
  split at hm
  · rename_i hc
    obtain rfl := Option.some.inj hm
    have := OpG.appz (C := C) (P := P) (s := ⟨tm, hp⟩) (dst := dst) (ty := ty) (pos := pos) (aft := aft) (gd := gd) (x := x) (y := y) (t0 := t0) (t1 := t1) (e := e) (tys := tys) hx hy hs hni hz hc.1 hc.2.1 (by rw [hb]; exact hc.2.2) (fun h => by rw [h] at hne; simp at hne; subst hne; simp [Nat.ble] at he)
    rw [hne, hf] at this
    simpa using this
  · cases hm
theorem TO.az {α : Type} (f : α → List TV) {z0 : α} {xs : List α} {t0 t1 e : TypeId} {tys : List TypeId} {x y : Operand} {k : IntKind} {n : Int} {z : List Value} {es by' : Nat} (hm : mzI by' n z0 = some xs) (hw : twant ops tm { dst := dst, op := .call { callee := .builtin .append, args := #[x, y], argTypes := ⟨t0 :: t1 :: tys⟩ }, type := ty, pos := pos, after := aft, guard := gd } = some true) (hx : tev tm x = .v (.slice none 0 0)) (hy : tev tm y = .v (.int k n)) (hs : sliceOf P t0 = some e) (hni : isIntT P (some t1) = true) (hz : zeroC P e = some z) (hb : bytesT P e = by') (hne : z.length = es) (he : Nat.ble 1 es = true) (hf : z.map .v = f z0)
    (ht : tput tm dst (.lsl hp.length 0 xs.length) = tm2) (hh2 : hp ++ [.rows es (xs.map f)] = hp2) (hq : TO C P ops rest ⟨tm2, hp2⟩ Q) : TO C P ops ({ dst := dst, op := .call { callee := .builtin .append, args := #[x, y], argTypes := ⟨t0 :: t1 :: tys⟩ }, type := ty, pos := pos, after := aft, guard := gd } :: rest) ⟨tm, hp⟩ Q := by
  subst ht hh2; exact TO.g hw (azG hm hx hy hs hni hz hb hne he hf) hq
theorem TD.az {α : Type} (f : α → List TV) {z0 : α} {xs : List α} {t0 t1 e : TypeId} {tys : List TypeId} {x y : Operand} {k : IntKind} {n : Int} {z : List Value} {es by' : Nat} (hm : mzI by' n z0 = some xs) (hw : twant ops tm { dst := dst, op := .call { callee := .builtin .append, args := #[x, y], argTypes := ⟨t0 :: t1 :: tys⟩ }, type := ty, pos := pos, after := aft, guard := gd } = some true) (hx : tev tm x = .v (.slice none 0 0)) (hy : tev tm y = .v (.int k n)) (hs : sliceOf P t0 = some e) (hni : isIntT P (some t1) = true) (hz : zeroC P e = some z) (hb : bytesT P e = by') (hne : z.length = es) (he : Nat.ble 1 es = true) (hf : z.map .v = f z0)
    (ht : tput tm dst (.lsl hp.length 0 xs.length) = tm2) (hh2 : hp ++ [.rows es (xs.map f)] = hp2) (hq : TD C P ops ms rest (i + 1) (i :: np) false ⟨tm2, hp2⟩ Q) : TD C P ops ms ({ dst := dst, op := .call { callee := .builtin .append, args := #[x, y], argTypes := ⟨t0 :: t1 :: tys⟩ }, type := ty, pos := pos, after := aft, guard := gd } :: rest) i np false ⟨tm, hp⟩ Q := by
  subst ht hh2; exact TD.g hw (azG hm hx hy hs hni hz hb hne he hf) hq
/-- a front part of an own list -/
theorem ctG {α : Type} {f : α → List TV} {xs : List α} {t e : TypeId} {x y : Operand} {k : IntKind} {es b len m : Nat} {n : Int} (hs : cutI xs n = some m) (hx : tev tm x = .lsl b 0 len) (hb : hp[b]? = some (.rows es (xs.map f))) (hy : tev tm y = .v (.int k n)) (hso : sliceOf P t = some e) (ho : okT P e = true) (hes : P.cellsOf e = es) :
    OpG C P { dst := dst, op := .slice t x none (some y) none, type := ty, pos := pos, after := aft, guard := gd } ⟨tm, hp⟩ ⟨tput tm dst (.lsl b 0 m), hp⟩ := by
  unfold cutI at hs
  split at hs
  · rename_i hc
    obtain rfl := Option.some.inj hs
    refine OpG.slice (s := ⟨tm, hp⟩) ?_
    rw [show tev (TS.mk tm hp).tm x = _ from hx]
    have b2 : tbnd ((some y).map (tev (TS.mk tm hp).tm)) len = some n.toNat := by
      rw [Option.map_some, show tev (TS.mk tm hp).tm y = _ from hy]
      simp only [tbnd]
      rw [if_pos hc.1]
    simp only [tsub, hso, ho, if_true, hb, Option.map_none, b2]
    simp only [tbnd]
    rw [if_pos ⟨hes.symm, by intro h; rw [List.map_eq_nil_iff] at h; subst h; simp at hc, by omega, by simp; omega, by simp⟩]
    simp
  · cases hs
theorem TO.ct {α : Type} (f : α → List TV) {xs : List α} {t e : TypeId} {x y : Operand} {k : IntKind} {es b len m : Nat} {n : Int} (hs : cutI xs n = some m) (hw : twant ops tm { dst := dst, op := .slice t x none (some y) none, type := ty, pos := pos, after := aft, guard := gd } = some true) (hx : tev tm x = .lsl b 0 len) (hb : hp[b]? = some (.rows es (xs.map f))) (hy : tev tm y = .v (.int k n)) (hso : sliceOf P t = some e) (ho : okT P e = true) (hes : P.cellsOf e = es)
    (ht : tput tm dst (.lsl b 0 m) = tm2) (hq : TO C P ops rest ⟨tm2, hp⟩ Q) : TO C P ops ({ dst := dst, op := .slice t x none (some y) none, type := ty, pos := pos, after := aft, guard := gd } :: rest) ⟨tm, hp⟩ Q := by
  subst ht; exact TO.g hw (ctG hs hx hb hy hso ho hes) hq
theorem TD.ct {α : Type} (f : α → List TV) {xs : List α} {t e : TypeId} {x y : Operand} {k : IntKind} {es b len m : Nat} {n : Int} (hs : cutI xs n = some m) (hw : twant ops tm { dst := dst, op := .slice t x none (some y) none, type := ty, pos := pos, after := aft, guard := gd } = some true) (hx : tev tm x = .lsl b 0 len) (hb : hp[b]? = some (.rows es (xs.map f))) (hy : tev tm y = .v (.int k n)) (hso : sliceOf P t = some e) (ho : okT P e = true) (hes : P.cellsOf e = es)
    (ht : tput tm dst (.lsl b 0 m) = tm2) (hq : TD C P ops ms rest (i + 1) (i :: np) false ⟨tm2, hp⟩ Q) : TD C P ops ms ({ dst := dst, op := .slice t x none (some y) none, type := ty, pos := pos, after := aft, guard := gd } :: rest) i np false ⟨tm, hp⟩ Q := by
  subst ht; exact TD.g hw (ctG hs hx hb hy hso ho hes) hq
end
section
variable {C : Ctx} {P : Program} {tm tm2 : List TV} {hp hp2 : List TB} {Q : Exit → TS → Prop} {c : Code}
theorem TX.frz (n : Nat) {b : TB} (hb : hp[n]? = some b) (hl : lfB b = true) (ht : tm.map (frz n b 4) = tm2) (hh2 : (hp.map (frzB n b)).set n .dead = hp2) (hq : TX C P c ⟨tm2, hp2⟩ Q) : TX C P c ⟨tm, hp⟩ Q := by
  subst ht hh2
  exact TX.weak (Wk.freeze n hb hl) hq
end
end Go.Rex

namespace Go.Rex
open Go.RowKit

/-- what a function makes, told as one new block alone -/
theorem Good.tidy {B lo : Nat} {D : Nat → Prop} {m : NMap} {h h' : List Blk} {w w' : World} {e : Ending} {nm l c es : Nat} {cs : List Value} (hr : Rel B lo D m h w) (hlo : lo ≤ h.length) (hnm : h.length ≤ nm) (hb : h'[nm]? = some (.cells es cs)) (hc : ∀ v ∈ cs, isClean v = true)
    (hg : Good w.heap.size h.length D m h w (.slice (some ⟨nm, 0, none⟩) l c) h' e w') : Good B lo D m h w (.slice (some ⟨h.length, 0, none⟩) l c) (h ++ [.cells es cs]) e w' := by
  obtain ⟨v', m', rfl, hp, hv⟩ := hg
  have hlt := (List.getElem?_eq_some_iff.1 hb).1
  have hag := hp.agree
  have hdn : Dx D h.length h'.length nm := .inr ⟨hnm, hlt⟩
  have e1 : upd m h.length (m' nm) h.length = m' nm := upd_same
  have e2 : ∀ n, D n → upd m h.length (m' nm) n = m n := fun n hn => upd_other (by have := hr.dom n hn; omega)
  have hl2 : (h ++ [Blk.cells es cs]).length = h.length + 1 := by simp
  have par : ∀ n b, Dx D h.length (h ++ [Blk.cells es cs]).length n → (h ++ [Blk.cells es cs])[n]? = some b → (D n ∧ h[n]? = some b) ∨ (n = h.length ∧ b = .cells es cs) := by
    rintro n b (hn | hn) hbn
    · left
      rw [List.getElem?_append_left (hr.dom n hn)] at hbn
      exact ⟨hn, hbn⟩
    · right
      rw [hl2] at hn
      obtain rfl : n = h.length := by omega
      rw [List.getElem?_append_right (Nat.le_refl _), Nat.sub_self] at hbn
      exact ⟨rfl, (Option.some.inj hbn).symm⟩
  have hok := hp.rel.ok nm _ hdn hb
  have hblt := hp.rel.lt nm _ hdn hb (by simp)
  have hbase := hp.rel.base nm _ hdn hnm hb (by simp)
  have hown := hp.rel.own nm _ hdn hnm hb
  have hBw := hr.le
  refine ⟨v', upd m h.length (m' nm), rfl, ⟨e2, ⟨Nat.le_trans hr.le hp.below.size, ?_, ?_, ?_, ?_, ?_, ?_, ?_⟩, hp.below.mono hr.le, by simp⟩, ?_⟩
  · rintro n (hn | hn)
    · have := hr.dom n hn; rw [hl2]; omega
    · exact hn.2
  · intro n b hn hbn
    rcases par n b hn hbn with ⟨h1, h2⟩ | ⟨rfl, rfl⟩
    · exact ((hr.ok n b h1 h2).keep fun hd => hp.below.block _ (hr.lt n b h1 h2 hd)).mono (fun _ h => .inl h) e2 (e2 n h1)
    · obtain ⟨a1, a2⟩ := hok
      refine ⟨by rw [e1]; exact a1, fun i v hvi => ?_⟩
      obtain ⟨u, hu1, hu2⟩ := a2 i v hvi
      have hcl := hc v (List.mem_of_getElem? hvi)
      obtain rfl := hu2.eq_of_clean depth _ _ hcl
      rw [e1]
      exact ⟨u, hu1, VR.of_clean depth _ hcl⟩
  · intro n b hn hbn hd
    rcases par n b hn hbn with ⟨h1, h2⟩ | ⟨rfl, rfl⟩
    · rw [e2 n h1]; exact Nat.lt_of_lt_of_le (hr.lt n b h1 h2 hd) hp.below.size
    · rw [e1]; exact hblt
  · intro n b hn hl hbn hd
    rcases par n b hn hbn with ⟨h1, h2⟩ | ⟨rfl, rfl⟩
    · rw [e2 n h1]; exact hr.base n b h1 hl h2 hd
    · rw [e1]; omega
  · intro n b hn hl hbn hd
    rcases par n b hn hbn with ⟨h1, h2⟩ | ⟨rfl, rfl⟩
    · rw [e2 n h1]; exact hr.low n b h1 hl h2 hd
    · omega
  · intro n b hn hl hbn
    rcases par n b hn hbn with ⟨h1, h2⟩ | ⟨rfl, rfl⟩
    · exact ((hr.own n b h1 hl h2).keep fun hd => hp.below.block _ (hr.lt n b h1 h2 hd)).congr (e2 n h1)
    · unfold Owns at hown ⊢; rw [e1]; exact hown
  · intro n n' b b' hn hn' hl hl' hbn hbn' hd hd' he
    rcases par n b hn hbn with ⟨h1, h2⟩ | ⟨rfl, rfl⟩ <;> rcases par n' b' hn' hbn' with ⟨h1', h2'⟩ | ⟨rfl, rfl⟩
    · rw [e2 n h1, e2 n' h1'] at he; exact hr.inj n n' b b' h1 h1' hl hl' h2 h2' hd hd' he
    · rw [e2 n h1, e1] at he; have := hr.lt n b h1 h2 hd; omega
    · rw [e1, e2 n' h1'] at he; have := hr.lt n' b' h1' h2' hd'; omega
    · rfl
  · cases hv with
    | slice _ _ _ _ c' hD hlc hcc hce =>
      have := VR.slice (D := Dx D h.length (h ++ [Blk.cells es cs]).length) (m := upd m h.length (m' nm)) h.length 0 l c c' (.inr ⟨Nat.le_refl _, by simp⟩) hlc hcc (by rw [e1]; exact hce)
      rw [e1] at this
      exact this

/-! ### an executor that knows what one function returns -/
def ctxO (P : Program) (g : FuncId) (res : List Blk → Value × List Blk) (k : Nat) : Nat → Ctx
  | 0 => ⟨fun _ _ _ => none, fun _ _ _ => none⟩
  | d + 1 => ⟨fun f args h => if f = g then (match args with | [] => some ((res h).1, (res h).2, none) | _ => none) else runCall (ctxO P g res k d) P k f args h, runRound (ctxO P g res k d) P k⟩
def ResOk (P : Program) (g : FuncId) (res : List Blk → Value × List Blk) : Prop :=
  ∀ (h : List Blk) (B lo : Nat) (D : Nat → Prop) (m : NMap) (w : World), Rel B lo D m h w → lo ≤ h.length → Calls P g ⟨[]⟩ w (Good B lo D m h w (res h).1 (res h).2)
theorem ctxO_ok {P : Program} (hm : P.follows .mixedOrders = true) {g : FuncId} {res : List Blk → Value × List Blk} (hres : ResOk P g res) (k : Nat) : ∀ d, CtxOk P (ctxO P g res k d)
  | 0 => ⟨fun h => by simp [ctxO] at h, fun h => by simp [ctxO] at h⟩
  | d + 1 =>
    have hD : DrawSound P (ctxO P g res k d) := fun {_ _ _ _ _ _ _} hv {_ _ _ _ _ _ _ _ _} hr hlo hA hw hQ => drawSound (ctxO_ok hm hres k d) hm hv hr hlo hA hw hQ
    ⟨fun {f args h v h' wr} hv {B lo D m w args'} hr hlo hw hargs => by
      simp only [ctxO] at hv
      split at hv
      · rename_i hf
        subst hf
        split at hv
        · obtain ⟨rfl, rfl, rfl⟩ : (res h).1 = v ∧ (res h).2 = h' ∧ none = wr := by simpa using hv
          obtain rfl : args' = [] := by have := hargs.len; simpa using this
          exact hres _ _ _ _ _ _ hr hlo
        · cases hv
      · exact runCall_sound (ctxO_ok hm hres k d) hD hv hr hlo hw hargs, fun h => runRound_sound (ctxO_ok hm hres k d) hD h⟩
def ecallO (P : Program) (g : FuncId) (res : List Blk → Value × List Blk) (k d : Nat) (f : FuncId) (args : List Value) (h : List Blk) : AOut := (ctxO P g res k d).call f args h
theorem awT_of_ecallO {P : Program} (hm : P.follows .mixedOrders = true) {g : FuncId} {res : List Blk → Value × List Blk} (hres : ResOk P g res) {k d : Nat} {f : FuncId} (hv : isTrue (ecallO P g res k d f [] []) = true) : AwT P f := by
  intro w
  unfold isTrue at hv
  split at hv
  · rename_i h' wr hx
    refine ((ctxO_ok hm hres k d).call hx (Rel.empty w fun _ => ⟨0, 0, 0, 0⟩) (Nat.le_refl _) (fun n _ => Nat.zero_le _) VRs.nil).mono ?_
    rintro e w' ⟨v', m', rfl, hp, hvr⟩
    cases hvr
    exact ⟨rfl, hp.below⟩
  · cases hv
/-- a table that a function makes: rows of atoms -/
def tabRes (es : Nat) (cs : List Value) (l : Nat) (h : List Blk) : Value × List Blk := (.slice (some ⟨h.length, 0, none⟩) l l, h ++ [.cells es cs])
theorem vls_atoms {Fz : Nat → Prop} {h : List Blk} {L : Nat → LI} : ∀ {l : List TV} {x : List Value}, VLs Fz h L l x → ∀ cs : List Value, l = cs.map .v → x = cs := by
  intro l x hx cs hl
  apply List.ext_getElem?
  intro i
  cases hi : x[i]? with
  | none =>
    have := hx.len
    rw [List.getElem?_eq_none_iff] at hi
    rw [eq_comm, List.getElem?_eq_none_iff]
    rw [hl, List.length_map] at this
    omega
  | some y =>
    have hlt := (List.getElem?_eq_some_iff.1 hi).1
    have hlen : x.length = cs.length := by rw [hx.len, hl, List.length_map]
    have hc : cs[i]? = some cs[i] := List.getElem?_eq_getElem (by omega)
    have hp : l[i]? = some (.v cs[i]) := by rw [hl, List.getElem?_map, hc]; rfl
    have := (hx.at' i _ y hp hi).bool_inv
    rw [this, hc]
theorem res_of_spec {P : Program} (hm : P.follows .mixedOrders = true) {g : FuncId} {es : Nat} {rows : List (List TV)} {cs : List Value} (hs : Spec (lim P) g [] ⟨[.lsl 0 0 rows.length], [.rows es rows]⟩) (hcs : rows.flatten = cs.map .v) (hcl : ∀ v ∈ cs, isClean v = true) (hne : rows ≠ []) : ResOk P g (tabRes es cs rows.length) := by
  intro h B lo D m w hr hlo
  obtain ⟨v, h', F1, L1, hc, g1, hst⟩ := hs (fun _ => False) h [] (fun _ h => h.elim) VLs.nil
  have hv := hst.tmr.at' 0 _ v rfl rfl
  obtain ⟨q1, q2, q3, q4, q5⟩ := hst.blk 0 _ rfl
  rcases q5 with ⟨_, q5⟩ | ⟨nm, c0, e1, e2, e3, e4, e5⟩
  · exact absurd q5 hne
  · have hv' := hv.lsl_some e1
    rw [q3, Nat.sub_zero, Nat.zero_mul] at hv'
    subst hv'
    obtain rfl := vls_atoms e5 cs hcs
    refine ((lim_ok hm).call hc (hr.still h.length (Nat.le_refl _)) (Nat.le_refl _) (fun n hn => by cases hn) VRs.nil).mono ?_
    intro e w' hg
    exact Good.tidy hr hlo e2 e4 hcl hg
end Go.Rex
