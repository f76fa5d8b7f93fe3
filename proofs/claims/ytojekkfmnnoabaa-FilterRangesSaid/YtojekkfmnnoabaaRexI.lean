/- An executor of the program's functions on trees of values, proved sound. -/
import Derived.Test.YtojekkfmnnoabaaRexH
set_option linter.unusedSimpArgs false
set_option linter.unusedVariables false
set_option linter.defProp false
namespace Go.Rex
open Go.RowKit

def mapParts (ρ : Operand → Value) (ps : Array (Nat × Operand)) : Array (Nat × Value) := ps.map fun (i, x) => (i, ρ x)

/-- operations on values without names: as the model has them -/
def genP (P : Program) (ρ : Operand → Value) (o : Oper) : Option Value :=
  match o.op with
  | .select _ _ => none
  | _ => if o.op.operands.toList.all (fun x => isClean (ρ x)) = true then
      match prun P (execOp ρ o) with
      | some (.value v) => if isClean v = true then some v else none
      | _ => none
    else none

def isSome1 : Value → Bool
  | .pointer (some _) => true
  | .func (.func _) _ _ => true
  | .func (.yield _) _ _ => true
  | _ => false

def lenV (P : Program) (t : Option TypeId) (x : Value) : Option Value :=
  match t with
  | none => none
  | some t => match P.underlying t, x with
    | some (.slice _), .slice _ n _ => some (.int .i64 n)
    | _, _ => none

def orGen (P : Program) (ρ : Operand → Value) (o : Oper) (r : Option Value) : Option Value :=
  match r with
  | some x => some x
  | none => genP P ρ o

def bpop (P : Program) (ρ : Operand → Value) (o : Oper) (c : Call) : Option Value :=
  match c.callee with
  | .builtin b =>
    if b = .len then
      match c.args.toList with
      | [x] => orGen P ρ o (lenV P c.argTypes[0]? (ρ x))
      | _ => none
    else genP P ρ o
  | _ => none

/-- operators on integers -/
def fastBin (op : BinOp) (x y : Value) : Option Value :=
  match x, y with
  | .int k a, .int k' b =>
    if k = k' then
      match op with
      | .add => some (.int k (k.wrap (a + b)))
      | .sub => some (.int k (k.wrap (a - b)))
      | .mul => some (.int k (k.wrap (a * b)))
      | .lss => some (.bool (decide (a < b)))
      | .leq => some (.bool (decide (a ≤ b)))
      | .gtr => some (.bool (decide (a > b)))
      | .geq => some (.bool (decide (a ≥ b)))
      | .eql => some (.bool (decide (a = b)))
      | .neq => some (.bool (decide (a ≠ b)))
      | .quo => if b = 0 then none else some (.int k (k.wrap (a.tdiv b)))
      | .rem => if b = 0 then none else some (.int k (a.tmod b))
      | _ => none
    else none
  | _, _ => none

/-- what does not look at memory -/
def pop (P : Program) (ρ : Operand → Value) (o : Oper) : Option Value :=
  match o.op with
  | .move x => some (ρ x)
  | .assign x => some (ρ x)
  | .pick c a b => match ρ c with
    | .bool t => some (if t then ρ a else ρ b)
    | _ => none
  | .nilCheck x => if isSome1 (ρ x) = true then some (ρ x) else none
  | .build t ps => buildV P t (mapParts ρ ps)
  | .makeFunc fn first captured => match fn with
    | .func f => some (.func (.func f) (first.map ρ) (captured.map ρ))
    | _ => none
  | .extract t i => match ρ t with
    | .tuple ⟨l⟩ => l[i]?
    | _ => none
  | .fieldAddr t x f => fieldAddrV P t (ρ x) f
  | .indexAddr t x ix => indexAddrV P t (ρ x) (ρ ix)
  | .field t x f => fieldV P t (ρ x) f
  | .index t x ix => orGen P ρ o (indexV P t (ρ x) (ρ ix))
  | .call c => bpop P ρ o c
  | .binOp op _ x y _ => orGen P ρ o (fastBin op (ρ x) (ρ y))
  | .alloc _ => none
  | .box _ _ => none
  | .buildSlice _ _ _ => none
  | .makeSlice _ _ _ => none
  | .load _ _ => none
  | .store _ _ _ => none
  | _ => genP P ρ o

def newH (r : Option (Value × List Blk)) : AOut := r.map fun (v, h) => (v, h, none)

def bhop (P : Program) (ρ : Operand → Value) (c : Call) (h : List Blk) : AOut :=
  match c.callee with
  | .builtin b =>
    if b = .append then
      match c.args.toList with
      | [x, y] => appendV P c.argTypes (ρ x) (ρ y) h
      | _ => none
    else none
  | _ => none

/-- a bound of a slice expression -/
def bnd (x : Option Value) (d : Nat) : Option Nat :=
  match x with
  | none => some d
  | some (.int _ i) => if 0 ≤ i then some i.toNat else none
  | some _ => none
def sliceV (P : Program) (t : TypeId) (x : Value) (lo hi : Option Value) (h : List Blk) : Option Value :=
  match P.underlying t, x with
  | some (.slice e), .slice (some ⟨n, o, none⟩) len c =>
    match h[n]? with
    | some (.cells es _) =>
      match bnd lo 0, bnd hi len with
      | some l, some k => if (es = P.cellsOf e ∨ es = 0) ∧ (P.info? e).isSome = true ∧ l ≤ k ∧ k ≤ c ∧ (l = 0 ∨ l < c) then some (.slice (some ⟨n, o + l * P.cellsOf e, none⟩) (k - l) (c - l)) else none
      | _, _ => none
    | _ => none
  | some (.array len e), .pointer (some ⟨n, o, none⟩) =>
    match h[n]? with
    | some (.cells es _) =>
      match bnd lo 0, bnd hi len with
      | some l, some k => if es = 0 ∧ (P.info? e).isSome = true ∧ l ≤ k ∧ k ≤ len ∧ (l = 0 ∨ l < len) then some (.slice (some ⟨n, o + l * P.cellsOf e, none⟩) (k - l) (len - l)) else none
      | _, _ => none
    | _ => none
  | _, _ => none
/-- a bound is an int in both, or absent -/
def OptR (D : Nat → Prop) (m : NMap) (x x' : Option Value) : Prop := match x, x' with
  | none, none => True
  | some v, some v' => VR D m v v'
  | _, _ => False
theorem bnd_run {P : Program} {D : Nat → Prop} {m : NMap} {x x' : Option Value} {d k cap : Nat} {code : BoundsCode} (hx : OptR D m x x') (hk : bnd x d = some k) (hc : k ≤ cap) (w : World) :
    (match x' with | some v => Instr.sliceBound v cap code | none => pure d : Sem Nat).run P w = .ok k w := by
  cases x with
  | none =>
    cases x' with
    | none => obtain rfl := Option.some.inj hk; rfl
    | some v' => exact hx.elim
  | some v =>
    cases x' with
    | none => exact hx.elim
    | some v' =>
      have hx' : VR D m v v' := hx
      cases v with
      | int ki i =>
        cases hx'
        simp only [bnd] at hk
        split at hk
        · rename_i h0
          obtain rfl := Option.some.inj hk
          simp only [Instr.sliceBound, asIntOf, Sem.run_bind, Sem.run_pure, Result.andThen_ok]
          rw [if_pos ⟨h0, by omega⟩]
          rfl
        · cases hk
      | _ => simp [bnd] at hk
theorem sliceV_sound {P : Program} {B lo0 : Nat} {D : Nat → Prop} {m : NMap} {h : List Blk} {w : World} (hr : Rel B lo0 D m h w) {t : TypeId} {x x' v : Value} {lo lo' hi hi' : Option Value} (hx : VR D m x x') (hl : OptR D m lo lo') (hh : OptR D m hi hi')
    (hv : sliceV P t x lo hi h = some v) : ∃ v', (∀ w, (Instr.sliceAt t x' lo' hi' none).run P w = .ok v' w) ∧ VR D m v v' := by
  unfold sliceV at hv
  split at hv
  · rename_i e n o len c hu
    obtain ⟨hD, c', hlc, hcc, he, rfl⟩ : D n ∧ ∃ c', len ≤ c ∧ c ≤ c' ∧ ((m n).es = 0 ∨ o + c' * (m n).es ≤ (m n).ext) ∧ x' = .slice (some ⟨(m n).block, (m n).off + o, none⟩) len c' := by
      cases hx
      exact ⟨by assumption, _, by assumption, by assumption, by assumption, rfl⟩
    split at hv
    · rename_i es cs hb
      have hes : (m n).es = es := (hr.ok n _ hD hb).1
      split at hv
      · rename_i l k h1 h2
        split at hv
        · rename_i hc
          obtain ⟨c1, c2, c3, c4, c5⟩ := hc
          obtain rfl := Option.some.inj hv
          refine ⟨.slice (some ⟨(m n).block, (m n).off + o + l * P.cellsOf e, none⟩) (k - l) (c' - l), fun w => ?_, ?_⟩
          · have r1 := fun code => bnd_run (P := P) (cap := c') (code := code) hh h2 (by omega) w
            have r2 := fun code => bnd_run (P := P) (cap := k) (code := code) hl h1 c3 w
            have hadd : (if c' = l then some (⟨(m n).block, (m n).off + o, none⟩ : Addr) else some ((⟨(m n).block, (m n).off + o, none⟩ : Addr).add (l * P.cellsOf e))) = some ⟨(m n).block, (m n).off + o + l * P.cellsOf e, none⟩ := by
              rw [addr_add]
              rcases c5 with rfl | c5
              · simp
              · rw [if_neg (by omega)]
            have hsb : (Instr.sliceBounds true len c' lo' hi' none).run P w = .ok (l, k, c') w := by
              unfold Instr.sliceBounds
              cases hi' <;> cases lo' <;> simp_all [Sem.run_bind, Sem.run_pure, Result.andThen_ok]
            simp only [Instr.sliceAt, Instr.slice, Sem.run_bind, run_underlying hu, Result.andThen_ok, hsb, sizeOf_cellsOf c2, Sem.run_pure, Option.map_some]
            rw [hadd]
          · have := VR.slice (D := D) (m := m) n (o + l * P.cellsOf e) (k - l) (c - l) (c' - l) hD (by omega) (by omega) (by
              rw [hes] at he ⊢
              rcases he with he | he
              · exact .inl he
              rcases c1 with rfl | c1
              · have : l * P.cellsOf e + (c' - l) * P.cellsOf e = c' * P.cellsOf e := by rw [← Nat.add_mul]; congr 1; omega
                exact .inr (by omega)
              · exact .inl c1)
            rwa [← Nat.add_assoc] at this
        · cases hv
      · cases hv
    · cases hv
  · rename_i len e n o hu
    obtain ⟨hD, rfl⟩ : D n ∧ x' = .pointer (some ⟨(m n).block, (m n).off + o, none⟩) := by
      cases hx
      exact ⟨by assumption, rfl⟩
    split at hv
    · rename_i es cs hb
      have hes : (m n).es = es := (hr.ok n _ hD hb).1
      split at hv
      · rename_i l k h1 h2
        split at hv
        · rename_i hc
          obtain ⟨rfl, c2, c3, c4, c5⟩ := hc
          obtain rfl := Option.some.inj hv
          refine ⟨.slice (some ⟨(m n).block, (m n).off + o + l * P.cellsOf e, none⟩) (k - l) (len - l), fun w => ?_, ?_⟩
          · have r1 := fun code => bnd_run (P := P) (cap := len) (code := code) hh h2 c4 w
            have r2 := fun code => bnd_run (P := P) (cap := k) (code := code) hl h1 c3 w
            have hadd : (if len = l then (⟨(m n).block, (m n).off + o, none⟩ : Addr) else ((⟨(m n).block, (m n).off + o, none⟩ : Addr).add (l * P.cellsOf e))) = ⟨(m n).block, (m n).off + o + l * P.cellsOf e, none⟩ := by
              rw [addr_add]
              rcases c5 with rfl | c5
              · simp
              · rw [if_neg (by omega)]
            have hsb : (Instr.sliceBounds false len len lo' hi' none).run P w = .ok (l, k, len) w := by
              unfold Instr.sliceBounds
              cases hi' <;> cases lo' <;> simp_all [Sem.run_bind, Sem.run_pure, Result.andThen_ok]
            simp only [Instr.sliceAt, Instr.sureAddr, Sem.run_bind, run_underlying hu, Result.andThen_ok, hsb, sizeOf_cellsOf c2, Sem.run_pure]
            rw [hadd]
          · have := VR.slice (D := D) (m := m) n (o + l * P.cellsOf e) (k - l) (len - l) (len - l) hD (by omega) (Nat.le_refl _) (.inl hes)
            rwa [← Nat.add_assoc] at this
        · cases hv
      · cases hv
    · cases hv
  · cases hv

/-- what does -/
def hop (P : Program) (ρ : Operand → Value) (o : Oper) (h : List Blk) : AOut :=
  match o.op with
  | .alloc e => match P.info? e with
    | some i => match i.zero with
      | some z => if isClean z = true then some (.pointer (some ⟨h.length, 0, none⟩), h ++ [.cells (esOf P e) z.cells.toList], none) else none
      | none => none
    | none => none
  | .box e x => some (.pointer (some ⟨h.length, 0, none⟩), h ++ [.cells (esOf P e) (ρ x).cells.toList], none)
  | .buildSlice t n ps => newH (buildSliceV P t n (mapParts ρ ps) h)
  | .makeSlice t l c => newH (makeSliceV P t (ρ l) (ρ c) h)
  | .load t a => match ρ a with
    | .pointer (some ⟨n, o, none⟩) => (loadV P t h n o).map fun v => (v, h, none)
    | _ => none
  | .store t a x => match ρ a with
    | .pointer (some ⟨n, o, none⟩) => (storeV P t h n o (ρ x)).map fun h' => (undef, h', some n)
    | _ => none
  | .call c => bhop P ρ c h
  | .slice t x lo hi mx => match mx with
    | none => (sliceV P t (ρ x) (lo.map ρ) (hi.map ρ) h).map fun v => (v, h, none)
    | some _ => none
  | _ => none

/-- a step of an operation -/
def StepN (P : Program) (B lo : Nat) (D : Nat → Prop) (m : NMap) (h : List Blk) (w : World) (s : Sem Next) (v : Value) (h' : List Blk) : Prop :=
  ∃ r v' w' m', s.run P w = .ok r w' ∧ (r = .value v' ∨ (r = .skip ∧ v' = undef)) ∧ Post B lo D m h w m' h' w' ∧ VR (Dx D h.length h'.length) m' v v'
theorem StepN.of {P : Program} {B lo : Nat} {D : Nat → Prop} {m : NMap} {h h' : List Blk} {w : World} {s : Sem Value} {v : Value} (hs : StepV P B lo D m h w s v h') : StepN P B lo D m h w (do pure (.value (← s))) v h' := by
  obtain ⟨v', w', m', h1, h2, h3⟩ := hs
  exact ⟨.value v', v', w', m', by simp only [Sem.run_bind, h1, Result.andThen_ok, Sem.run_pure], .inl rfl, h2, h3⟩

/-- a step that does not look at memory -/
def StepP (P : Program) (D : Nat → Prop) (m : NMap) (s : Sem Next) (v : Value) : Prop := ∃ v', (∀ w, s.run P w = .ok (.value v') w) ∧ VR D m v v'
theorem StepP.of {P : Program} {D : Nat → Prop} {m : NMap} {s : Sem Value} {v : Value} (hs : ∃ v', (∀ w, s.run P w = .ok v' w) ∧ VR D m v v') : StepP P D m (do pure (.value (← s))) v := by
  obtain ⟨v', h1, h2⟩ := hs
  exact ⟨v', fun w => by simp only [Sem.run_bind, h1, Result.andThen_ok, Sem.run_pure], h2⟩
theorem StepP.step {P : Program} {B lo : Nat} {D : Nat → Prop} {m : NMap} {h : List Blk} {w : World} {s : Sem Next} {v : Value} (hs : StepP P D m s v) (hr : Rel B lo D m h w) : StepN P B lo D m h w s v h := by
  obtain ⟨v', h1, h2⟩ := hs
  exact ⟨.value v', v', w, m, h1 w, .inl rfl, Post.refl hr, by rw [Dx.refl]; exact h2⟩

theorem genP_sound {P : Program} {D : Nat → Prop} {m : NMap} {ρ ρ' : Operand → Value} {o : Oper} {v : Value}
    (hρ : ∀ x ∈ o.op.operands, VR D m (ρ x) (ρ' x)) (hv : genP P ρ o = some v) : StepP P D m (execOp ρ' o) v := by
  unfold genP at hv
  split at hv
  · cases hv
  · rename_i hsel
    split at hv
    · rename_i hc
      split at hv
      · rename_i v0 hp
        split at hv
        · rename_i hcv
          obtain rfl := Option.some.inj hv
          have heq : execOp ρ' o = execOp ρ o := execOp_congr o (fun cs b e => hsel cs b e) (fun x hx => by
            have := List.all_eq_true.1 hc x (by simpa using hx)
            exact (hρ x hx).eq_of_clean depth _ _ this)
          exact ⟨v0, fun w => by rw [heq]; exact prun_run hp w, VR.of_clean depth _ hcv⟩
        · cases hv
      · cases hv
    · cases hv

theorem mapParts_prs {D : Nat → Prop} {m : NMap} {ρ ρ' : Operand → Value} {ps : Array (Nat × Operand)} (h : ∀ x ∈ (ps.toList.map (·.2)).toArray, VR D m (ρ x) (ρ' x)) : PRs D m (mapParts ρ ps).toList (mapParts ρ' ps).toList := by
  refine ⟨by simp [mapParts], fun i p p' hp hp' => ?_⟩
  simp only [mapParts, Array.toList_map, List.getElem?_map] at hp hp'
  cases hq : ps.toList[i]? with
  | none => rw [hq] at hp; cases hp
  | some q =>
    rw [hq] at hp hp'
    simp only [Option.map_some, Option.some.injEq] at hp hp'
    subst hp hp'
    exact ⟨rfl, h _ (by simp only [List.mem_toArray, List.mem_map]; exact ⟨q, List.mem_of_getElem? hq, rfl⟩)⟩
theorem map_vrs {D : Nat → Prop} {m : NMap} {ρ ρ' : Operand → Value} {xs : Array Operand} (h : ∀ x ∈ xs, VR D m (ρ x) (ρ' x)) : VRs D m (xs.map ρ).toList (xs.map ρ').toList := by
  refine ⟨by simp, fun i v v' hv hv' => ?_⟩
  simp only [Array.toList_map, List.getElem?_map] at hv hv'
  cases hq : xs.toList[i]? with
  | none => rw [hq] at hv; cases hv
  | some q =>
    rw [hq] at hv hv'
    simp only [Option.map_some, Option.some.injEq] at hv hv'
    subst hv hv'
    exact h q (by simpa using List.mem_of_getElem? hq)
theorem newH_some {h' : List Blk} {r : Option (Value × List Blk)} {v : Value} {wr : Option Nat} (hv : newH r = some (v, h', wr)) : r = some (v, h') ∧ wr = none := by
  cases r with
  | none => cases hv
  | some x => obtain ⟨a, b⟩ := x; simp [newH] at hv; obtain ⟨rfl, rfl, rfl⟩ := hv; exact ⟨rfl, rfl⟩

theorem fastBin_run {P : Program} {op : BinOp} {t u : TypeId} {x y : Operand} {dst : Option Tmp} {ty : TypeId} {pos : String} {after : Array Edge} {guard : Option (Nat × Bool)} {ρ : Operand → Value} {v : Value} (hv : fastBin op (ρ x) (ρ y) = some v) (w : World) :
    (execOp ρ { dst := dst, op := .binOp op t x y u, type := ty, pos := pos, after := after, guard := guard }).run P w = .ok (.value v) w := by
  unfold fastBin at hv
  split at hv
  · rename_i k a k' b hx hy
    split at hv
    · rename_i hk
      subst hk
      have hg : (eqGuard op t x y (.int k a) (.int k b)).run P w = .ok () w := by
        unfold eqGuard
        split <;> rfl
      have key : ∀ r : Value, (binOp op t (.int k a) (.int k b)).run P w = .ok r w → (execOp ρ { dst := dst, op := .binOp op t x y u, type := ty, pos := pos, after := after, guard := guard }).run P w = .ok (.value r) w := by
        intro r hr
        simp only [execOp, hx, hy, Sem.run_bind, hg, Result.andThen_ok, hr, Sem.run_pure]
      apply key
      have neq : decide (a ≠ b) = (a != b) := by by_cases h : a = b <;> simp [h]
      have eql : decide (a = b) = (a == b) := by by_cases h : a = b <;> simp [h]
      cases op <;> simp only [] at hv <;> first
        | (cases hv; done)
        | (obtain rfl := Option.some.inj hv; simp [binOp, Op.intArith, Op.intCmp, neq, eql]; done)
        | (split at hv
           · cases hv
           · rename_i h0
             obtain rfl := Option.some.inj hv
             simp [binOp, Op.intDiv, h0])
    · cases hv
  · cases hv

theorem pop_sound {P : Program} {D : Nat → Prop} {m : NMap} {ρ ρ' : Operand → Value} {o : Oper} {v : Value}
    (hρ : ∀ x ∈ o.op.operands, VR D m (ρ x) (ρ' x)) (hv : pop P ρ o = some v) : StepP P D m (execOp ρ' o) v := by
  obtain ⟨dst, op, ty, pos, after, guard⟩ := o
  simp only [Op.operands] at hρ
  cases op <;> simp only [pop] at hv
  case move x =>
    obtain rfl := Option.some.inj hv
    exact ⟨_, fun w => rfl, hρ x (by simp)⟩
  case assign x =>
    obtain rfl := Option.some.inj hv
    exact ⟨_, fun w => rfl, hρ x (by simp)⟩
  case pick c a b =>
    split at hv
    · rename_i t hc
      obtain rfl := Option.some.inj hv
      have h1 := hρ c (by simp)
      have h2 := hρ a (by simp)
      have h3 := hρ b (by simp)
      rw [hc] at h1
      have h4 : ρ' c = .bool t := by
        generalize ρ' c = y at *
        cases h1; rfl
      refine ⟨if t then ρ' a else ρ' b, fun w => ?_, by cases t <;> assumption⟩
      simp [execOp, h4, asBool]
    · cases hv
  case nilCheck x =>
    split at hv
    · rename_i hc
      obtain rfl := Option.some.inj hv
      have h1 := hρ x (by simp)
      refine ⟨ρ' x, fun w => ?_, h1⟩
      simp only [execOp]
      generalize ρ x = y at *
      generalize ρ' x = y' at *
      cases h1 <;> first | (simp [isSome1] at hc; done) | rfl
    · cases hv
  case build t ps => exact .of (buildV_sound (mapParts_prs hρ) hv)
  case makeFunc fn first captured =>
    cases fn <;> simp only [] at hv <;> try (cases hv; done)
    rename_i f
    obtain rfl := Option.some.inj hv
    have h1 := map_vrs (xs := first) (ρ := ρ) (ρ' := ρ') (D := D) (m := m) fun x hx => hρ x (by simp [hx])
    have h2 := map_vrs (xs := captured) (ρ := ρ) (ρ' := ρ') (D := D) (m := m) fun x hx => hρ x (by simp [hx])
    exact ⟨_, fun w => rfl, .func f _ _ _ _ h1.len h1.at' h2.len h2.at'⟩
  case extract t i =>
    split at hv
    · rename_i l ht
      have h2 := hρ t (by simp)
      rw [ht] at h2
      obtain ⟨l', hl, h3⟩ : ∃ l', VRs D m l l' ∧ ρ' t = .tuple ⟨l'⟩ := by
        generalize ρ' t = y at *
        cases h2; exact ⟨_, ⟨by assumption, by assumption⟩, rfl⟩
      obtain ⟨v', h4, h5⟩ := hl.at hv
      refine .of ⟨v', fun w => ?_, h5⟩
      simp only [Instr.extract, h3]
      simp [h4]
    · cases hv
  case fieldAddr t x f => exact .of (fieldAddrV_sound (hρ x (by simp)) hv)
  case indexAddr t x ix => exact .of (indexAddrV_sound (hρ x (by simp)) (hρ ix (by simp)) hv)
  case binOp op t x y u =>
    unfold orGen at hv
    split at hv
    · rename_i r h1
      obtain rfl := Option.some.inj hv
      have h2 := hρ x (by simp)
      have h3 := hρ y (by simp)
      obtain ⟨k, a, k', b, hx, hy⟩ : ∃ k a k' b, ρ x = .int k a ∧ ρ y = .int k' b := by
        unfold fastBin at h1
        split at h1
        · rename_i k a k' b hx hy; exact ⟨k, a, k', b, hx, hy⟩
        · cases h1
      rw [hx] at h2; rw [hy] at h3
      have e2 : ρ' x = .int k a := by
        generalize ρ' x = z at *
        cases h2; rfl
      have e3 : ρ' y = .int k' b := by
        generalize ρ' y = z at *
        cases h3; rfl
      rw [hx, hy, ← e2, ← e3] at h1
      refine ⟨r, fun w => fastBin_run h1 w, ?_⟩
      unfold fastBin at h1
      rw [e2, e3] at h1
      simp only at h1
      split at h1
      · cases op <;> simp only [] at h1 <;> first
          | (cases h1; done)
          | (obtain rfl := Option.some.inj h1; first | exact .int _ _ | exact .bool _)
          | (split at h1
             · cases h1
             · obtain rfl := Option.some.inj h1; exact .int _ _)
      · cases h1
    · exact genP_sound (by simpa only [Op.operands] using hρ) hv
  case field t x f => exact .of (fieldV_sound (hρ x (by simp)) hv)
  case index t x ix =>
    unfold orGen at hv
    split at hv
    · rename_i r hr'
      obtain rfl := Option.some.inj hv
      exact .of (indexV_sound (hρ x (by simp)) (hρ ix (by simp)) hr')
    · exact genP_sound (by simpa only [Op.operands] using hρ) hv
  case call c =>
    obtain ⟨callee, args, argTypes⟩ := c
    unfold bpop at hv
    simp only at hv
    split at hv
    · rename_i b
      split at hv
      · rename_i hb
        subst hb
        split at hv
        · rename_i a ha
          obtain rfl : args = #[a] := Array.ext' ha
          unfold orGen at hv
          split at hv
          · rename_i r h1
            obtain rfl := Option.some.inj hv
            have h2 := hρ a (by simp [Call.operands])
            unfold lenV at h1
            split at h1
            · cases h1
            · rename_i t ht
              split at h1
              · rename_i e ad n c hu hx
                obtain rfl := Option.some.inj h1
                rw [hx] at h2
                obtain ⟨x', c', h3⟩ : ∃ x' c', ρ' a = .slice x' n c' := by
                  generalize ρ' a = y at *
                  cases h2 <;> exact ⟨_, _, rfl⟩
                have ee : execOp ρ' { dst := dst, op := .call { callee := .builtin .len, args := #[a], argTypes := argTypes }, type := ty, pos := pos, after := after, guard := guard } = (do pure (.value (← Builtin.len_ argTypes ty #[ρ' a]))) := by
                  simp only [execOp, resolve, invoke, List.map_toArray, List.map_cons, List.map_nil]
                  rfl
                rw [ee]
                refine StepP.of (s := Builtin.len_ argTypes ty #[ρ' a]) ⟨.int .i64 n, fun w => ?_, .int _ _⟩
                simp only [Builtin.len_, ht, h3, List.getElem?_toArray, List.getElem?_cons_zero, Sem.run_bind, run_underlying hu, Result.andThen_ok, Sem.run_pure]
                rfl
              · cases h1
          · exact genP_sound (by simpa only [Op.operands] using hρ) hv
        · cases hv
      · exact genP_sound (by simpa only [Op.operands] using hρ) hv
    · cases hv
  all_goals first | (cases hv; done) | exact genP_sound (by simpa only [Op.operands] using hρ) hv

theorem hop_sound {P : Program} {B lo : Nat} {D : Nat → Prop} {m : NMap} {h h' : List Blk} {w : World} {ρ ρ' : Operand → Value} {o : Oper} {v : Value} {wr : Option Nat} (hr : Rel B lo D m h w) (hlo : lo ≤ h.length)
    (hρ : ∀ x ∈ o.op.operands, VR D m (ρ x) (ρ' x)) (hv : hop P ρ o h = some (v, h', wr)) (hw : WrOk lo wr) : StepN P B lo D m h w (execOp ρ' o) v h' := by
  obtain ⟨dst, op, ty, pos, after, guard⟩ := o
  simp only [Op.operands] at hρ
  cases op <;> simp only [hop] at hv
  case alloc e =>
    split at hv
    · rename_i i hi
      split at hv
      · rename_i z hz
        split at hv
        · rename_i hc
          obtain ⟨rfl, rfl, rfl⟩ : _ = v ∧ _ = h' ∧ none = wr := by simpa using hv
          obtain ⟨v', w', m', h1, h2, h3⟩ := newVar_sound (P := P) hr hlo (esOf P e) e (VR.of_clean depth z hc)
          refine StepN.of ⟨v', w', m', ?_, h2, h3⟩
          simp only [Instr.alloc, Sem.run_bind, zeroValue, typeInfo, run_program, Result.andThen_ok, hi, hz, Sem.run_pure] at h1 ⊢
          exact h1
        · cases hv
      · cases hv
    · cases hv
  case box e x =>
    obtain ⟨rfl, rfl, rfl⟩ : _ = v ∧ _ = h' ∧ none = wr := by simpa using hv
    exact StepN.of (newVar_sound (P := P) hr hlo (esOf P e) e (hρ x (by simp)))
  case buildSlice t n ps =>
    obtain ⟨h1, rfl⟩ := newH_some hv
    exact StepN.of (buildSliceV_sound hr hlo (mapParts_prs hρ) h1)
  case makeSlice t l c =>
    obtain ⟨h1, rfl⟩ := newH_some hv
    exact StepN.of (makeSliceV_sound hr hlo (hρ l (by simp)) (hρ c (by simp)) h1)
  case load t a =>
    split at hv
    · rename_i n o ha
      cases hl : loadV P t h n o with
      | none => rw [hl] at hv; cases hv
      | some v0 =>
        rw [hl] at hv
        obtain ⟨rfl, rfl, rfl⟩ : v0 = v ∧ h = h' ∧ none = wr := by simpa using hv
        have h2 := hρ a (by simp)
        rw [ha] at h2
        obtain ⟨hD, h3⟩ : D n ∧ ρ' a = .pointer (some ⟨(m n).block, (m n).off + o, none⟩) := by
          generalize ρ' a = y at *
          cases h2; exact ⟨by assumption, rfl⟩
        obtain ⟨v', h4, h5⟩ := loadV_sound (P := P) hr hD hl
        refine .of (.pure hr (v' := v') ?_ h5)
        simp only [Instr.loadAt, h3, Instr.sureAddr, Sem.run_bind, Sem.run_pure, Result.andThen_ok, h4]
    · cases hv
  case store t a x =>
    split at hv
    · rename_i n o ha
      cases hst : storeV P t h n o (ρ x) with
      | none => rw [hst] at hv; cases hv
      | some h1 =>
        rw [hst] at hv
        obtain ⟨rfl, rfl, rfl⟩ : undef = v ∧ h1 = h' ∧ some n = wr := by simpa using hv
        have h2 := hρ a (by simp)
        rw [ha] at h2
        obtain ⟨hD, h3⟩ : D n ∧ ρ' a = .pointer (some ⟨(m n).block, (m n).off + o, none⟩) := by
          generalize ρ' a = y at *
          cases h2; exact ⟨by assumption, rfl⟩
        obtain ⟨w', h4, h5⟩ := storeV_sound (P := P) hr hD (hw n rfl) hst (hρ x (by simp))
        refine ⟨.skip, undef, w', m, ?_, .inr ⟨rfl, rfl⟩, h5, VR.undef⟩
        simp only [execOp, Instr.storeAt, h3, Instr.sureAddr, Sem.run_bind, Sem.run_pure, Result.andThen_ok, h4]
    · cases hv
  case slice t x lo hi mx =>
    cases mx with
    | some _ => cases hv
    | none =>
      simp only at hv
      cases hl : sliceV P t (ρ x) (lo.map ρ) (hi.map ρ) h with
      | none => rw [hl] at hv; cases hv
      | some v0 =>
        rw [hl] at hv
        obtain ⟨rfl, rfl, rfl⟩ : v0 = v ∧ h = h' ∧ none = wr := by simpa using hv
        have ho : ∀ q : Option Operand, (∀ y ∈ q, VR D m (ρ y) (ρ' y)) → OptR D m (q.map ρ) (q.map ρ') := by
          intro q hq
          cases q with
          | none => exact trivial
          | some y => exact hq y rfl
        obtain ⟨v', h4, h5⟩ := sliceV_sound (P := P) hr (hρ x (by simp)) (ho lo fun y hy => hρ y (by simp; exact .inr (.inl (Option.mem_def.1 hy)))) (ho hi fun y hy => hρ y (by simp; exact .inr (.inr (Option.mem_def.1 hy)))) hl
        refine .of (.pure hr (v' := v') ?_ h5)
        exact h4 w
  case call c =>
    obtain ⟨callee, args, argTypes⟩ := c
    unfold bhop at hv
    simp only at hv
    split at hv
    · rename_i b
      split at hv
      · rename_i hb
        subst hb
        split at hv
        · rename_i x y hxy
          obtain rfl : args = #[x, y] := Array.ext' hxy
          have ee : execOp ρ' { dst := dst, op := .call { callee := .builtin .append, args := #[x, y], argTypes := argTypes }, type := ty, pos := pos, after := after, guard := guard } = (do pure (.value (← Builtin.append_ argTypes ty #[ρ' x, ρ' y]))) := by
            simp only [execOp, resolve, invoke, List.map_toArray, List.map_cons, List.map_nil]
            rfl
          rw [ee]
          exact StepN.of (appendV_sound (ty := ty) hr hlo (hρ x (by simp [Call.operands])) (hρ y (by simp [Call.operands])) hv hw)
        · cases hv
      · cases hv
    · cases hv
  all_goals (cases hv; done)
end Go.Rex
