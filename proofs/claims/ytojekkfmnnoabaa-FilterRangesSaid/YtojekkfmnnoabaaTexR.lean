/- An executor of the program's functions on trees of values, proved sound. -/
import Derived.Test.YtojekkfmnnoabaaTexQ
set_option linter.unusedSimpArgs false
set_option linter.unusedVariables false
set_option linter.defProp false
namespace Go.Rex
open Go.RowKit
section
variable {C : Ctx} {P : Program} {ops : Array Oper} {rest : List Oper} {tm tm2 : List TV} {hp hp2 : List TB} {Q : TS → Prop} {o : Oper}
variable {dst : Option Tmp} {ty : TypeId} {pos : String} {aft : Array Edge} {gd : Option (Nat × Bool)} {p q : TV} {ms : List Nat} {i : Nat} {np : List Nat} {c : Bool}
theorem TX.unroll {b : Code} {s : TS} {Q : Exit → TS → Prop} (hx : TX C P b s (seqT (fun s => TX C P (.loop b) s Q) Q)) : TX C P (.loop b) s Q := by
  intro h0 Fz L tm h hs
  obtain ⟨K, e, ⟨tm', df'⟩, h', w1, h1, h2, hd, s', F', L', q, g, hs'⟩ := hx h0 Fz L tm h hs
  obtain rfl : df' = [] := hd
  cases e with
  | normal =>
    obtain ⟨K2, e2, a2, h2', w2, k1, k2, kd, s3, F3, L3, q3, g3, hs3⟩ := q h0 F' L' tm' h' hs'
    refine ⟨max K K2 + 1, e2, a2, h2', wmin w1 w2, ?_, wge_min h2 k2, kd, s3, F3, L3, q3, g.trans g3, hs3⟩
    simp only [exec]
    rw [exec_le (Nat.le_max_left K K2) h1]
    simp only
    rw [exec_le (Nat.le_max_right K K2) k1]
    rfl
  | _ => exact ⟨K + 1, _, _, h', w1, by simp only [exec, h1], h2, rfl, s', F', L', q, g, hs'⟩
theorem TX.vt {α : Type} (f : α → List TV) (t es : Nat) {b : Code} {Q : Exit → TS → Prop} (ht : tnth tm t = .v (.slice none 0 0)) (h1 : tm.set t (.lsl hp.length 0 ([] : List α).length) = tm2) (h2 : hp ++ [.rows es (([] : List α).map f)] = hp2) (hq : TX C P b ⟨tm2, hp2⟩ Q) : TX C P b ⟨tm, hp⟩ Q := by
  subst h1 h2
  exact TX.weak (Wk.nil t es ht) hq
theorem TX.here {b : Code} {s : TS} {Q : Exit → TS → Prop} (h : TX C P b s Q) : TX C P b s Q := h
theorem tmlc {α β : Type} {f : α → β} {xs : List α} {n : Nat} (h : xs.length = n) : (xs.map f).take n = xs.map f := by subst h; exact tml
theorem iaP {α : Type} {xs : List α} {u : α} {t e : TypeId} {x y : Operand} {n es : Nat} {k : IntKind} {iv : Int} {row : List TV} {vb : Bool} (hg : getI xs iv = some u) (hx : tev tm x = .fptr vb row 0) (hy : tev tm y = .v (.int k iv)) (hso : sliceOf P t = none) (ha : arrayOf P t = some (n, e)) (hn : xs.length = n) (ho : okT P e = true) (hes : P.cellsOf e = es) :
    tpop P hp tm { dst := dst, op := .indexAddr t x y, type := ty, pos := pos, after := aft, guard := gd } = some (.fptr vb row (0 + iv.toNat * es)) := by
  have h1 := getI_lt hg
  simp only [tpop, hx, hy, tindexAddr, hso, ha]
  rw [if_pos ⟨h1.1, by omega, ho⟩, hes]
theorem ldp_ok {vb : Bool} {α : Type} {f : α → List TV} {xs : List α} {u : α} {es : Nat} {t : TypeId} {iv : Int} {row : List TV} (hg : getI xs iv = some u) (hc : row = (xs.map f).flatten) (hf : ∀ a, (f a).length = es) (hes : P.cellsOf t = es)
    (hpp : (aggB P t = some true ∧ okT P t = true ∧ p = .agg (f u)) ∨ (aggB P t = some false ∧ es = 1 ∧ f u = [p])) : tload P hp t (.fptr vb row (0 + iv.toNat * es)) = some p := by
  simp only [tload, rowOf, Nat.zero_add]
  rw [hc]
  exact part_get hf (getI_at hg) hes hpp
/-! ### functions of the runtime -/
def extF (P : Program) (g : FuncId) : Option (Array Value → Sem Value) :=
  match P.funcs[g]? with
  | some fd => if fd.body.isNone = true ∧ (fd.name == "runtime.NumGoroutine") = false ∧ (Extern.findNext fd).isNone = true then Extern.find fd else none
  | none => none
theorem extV_of {g : FuncId} {F : Array Value → Sem Value} {vals : List Value} {v : Value} (hF : extF P g = some F) (hc : vals.all isClean = true) (hv : prun P (F ⟨vals⟩) = some v) (hcv : isClean v = true) (h : List Blk) : goFn P g = false ∧ xslow P g vals h = some (v, h, none) := by
  unfold extF at hF
  split at hF
  · rename_i fd hfd
    split at hF
    · rename_i hcond
      obtain ⟨h1, h2, h3⟩ := hcond
      have hb : fd.body = none := by simpa using h1
      refine ⟨by simp [goFn, hfd, hb], ?_⟩
      have hcall : prun P (callFunc g ⟨vals⟩) = some (.value v) := by
        unfold callFunc
        rw [prun_bind]
        show prun P (match P.funcs[g]? with | none => _ | some fn => _) = _
        rw [hfd]
        simp only [h2, Bool.false_eq_true, if_false, h1, if_true]
        have hn : Extern.findNext fd = none := by simpa using h3
        rw [hn]
        rw [prun_bind]
        show prun P _ = _
        simp only [hF]
        show prun P (F ⟨vals⟩ >>= fun r => (pure (Next.value r) : Sem Next)) = _
        rw [prun_bind, hv]
        rfl
      simp only [xslow, hfd, hb, extV, hc, if_true, hcall, hcv, Option.map_some]
    · cases hF
  · cases hF
theorem extG {fo : Operand} {g : FuncId} {args : Array Operand} {tys : Array TypeId} {F : Array Value → Sem Value} {l : List TV} {vals : List Value} {v : Value} (hf : tev tm fo = .func g [] []) (hF : extF P g = some F) (hl : args.toList.map (tev tm) = l) (he : l.mapM (er 3) = some vals) (hc : vals.all isClean = true) (hv : prun P (F ⟨vals⟩) = some v) (hcv : isClean v = true) (hi : injOk 3 v = true) (hp1 : inj 3 v = p) :
    OpG C P { dst := dst, op := .call { callee := .value fo, args := args, argTypes := tys }, type := ty, pos := pos, after := aft, guard := gd } ⟨tm, hp⟩ ⟨tput tm dst p, hp⟩ := by
  subst hp1
  intro h0 Fz L vm h hs
  have hfv := tev_vl hs.tmr fo
  rw [show tev (TS.mk tm hp).tm fo = _ from hf] at hfv
  obtain ⟨f', c', hfe, vf, vc⟩ : ∃ f' c', ev vm fo = .func (.func g) ⟨f'⟩ ⟨c'⟩ ∧ VLs Fz h noL [] f' ∧ VLs Fz h noL [] c' := by
    generalize ev vm fo = y at *
    cases hfv with
    | func _ _ _ _ a' b' la ha lb hb => exact ⟨a', b', rfl, ⟨la, ha⟩, ⟨lb, hb⟩⟩
  have hf0 : f' = [] := by have := vf.len; simpa using this
  have hc0 : c' = [] := by have := vc.len; simpa using this
  subst hf0 hc0
  have hargs := args_vls hs.tmr args.toList
  rw [show args.toList.map (tev (TS.mk tm hp).tm) = l from hl] at hargs
  obtain ⟨q1, q2⟩ := mapM_some he
  have hve : args.toList.map (ev vm) = vals := by
    apply List.ext_getElem?
    intro j
    cases hx : (args.toList.map (ev vm))[j]? with
    | none =>
      rw [List.getElem?_eq_none_iff] at hx
      rw [eq_comm, List.getElem?_eq_none_iff]
      have := hargs.len
      omega
    | some x =>
      have hj := (List.getElem?_eq_some_iff.1 hx).1
      have hll := hargs.len
      have hp' : l[j]? = some l[j] := List.getElem?_eq_getElem (by omega)
      have hy : vals[j]? = some vals[j] := List.getElem?_eq_getElem (by omega)
      rw [hy, VL.er 3 (q2 j _ _ hp' hy) (hargs.at' j _ _ hp' hx)]
  obtain ⟨hg, hx⟩ := extV_of hF hc hv hcv h
  refine ⟨rfl, v, h, ?_, Ext.refl h, Fz, L, Grow.refl _ _, hs.put dst (VL.inj 3 hi)⟩
  simp only [xop, hop, bhop]
  rw [xcall_eq]
  simp only [hfe]
  rw [if_neg (by rw [hg]; exact Bool.false_ne_true)]
  simp only [List.nil_append, List.append_nil, hve]
  exact hx
theorem TO.ex {fo : Operand} {g : FuncId} {args : Array Operand} {tys : Array TypeId} {F : Array Value → Sem Value} {l : List TV} {vals : List Value} {v : Value} (hw : twant ops tm { dst := dst, op := .call { callee := .value fo, args := args, argTypes := tys }, type := ty, pos := pos, after := aft, guard := gd } = some true) (hf : tev tm fo = .func g [] []) (hF : extF P g = some F) (hl : args.toList.map (tev tm) = l) (he : l.mapM (er 3) = some vals) (hc : vals.all isClean = true) (hv : prun P (F ⟨vals⟩) = some v) (hcv : isClean v = true) (hi : injOk 3 v = true) (hp1 : inj 3 v = p)
    (ht : tput tm dst p = tm2) (hq : TO C P ops rest ⟨tm2, hp⟩ Q) : TO C P ops ({ dst := dst, op := .call { callee := .value fo, args := args, argTypes := tys }, type := ty, pos := pos, after := aft, guard := gd } :: rest) ⟨tm, hp⟩ Q := by
  subst ht; exact TO.g hw (extG hf hF hl he hc hv hcv hi hp1) hq
theorem TD.ex {fo : Operand} {g : FuncId} {args : Array Operand} {tys : Array TypeId} {F : Array Value → Sem Value} {l : List TV} {vals : List Value} {v : Value} (hw : twant ops tm { dst := dst, op := .call { callee := .value fo, args := args, argTypes := tys }, type := ty, pos := pos, after := aft, guard := gd } = some true) (hf : tev tm fo = .func g [] []) (hF : extF P g = some F) (hl : args.toList.map (tev tm) = l) (he : l.mapM (er 3) = some vals) (hc : vals.all isClean = true) (hv : prun P (F ⟨vals⟩) = some v) (hcv : isClean v = true) (hi : injOk 3 v = true) (hp1 : inj 3 v = p)
    (ht : tput tm dst p = tm2) (hq : TD C P ops ms rest (i + 1) (i :: np) false ⟨tm2, hp⟩ Q) : TD C P ops ms ({ dst := dst, op := .call { callee := .value fo, args := args, argTypes := tys }, type := ty, pos := pos, after := aft, guard := gd } :: rest) i np false ⟨tm, hp⟩ Q := by
  subst ht; exact TD.g hw (extG hf hF hl he hc hv hcv hi hp1) hq
/-! ### floats -/
variable {x y : Operand} {t u : TypeId}
def fcmp (op : BinOp) (k : FloatKind) (a b : Nat) : Bool :=
  let c := k.format.order a b
  match op with
  | .eql => c == some .eq
  | .neq => c != some .eq
  | .lss => c == some .lt
  | .leq => c == some .lt || c == some .eq
  | .gtr => c == some .gt
  | _ => c == some .gt || c == some .eq
theorem pop_fcmp {b : BinOp} {k : FloatKind} {a d : Nat} (h : tev tm x = .v (.float k a)) (g : tev tm y = .v (.float k d)) (hb : b = .eql ∨ b = .neq ∨ b = .lss ∨ b = .leq ∨ b = .gtr ∨ b = .geq) : tpop P hp tm { dst := dst, op := .binOp b t x y u, type := ty, pos := pos, after := aft, guard := gd } = some (.v (.bool (fcmp b k a d))) := by
  refine bin_ok (r := .bool (fcmp b k a d)) h g ?_ rfl rfl ?_ ?_ rfl rfl
  · simp [fastBin]
  · rcases hb with rfl | rfl | rfl | rfl | rfl | rfl <;> rfl
  · rcases hb with rfl | rfl | rfl | rfl | rfl | rfl <;> (simp [binOp, Op.floatCmp, fcmp]; rfl)
def farith (op : BinOp) (k : FloatKind) (a b : Nat) : Option Nat :=
  match op with
  | .add => k.format.add a b
  | .sub => k.format.sub a b
  | .mul => k.format.mul a b
  | _ => k.format.div a b
theorem pop_farith {b : BinOp} {k : FloatKind} {a d r : Nat} (h : tev tm x = .v (.float k a)) (g : tev tm y = .v (.float k d)) (hb : b = .add ∨ b = .sub ∨ b = .mul ∨ b = .quo) (hr : farith b k a d = some r) : tpop P hp tm { dst := dst, op := .binOp b t x y u, type := ty, pos := pos, after := aft, guard := gd } = some (.v (.float k r)) := by
  refine bin_ok (r := .float k r) h g ?_ rfl rfl (eqG_other ?_) ?_ rfl rfl
  · simp [fastBin]
  · rcases hb with rfl | rfl | rfl | rfl <;> exact ⟨by decide, by decide⟩
  · rcases hb with rfl | rfl | rfl | rfl <;> (simp only [farith] at hr; simp [binOp, Op.floatArith, hr, prun_bind]; rfl)
theorem pop_fneg {k : FloatKind} {a : Nat} (h : tev tm x = .v (.float k a)) : tpop P hp tm { dst := dst, op := .unOp .neg t x, type := ty, pos := pos, after := aft, guard := gd } = some (.v (.float k (Op.negFloat k a))) := by
  have h1 : tgen P tm { dst := dst, op := .unOp .neg t x, type := ty, pos := pos, after := aft, guard := gd } = some (inj 3 (.float k (Op.negFloat k a))) := by
    refine tgen_run rfl (fun cs b e => by cases e) (by simpa [Op.operands] using some_v h) (by simp [Op.operands, erased_v h]; rfl) ?_ rfl rfl
    show prun P (Op.unary .neg (erased tm x) >>= fun r => (pure (Next.value r) : Sem Next)) = _
    rw [prun_bind, erased_v h]
    rfl
  exact h1
/-- towards a whole number; nothing if it draws -/
def trI (way : Ieee.Toward) (b : Nat) : Option Nat :=
  match FloatKind.f64.decode b with
  | .nan _ t => if FloatKind.f64.format.quiet t = t then some b else none
  | d => some (FloatKind.f64.encode (d.integral way))
theorem trI_ok {n : String} {way : Ieee.Toward} {b r : Nat} (h : trI way b = some r) : prun P (Extern.MathFloor.toIntegral n way #[.float .f64 b]) = some (.float .f64 r) := by
  unfold trI at h
  show prun P (match FloatKind.f64.decode b with
    | .nan s t => if FloatKind.f64.format.quiet t = t then (pure (Value.float .f64 b) : Sem Value) else do
      let kept ← choose (.extern "math.Floor,Ceil,Trunc,RoundToEven.signallingNaN kept" 2)
      pure (Value.float .f64 (if kept == 1 then b else FloatKind.f64.encode (.nan s (FloatKind.f64.format.quiet t))))
    | d => pure (Value.float .f64 (FloatKind.f64.encode (d.integral way)))) = _
  split at h
  · rename_i hd
    split at h
    · rename_i hq
      obtain rfl := Option.some.inj h
      rw [if_pos hq]
      rfl
    · cases h
  · obtain rfl := Option.some.inj h
    rfl
end
end Go.Rex
