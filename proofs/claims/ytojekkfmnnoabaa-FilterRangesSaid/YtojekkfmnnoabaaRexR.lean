/- An executor of the program's functions on trees of values, proved sound. -/
import Derived.Test.YtojekkfmnnoabaaRexQ
set_option linter.unusedSimpArgs false
set_option linter.unusedVariables false
set_option linter.defProp false
namespace Go.Rex
open Go.RowKit

theorem wge_min {a b : Option Nat} {k : Nat} (ha : wge a k = true) (hb : wge b k = true) : wge (wmin a b) k = true := by
  cases a <;> cases b <;> simp_all [wge, wmin]
  omega

/-- a code ends so; it writes under no name below 'lo' -/
def XP (C : Ctx) (P : Program) (ro : Option Nat) (lo : Nat) (c : Code) (a : AS) (h : List Blk) (Q : Exit → AS → List Blk → Prop) : Prop :=
  ∃ K e a' h' wr, exec C P ro K c a h = some (e, a', h', wr) ∧ wge wr lo = true ∧ Q e a' h'

section
variable {C : Ctx} {P : Program} {ro : Option Nat} {lo : Nat} {a : AS} {h : List Blk} {Q : Exit → AS → List Blk → Prop}

theorem XP.mono {c : Code} {Q' : Exit → AS → List Blk → Prop} (hx : XP C P ro lo c a h Q) (hq : ∀ e a' h', Q e a' h' → Q' e a' h') : XP C P ro lo c a h Q' := by
  obtain ⟨K, e, a', h', wr, h1, h2, h3⟩ := hx
  exact ⟨K, e, a', h', wr, h1, h2, hq _ _ _ h3⟩
theorem XP.skip (hq : Q .normal a h) : XP C P ro lo .skip a h Q := ⟨1, _, _, _, none, rfl, rfl, hq⟩
theorem XP.exit {id : Nat} (hq : Q (.exit id) a h) : XP C P ro lo (.exit id) a h Q := ⟨1, _, _, _, none, rfl, rfl, hq⟩
theorem XP.ret (hq : Q .ret a h) : XP C P ro lo .ret a h Q := ⟨1, _, _, _, none, rfl, rfl, hq⟩
/-- behind a part of a sequence -/
def seqQ (next : AS → List Blk → Prop) (Q : Exit → AS → List Blk → Prop) : Exit → AS → List Blk → Prop
  | .normal, a, h => next a h
  | e, a, h => Q e a h
theorem XP.seq {x y : Code} (hx : XP C P ro lo x a h (seqQ (fun a h => XP C P ro lo y a h Q) Q)) : XP C P ro lo (.seq x y) a h Q := by
  obtain ⟨K, e, a1, h1, w1, hx, hw, hq⟩ := hx
  cases e with
  | normal =>
    obtain ⟨K2, e2, a2, h2, w2, hy, hw2, hq2⟩ := hq
    refine ⟨max K K2 + 1, e2, a2, h2, wmin w1 w2, ?_, wge_min hw hw2, hq2⟩
    simp only [exec]
    rw [exec_le (Nat.le_max_left K K2) hx]
    simp only
    rw [exec_le (Nat.le_max_right K K2) hy]
    rfl
  | _ => exact ⟨K + 1, _, a1, h1, w1, by simp only [exec, hx], hw, hq⟩
theorem XP.cond_true {c : Operand} {x y : Code} (ho : opndOk c = true) (hc : ev a.tm c = .bool true) (hx : XP C P ro lo x a h Q) : XP C P ro lo (.cond c x y) a h Q := by
  obtain ⟨K, e, a1, h1, w1, hx, hw, hq⟩ := hx
  exact ⟨K + 1, e, a1, h1, w1, by simp only [exec, ho, if_true, hc, hx], hw, hq⟩
theorem XP.cond_false {c : Operand} {x y : Code} (ho : opndOk c = true) (hc : ev a.tm c = .bool false) (hx : XP C P ro lo y a h Q) : XP C P ro lo (.cond c x y) a h Q := by
  obtain ⟨K, e, a1, h1, w1, hx, hw, hq⟩ := hx
  exact ⟨K + 1, e, a1, h1, w1, by simp only [exec, ho, if_true, hc, hx], hw, hq⟩
def blockQ (id : Nat) (Q : Exit → AS → List Blk → Prop) : Exit → AS → List Blk → Prop
  | .exit id', a, h => if id' = id then Q .normal a h else Q (.exit id') a h
  | e, a, h => Q e a h
theorem XP.block {id : Nat} {b : Code} (hx : XP C P ro lo b a h (blockQ id Q)) : XP C P ro lo (.block id b) a h Q := by
  obtain ⟨K, e, a1, h1, w1, hx, hw, hq⟩ := hx
  cases e with
  | exit id' =>
    by_cases hid : id' = id
    · refine ⟨K + 1, .normal, a1, h1, w1, by simp only [exec, hx, if_pos hid], hw, ?_⟩
      simpa only [blockQ, if_pos hid] using hq
    · refine ⟨K + 1, .exit id', a1, h1, w1, by simp only [exec, hx, if_neg hid], hw, ?_⟩
      simpa only [blockQ, if_neg hid] using hq
  | _ => exact ⟨K + 1, _, a1, h1, w1, by simp only [exec, hx], hw, hq⟩
theorem XP.loop {b : Code} (I : AS → List Blk → Prop) (μ : AS → List Blk → Nat) (h0 : I a h) (round : ∀ a h, I a h → XP C P ro lo b a h (seqQ (fun a' h' => I a' h' ∧ μ a' h' < μ a h) Q)) : XP C P ro lo (.loop b) a h Q := by
  generalize hn : μ a h = n
  induction n using Nat.strongRecOn generalizing a h with
  | _ n ih =>
  obtain ⟨K, e, a1, h1, w1, hx, hw, hq⟩ := round a h h0
  cases e with
  | normal =>
    obtain ⟨hI, hlt⟩ := hq
    obtain ⟨K2, e2, a2, h2, w2, hy, hw2, hq2⟩ := ih (μ a1 h1) (by omega) hI rfl
    refine ⟨max K K2 + 1, e2, a2, h2, wmin w1 w2, ?_, wge_min hw hw2, hq2⟩
    simp only [exec]
    rw [exec_le (Nat.le_max_left K K2) hx]
    simp only
    rw [exec_le (Nat.le_max_right K K2) hy]
    rfl
  | _ => exact ⟨K + 1, _, a1, h1, w1, by simp only [exec, hx], hw, hq⟩
theorem XP.ops {id : Nat} {ops : Array Oper} {tm' : List Value} {h' : List Blk} {wr : Option Nat} (hreg : regOk ops.toList = true) (hr : runOps C P ops ops.toList a.tm h = some (tm', h', wr)) (hw : wge wr lo = true) (hq : Q .normal ⟨tm', a.df⟩ h') :
    XP C P ro lo (.region id ops false) a h Q := ⟨1, .normal, ⟨tm', a.df⟩, h', wr, by simp only [exec, hreg, if_true, hr, liftE, Option.map_some], hw, hq⟩
theorem XP.draw {id : Nat} {ops : Array Oper} {tm' : List Value} {h' : List Blk} {wr : Option Nat} (hr : runDraw C P ops a.tm h = some (tm', h', wr)) (hw : wge wr lo = true) (hq : Q .normal ⟨tm', a.df⟩ h') :
    XP C P ro lo (.region id ops true) a h Q := ⟨1, .normal, ⟨tm', a.df⟩, h', wr, by simp only [exec, hr, liftE, Option.map_some], hw, hq⟩

theorem XP.draws {id : Nat} {ops : Array Oper} {s : Dr} (hok : drawOk ops = true) (hr : drawAll C P ops (masks ops.toList []) ops.toList 0 { tm := a.tm, h, np := [], chain := false, wr := none } = some s) (hw : wge s.wr lo = true) (hq : Q .normal ⟨s.tm, a.df⟩ s.h) :
    XP C P ro lo (.region id ops true) a h Q := XP.draw (tm' := s.tm) (h' := s.h) (wr := s.wr) (by simp only [runDraw, hok, if_true, hr, Option.map_some]) hw hq

theorem seqQ_n {next : AS → List Blk → Prop} (hq : next a h) : seqQ next Q .normal a h := hq
theorem seqQ_e {next : AS → List Blk → Prop} {id : Nat} (hq : Q (.exit id) a h) : seqQ next Q (.exit id) a h := hq
theorem seqQ_r {next : AS → List Blk → Prop} (hq : Q .ret a h) : seqQ next Q .ret a h := hq
theorem blockQ_n {id : Nat} (hq : Q .normal a h) : blockQ id Q .normal a h := hq
theorem blockQ_r {id : Nat} (hq : Q .ret a h) : blockQ id Q .ret a h := hq
theorem blockQ_e {id : Nat} (hq : Q .normal a h) : blockQ id Q (.exit id) a h := by simpa only [blockQ, if_true] using hq
theorem blockQ_ne {id id' : Nat} (hn : (id' == id) = false) (hq : Q (.exit id') a h) : blockQ id Q (.exit id') a h := by
  have : ¬ id' = id := by intro e; subst e; simp at hn
  simpa only [blockQ, if_neg this] using hq

theorem nth_set_ne {l : List Value} {i j : Nat} {v : Value} (h : i ≠ j) : nth (l.set i v) j = nth l j := by rw [nth_eq, nth_eq, List.getElem?_set_ne h]
theorem nth_set_eq {l : List Value} {i : Nat} {v : Value} (h : i < l.length) : nth (l.set i v) i = v := by rw [nth_eq, List.getElem?_set_self h]; rfl

/-- a function that leaves nothing behind -/
theorem pure_fun {f : FuncId} {fd : Func} {c : Code} {args : List Value} {v : Value} (hf : P.funcs[f]? = some fd) (hb : fd.body = some c) {tm : List Value} (htm : args ++ List.replicate (fd.ntmps - args.length) undef = tm)
    (hx : XP (lim P) P none h.length c ⟨tm, []⟩ h (fun e a1 h1 => (e = .normal ∨ e = .ret) ∧ a1.df = [] ∧ ∃ vs, resAll P h1 a1.tm fd.results.toList = some vs ∧ isClean (oneOf vs) = true ∧ oneOf vs = v)) : (lim P).call f args h = some (v, h, none) := by
  subst htm
  obtain ⟨K, e, a1, h1, w1, hx, hw, he, hdf, vs, hvs, hcl, rfl⟩ := hx
  refine lim_runCall (K := K) ?_
  unfold runCall
  simp only [hf, hb, hx]
  have hend : runEnd P fd h.length h a1 h1 w1 = some (oneOf vs, h, none) := by
    have hm : wmin w1 none = w1 := by cases w1 <;> rfl
    simp only [runEnd, hdf, takeDefers, hvs, hcl, if_true, hm, hw]
  rcases he with rfl | rfl <;> exact hend

/-- a function whose result has names: its blocks stay -/
theorem name_fun {f : FuncId} {fd : Func} {c : Code} {args : List Value} {R : Value → List Blk → Prop} (hf : P.funcs[f]? = some fd) (hb : fd.body = some c) {tm : List Value} (htm : args ++ List.replicate (fd.ntmps - args.length) undef = tm)
    (hx : XP (lim P) P none h.length c ⟨tm, []⟩ h (fun e a1 h1 => (e = .normal ∨ e = .ret) ∧ a1.df = [] ∧ ∃ vs, resAll P h1 a1.tm fd.results.toList = some vs ∧ isClean (oneOf vs) = false ∧ R (oneOf vs) h1)) : ∃ v h', (lim P).call f args h = some (v, h', none) ∧ R v h' := by
  subst htm
  obtain ⟨K, e, a1, h1, w1, hx, hw, he, hdf, vs, hvs, hcl, hR⟩ := hx
  refine ⟨oneOf vs, h1, lim_runCall (K := K) ?_, hR⟩
  unfold runCall
  simp only [hf, hb, hx]
  have hend : runEnd P fd h.length h a1 h1 w1 = some (oneOf vs, h1, none) := by
    have hm : wmin w1 none = w1 := by cases w1 <;> rfl
    simp [runEnd, hdf, takeDefers, hvs, hcl, hm, hw]
  rcases he with rfl | rfl <;> exact hend

/-- a heap that has grown -/
def Ext (h h' : List Blk) : Prop := ∃ t, h' = h ++ t
theorem Ext.refl (h : List Blk) : Ext h h := ⟨[], by simp⟩
theorem Ext.trans {h1 h2 h3 : List Blk} (a : Ext h1 h2) (b : Ext h2 h3) : Ext h1 h3 := by
  obtain ⟨t, rfl⟩ := a
  obtain ⟨u, rfl⟩ := b
  exact ⟨t ++ u, by simp⟩
theorem Ext.app (h t : List Blk) : Ext h (h ++ t) := ⟨t, rfl⟩
theorem Ext.le {h h' : List Blk} (a : Ext h h') : h.length ≤ h'.length := by
  obtain ⟨t, rfl⟩ := a
  simp
theorem Ext.at {h h' : List Blk} (a : Ext h h') {n : Nat} {b : Blk} (hb : h[n]? = some b) : h'[n]? = some b := by
  obtain ⟨t, rfl⟩ := a
  rw [List.getElem?_append_left (List.getElem?_eq_some_iff.1 hb).1, hb]
theorem drawHeap_ext {m i : Nat} {o : Oper} {tm : List Value} {np : List Nat} {v : Value} {h1 : List Blk} {wr : Option Nat} (hx : Ext h h1) : drawHeap m i o ⟨tm, h, np, false, wr⟩ (some (v, h1, none)) = some ⟨putL tm o.dst v, h1, i :: np, false, wr⟩ := by
  obtain ⟨t, rfl⟩ := hx
  simp only [drawHeap, wge]
  cases t <;> simp

/-- a function of the program, with a body -/
def goFn (P : Program) (g : FuncId) : Bool := match P.funcs[g]? with
  | some fd => match fd.body with
    | some _ => !(fd.name == "runtime.NumGoroutine")
    | none => false
  | none => false
def xslow (P : Program) (g : FuncId) (args : List Value) (h : List Blk) : AOut := match P.funcs[g]? with
  | some fd => match fd.body with
    | some _ => none
    | none => (extV P g args).map fun v => (v, h, none)
  | none => none
theorem xcall_eq {C : Ctx} {ρ : Operand → Value} {c : Call} : xcall C P ρ c h = (match c.callee with
    | .value f => match ρ f with
      | .func fn ⟨first⟩ ⟨captured⟩ => match fn with
        | .func g => if goFn P g = true then C.call g (first ++ (c.args.toList.map ρ ++ captured)) h else xslow P g (first ++ (c.args.toList.map ρ ++ captured)) h
        | .yield l => C.round l (c.args.toList.map ρ) h
        | _ => none
      | _ => none
    | _ => none) := by
  unfold xcall
  cases c.callee with
  | value f =>
    simp only
    cases ρ f with
    | func fn first captured =>
      obtain ⟨first⟩ := first
      obtain ⟨captured⟩ := captured
      cases fn with
      | func g =>
        rcases hf : P.funcs[g]? with _ | fd
        · have hg : goFn P g = false := by simp [goFn, hf]
          simp [hg, hf, xslow]
        · rcases hb : fd.body with _ | b
          · have hg : goFn P g = false := by simp [goFn, hf, hb]
            simp [hg, hf, hb, xslow]
          · cases hn : (fd.name == "runtime.NumGoroutine")
            · have hg : goFn P g = true := by simp [goFn, hf, hb, hn]
              simp [hg, hf, hb, hn]
            · have hg : goFn P g = false := by simp [goFn, hf, hb, hn]
              simp [hg, hf, hb, hn, xslow]
      | _ => rfl
    | _ => rfl
  | _ => rfl
theorem load1 {t n o : Nat} {es : Nat} {cs : List Value} {v : Value} (ha : aggB P t = some false) (hb : h[n]? = some (.cells es cs)) (hc : cs[o]? = some v) : loadV P t h n o = some v := by
  have h2 := (List.getElem?_eq_some_iff.1 hc).1
  simp only [loadV, ha, readCells, hb]
  rw [if_pos (by omega)]
  have e : (cs.drop o).take 1 = [v] := by
    rw [List.take_one, List.head?_drop, hc]; rfl
  rw [e]
theorem wmin_n1 (b : Option Nat) : wmin none b = b := by cases b <;> rfl
theorem wmin_n2 (b : Option Nat) : wmin b none = b := by cases b <;> rfl
theorem wmin_ss (a b : Nat) : wmin (some a) (some b) = some (min a b) := rfl
theorem wge_n (k : Nat) : wge none k = true := rfl
theorem wge_s (a k : Nat) : wge (some a) k = decide (k ≤ a) := rfl
/-- a loop that counts -/
theorem XP.count {c : Code} (n : Nat) (I : Nat → AS → List Blk → Prop) (h0 : I 0 a h) (step : ∀ k a h, k ≤ n → I k a h → XP C P ro lo c a h (seqQ (fun a' h' => k < n ∧ I (k + 1) a' h') Q)) : XP C P ro lo (.loop c) a h Q := by
  suffices H : ∀ j k a h, n - k = j → k ≤ n → I k a h → XP C P ro lo (.loop c) a h Q from H n 0 a h rfl (Nat.zero_le _) h0
  intro j
  induction j with
  | zero =>
    intro k a h hj hk hI
    obtain ⟨K, e, a1, h1, w1, hx, hw, hq⟩ := step k a h hk hI
    cases e with
    | normal => exact absurd hq.1 (by omega)
    | _ => exact ⟨K + 1, _, a1, h1, w1, by simp only [exec, hx], hw, hq⟩
  | succ j ih =>
    intro k a h hj hk hI
    obtain ⟨K, e, a1, h1, w1, hx, hw, hq⟩ := step k a h hk hI
    cases e with
    | normal =>
      obtain ⟨hlt, hI'⟩ := hq
      obtain ⟨K2, e2, a2, h2, w2, hy, hw2, hq2⟩ := ih (k + 1) a1 h1 (by omega) (by omega) hI'
      refine ⟨max K K2 + 1, e2, a2, h2, wmin w1 w2, ?_, wge_min hw hw2, hq2⟩
      simp only [exec]
      rw [exec_le (Nat.le_max_left K K2) hx]
      simp only
      rw [exec_le (Nat.le_max_right K K2) hy]
      rfl
    | _ => exact ⟨K + 1, _, a1, h1, w1, by simp only [exec, hx], hw, hq⟩
end
/-- temporaries of a known number, one by one -/
def slots (j : Nat → Value) : Nat → Nat → List Value
  | 0, _ => []
  | n + 1, i => j i :: slots j n (i + 1)
theorem slots_len (j : Nat → Value) : ∀ n i, (slots j n i).length = n
  | 0, _ => rfl
  | n + 1, i => by simp [slots, slots_len j n]
theorem slots_at (j : Nat → Value) : ∀ n i k (hk : k < (slots j n i).length), (slots j n i)[k] = j (i + k)
  | 0, _, _, hk => by simp [slots] at hk
  | n + 1, i, 0, _ => by simp [slots]
  | n + 1, i, k + 1, hk => by
    simp only [slots, List.getElem_cons_succ]
    rw [slots_at j n (i + 1) k]
    congr 1
    omega
theorem expl {tm : List Value} {n : Nat} (h : tm.length = n) : ∃ j : Nat → Value, tm = slots j n 0 := by
  refine ⟨nth tm, ?_⟩
  subst h
  apply List.ext_getElem
  · rw [slots_len]
  · intro i h1 h2
    rw [slots_at, nth_eq, Nat.zero_add, List.getElem?_eq_getElem h1]
    rfl

def genS := @genP
theorem genP_neg {P : Program} {ρ : Operand → Value} {d : Option Tmp} {t : TypeId} {x : Operand} {ty : TypeId} {pos : String} {aft : Array Edge} {gd : Option (Nat × Bool)} : genP P ρ { dst := d, op := .unOp .neg t x, type := ty, pos := pos, after := aft, guard := gd } = (match ρ x with | .int k a => some (.int k (k.wrap (0 - a))) | _ => genS P ρ { dst := d, op := .unOp .neg t x, type := ty, pos := pos, after := aft, guard := gd }) := by
  cases hx : ρ x with
  | int k a =>
    have h1 : ([x].all fun x => isClean (ρ x)) = true := by simp only [List.all_cons, List.all_nil, hx]; rfl
    have h2 : prun P (execOp ρ { dst := d, op := .unOp .neg t x, type := ty, pos := pos, after := aft, guard := gd }) = some (.value (.int k (k.wrap (0 - a)))) := by
      simp only [execOp, hx]
      rfl
    unfold genP
    simp only
    rw [show (Op.unOp UnOp.neg t x).operands.toList = [x] from rfl, if_pos h1, h2]
    rfl
  | _ => rfl
theorem genP_not {P : Program} {ρ : Operand → Value} {d : Option Tmp} {t : TypeId} {x : Operand} {ty : TypeId} {pos : String} {aft : Array Edge} {gd : Option (Nat × Bool)} : genP P ρ { dst := d, op := .unOp .not t x, type := ty, pos := pos, after := aft, guard := gd } = (match ρ x with | .bool a => some (.bool !a) | _ => genS P ρ { dst := d, op := .unOp .not t x, type := ty, pos := pos, after := aft, guard := gd }) := by
  cases hx : ρ x with
  | bool a =>
    have h1 : ([x].all fun x => isClean (ρ x)) = true := by simp only [List.all_cons, List.all_nil, hx]; rfl
    have h2 : prun P (execOp ρ { dst := d, op := .unOp .not t x, type := ty, pos := pos, after := aft, guard := gd }) = some (.value (.bool !a)) := by
      simp only [execOp, hx]
      rfl
    unfold genP
    simp only
    rw [show (Op.unOp UnOp.not t x).operands.toList = [x] from rfl, if_pos h1, h2]
    rfl
  | _ => rfl
end Go.Rex
