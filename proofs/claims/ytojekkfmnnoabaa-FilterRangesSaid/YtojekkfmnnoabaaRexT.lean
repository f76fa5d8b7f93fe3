/- An executor of the program's functions on trees of values, proved sound. -/
import Derived.Test.YtojekkfmnnoabaaRexR
set_option linter.unusedSimpArgs false
set_option linter.unusedVariables false
set_option linter.defProp false
namespace Go.Rex
open Go.RowKit

/-! ### region by region, operation by operation -/
def RO (C : Ctx) (P : Program) (lo : Nat) (ops : Array Oper) (l : List Oper) (tm : List Value) (h : List Blk) (Q : List Value → List Blk → Prop) : Prop :=
  ∃ tm' h' wr, runOps C P ops l tm h = some (tm', h', wr) ∧ wge wr lo = true ∧ Q tm' h'
section
variable {C : Ctx} {P : Program} {ro : Option Nat} {lo : Nat} {a : AS} {h : List Blk} {Q : Exit → AS → List Blk → Prop} {ops : Array Oper} {o : Oper} {rest : List Oper} {tm tm2 : List Value} {v : Value} {R : List Value → List Blk → Prop}
theorem RO.nil (hq : R tm h) : RO C P lo ops [] tm h R := ⟨tm, h, none, rfl, rfl, hq⟩
theorem RO.pop (hw : Region.wanted o (yielded ops ⟨tm⟩) = true) (hp : Rex.pop P (ev tm) o = some v) (ht : putL tm o.dst v = tm2) (hq : RO C P lo ops rest tm2 h R) : RO C P lo ops (o :: rest) tm h R := by
  subst ht
  obtain ⟨tm', h', wr, h1, h2, h3⟩ := hq
  exact ⟨tm', h', wr, by simp only [runOps, if_pos hw, hp, h1], h2, h3⟩
theorem RO.act {h1 : List Blk} {w1 : Option Nat} (hw : Region.wanted o (yielded ops ⟨tm⟩) = true) (hp : Rex.pop P (ev tm) o = none) (hx : xop C P (ev tm) o h = some (v, h1, w1)) (hg : wge w1 lo = true) (ht : putL tm o.dst v = tm2) (hq : RO C P lo ops rest tm2 h1 R) : RO C P lo ops (o :: rest) tm h R := by
  subst ht
  obtain ⟨tm', h', wr, h1', h2, h3⟩ := hq
  exact ⟨tm', h', wmin w1 wr, by simp only [runOps, if_pos hw, hp, hx, h1', Option.map_some], wge_min hg h2, h3⟩
theorem RO.skip (hw : Region.wanted o (yielded ops ⟨tm⟩) = false) (ht : putL tm o.dst undef = tm2) (hq : RO C P lo ops rest tm2 h R) : RO C P lo ops (o :: rest) tm h R := by
  subst ht
  obtain ⟨tm', h', wr, h1, h2, h3⟩ := hq
  exact ⟨tm', h', wr, by simp only [runOps, hw, Bool.false_eq_true, if_false, h1], h2, h3⟩
theorem XP.region {id : Nat} {l : List Oper} (hl : ops.toList = l) (hreg : regOk l = true) (hr : RO C P lo ops l a.tm h (fun tm' h' => Q .normal ⟨tm', a.df⟩ h')) : XP C P ro lo (.region id ops false) a h Q := by
  subst hl
  obtain ⟨tm', h', wr, h1, h2, h3⟩ := hr
  exact XP.ops hreg h1 h2 h3

/-- a region that draws: so far -/
def RD (C : Ctx) (P : Program) (lo : Nat) (ops : Array Oper) (ms : List Nat) (l : List Oper) (i : Nat) (s : Dr) (R : List Value → List Blk → Prop) : Prop :=
  ∃ s', drawAll C P ops ms l i s = some s' ∧ wge s'.wr lo = true ∧ R s'.tm s'.h
variable {ms : List Nat} {i : Nat} {np : List Nat} {c : Bool} {wr : Option Nat}
theorem RD.nil (hw : wge wr lo = true) (hq : R tm h) : RD C P lo ops ms [] i ⟨tm, h, np, c, wr⟩ R := ⟨_, rfl, hw, hq⟩
theorem RD.pop (hw : Region.wanted o (yielded ops ⟨tm⟩) = true) (hp : Rex.pop P (ev tm) o = some v) (ht : putL tm o.dst v = tm2) (hq : RD C P lo ops ms rest (i + 1) ⟨tm2, h, np, c, wr⟩ R) : RD C P lo ops ms (o :: rest) i ⟨tm, h, np, c, wr⟩ R := by
  subst ht
  obtain ⟨s', h1, h2⟩ := hq
  exact ⟨s', by simp only [drawAll, drawStep, if_pos hw, hp, h1], h2⟩
theorem RD.skip (hw : Region.wanted o (yielded ops ⟨tm⟩) = false) (ht : putL tm o.dst undef = tm2) (hq : RD C P lo ops ms rest (i + 1) ⟨tm2, h, np, c, wr⟩ R) : RD C P lo ops ms (o :: rest) i ⟨tm, h, np, c, wr⟩ R := by
  subst ht
  obtain ⟨s', h1, h2⟩ := hq
  exact ⟨s', by simp only [drawAll, drawStep, hw, Bool.false_eq_true, if_false, h1], h2⟩
/-- what grows the memory only -/
theorem RD.act {h1 : List Blk} (hw : Region.wanted o (yielded ops ⟨tm⟩) = true) (hp : Rex.pop P (ev tm) o = none) (hx : xop C P (ev tm) o h = some (v, h1, none)) (he : Ext h h1) (ht : putL tm o.dst v = tm2) (hq : RD C P lo ops ms rest (i + 1) ⟨tm2, h1, i :: np, false, wr⟩ R) : RD C P lo ops ms (o :: rest) i ⟨tm, h, np, false, wr⟩ R := by
  subst ht
  obtain ⟨s', h1', h2⟩ := hq
  exact ⟨s', by simp only [drawAll, drawStep, if_pos hw, hp, hx, drawHeap_ext he, h1'], h2⟩
/-- what writes: behind all that touched the memory -/
theorem RD.put {h1 : List Blk} {w1 : Option Nat} (hw : Region.wanted o (yielded ops ⟨tm⟩) = true) (hp : Rex.pop P (ev tm) o = none) (hx : xop C P (ev tm) o h = some (v, h1, w1)) (hc : c = true ∨ wge w1 h.length = false) (hn : np.all (fun j => (nthN ms i).testBit j) = true) (hl : h.length ≤ h1.length) (hg : wge w1 lo = true) (ht : putL tm o.dst v = tm2)
    (hq : RD C P lo ops ms rest (i + 1) ⟨tm2, h1, i :: np, true, wmin wr w1⟩ R) : RD C P lo ops ms (o :: rest) i ⟨tm, h, np, c, wr⟩ R := by
  subst ht
  obtain ⟨s', h1', h2⟩ := hq
  refine ⟨s', ?_, h2⟩
  simp only [drawAll, drawStep, if_pos hw, hp, hx, drawHeap]
  have hif : ¬ (c = false ∧ wge w1 h.length = true) := by
    rintro ⟨rfl, hg'⟩
    rcases hc with hc | hc
    · cases hc
    · rw [hc] at hg'; cases hg'
  rw [if_neg hif, if_pos ⟨hn, hl⟩]
  exact h1'
theorem XP.drawn {id : Nat} {l : List Oper} {ms : List Nat} (hok : drawOk ops = true) (hl : ops.toList = l) (hm : masks l [] = ms) (hr : RD C P lo ops ms l 0 ⟨a.tm, h, [], false, none⟩ (fun tm' h' => Q .normal ⟨tm', a.df⟩ h')) : XP C P ro lo (.region id ops true) a h Q := by
  subst hl
  subst hm
  obtain ⟨s', h1, h2, h3⟩ := hr
  exact XP.draws hok h1 h2 h3
end

/-- a context that knows more -/
noncomputable def over (P : Program) (f : FuncId) : Ctx := ⟨fun g args h => if g = f ∧ args = [] then some (.bool true, h, none) else (lim P).call g args h, (lim P).round⟩
theorem over_ok {P : Program} (hm : P.follows .mixedOrders = true) {k d : Nat} {f : FuncId} (hv : isTrue (ecall P k d f [] []) = true) : CtxOk P (over P f) :=
  ⟨fun {g args h v h' wr} hv' => by
    intro B lo D m w args' hr hlo hw hargs
    unfold over at hv'
    simp only at hv'
    split at hv'
    · rename_i hg
      obtain ⟨rfl, rfl⟩ := hg
      obtain ⟨rfl, rfl, rfl⟩ : Value.bool true = v ∧ h = h' ∧ none = wr := by simpa using hv'
      obtain rfl : args' = [] := by have := hargs.len; simpa using this
      refine (true_of_ecall hm hv w).mono ?_
      rintro e w' ⟨rfl, hb⟩
      exact ⟨_, m, rfl, Post.frame hr hb, VR.of_clean depth _ rfl⟩
    · exact (lim_ok hm).call hv' hr hlo hw hargs,
   (lim_ok hm).round⟩
theorem over_call {P : Program} {f g : FuncId} {args : List Value} {h : List Blk} : (over P f).call g args h = if g = f ∧ args = [] then some (.bool true, h, none) else (lim P).call g args h := rfl
/-- a law: it may call f, and then has its say -/
theorem law_call {P : Program} (hm : P.follows .mixedOrders = true) {k d : Nat} {f : FuncId} (hv : isTrue (ecall P k d f [] []) = true) {g : FuncId} {fd : Func} {c : Code} {args : List Value} {h : List Blk} (hf : P.funcs[g]? = some fd) (hb : fd.body = some c)
    {tm : List Value} (htm : args ++ List.replicate (fd.ntmps - args.length) undef = tm)
    (hx : XP (over P f) P none h.length c ⟨tm, []⟩ h (fun e a1 h1 => (e = .normal ∨ e = .ret) ∧ a1.df = [] ∧ ∃ vs, resAll P h1 a1.tm fd.results.toList = some vs ∧ oneOf vs = .bool true))
    {B lo : Nat} {D : Nat → Prop} {m : NMap} {w : World} {args' : List Value} (hr : Rel B lo D m h w) (hlo : lo ≤ h.length) (hargs : VRs D m args args') : Calls P g ⟨args'⟩ w (fun e w' => e = .returned (.bool true) ∧ Below w.heap.size w w') := by
  subst htm
  obtain ⟨K, e, a1, h1, w1, hx, hw, he, hdf, vs, hvs, hR⟩ := hx
  have hcall : runCall (over P f) P K g args h = some (.bool true, h, none) := by
    unfold runCall
    simp only [hf, hb, hx]
    have hend : runEnd P fd h.length h a1 h1 w1 = some (.bool true, h, none) := by
      simp [runEnd, hdf, takeDefers, hvs, hR, wmin_n2, hw, show isClean (.bool true) = true from rfl]
    rcases he with rfl | rfl <;> exact hend
  refine (runCall_sound (over_ok hm hv) (fun {_ _ _ _ _ _ _} hv' {_ _ _ _ _ _ _ _ _} hr hlo hA hw hQ => drawSound (over_ok hm hv) hm hv' hr hlo hA hw hQ) hcall (hr.still h.length (Nat.le_refl _)) (Nat.le_refl _) (fun n hn => by cases hn) hargs).mono ?_
  rintro e' w' ⟨v', m', rfl, hp, hvr⟩
  cases hvr
  exact ⟨rfl, hp.below⟩
end Go.Rex
