/- An executor of the program's functions on trees of values, proved sound. -/
import Derived.Test.YtojekkfmnnoabaaRexI
set_option linter.unusedSimpArgs false
set_option linter.unusedVariables false
set_option linter.defProp false
namespace Go.Rex
open Go.RowKit

structure Ctx where
  call : FuncId → List Value → List Blk → AOut
  round : Nat → List Value → List Blk → AOut

/-- the state of an activation: its temporaries, and the names of its marks -/
structure AS where
  tm : List Value
  df : List Nat

def nth : List Value → Nat → Value
  | [], _ => undef
  | v :: _, 0 => v
  | _ :: l, n + 1 => nth l n
theorem nth_eq : ∀ (l : List Value) (n : Nat), nth l n = l[n]?.getD undef
  | [], n => by simp [nth]
  | v :: l, 0 => by simp [nth]
  | v :: l, n + 1 => by simp [nth, nth_eq l n]
def ev (tm : List Value) : Operand → Value
  | .tmp t => nth tm t
  | .const v => v
  | .global g => .pointer (some ⟨g, 0, none⟩)
  | .func f => .func (.func f) #[] #[]
def putL (tm : List Value) (dst : Option Tmp) (v : Value) : List Value :=
  match dst with
  | some d => tm.set d v
  | none => tm

def wmin : Option Nat → Option Nat → Option Nat
  | none, b => b
  | a, none => a
  | some a, some b => some (min a b)
def wge (wr : Option Nat) (k : Nat) : Bool := match wr with | none => true | some n => decide (k ≤ n)

/-- a function without a body: as the model has it -/
def extV (P : Program) (g : FuncId) (args : List Value) : Option Value :=
  if args.all isClean = true then
    match prun P (callFunc g ⟨args⟩) with
    | some (.value v) => if isClean v = true then some v else none
    | _ => none
  else none

/-- an operation: a call of a Go function, a round, or what stands above -/
def xcall (C : Ctx) (P : Program) (ρ : Operand → Value) (c : Call) (h : List Blk) : AOut :=
  match c.callee with
  | .value f => match ρ f with
    | .func fn ⟨first⟩ ⟨captured⟩ => match fn with
      | .func g => match P.funcs[g]? with
        | some fd => match fd.body with
          | some _ => if (fd.name == "runtime.NumGoroutine") = false then C.call g (first ++ (c.args.toList.map ρ ++ captured)) h else none
          | none => (extV P g (first ++ (c.args.toList.map ρ ++ captured))).map fun v => (v, h, none)
        | none => none
      | .yield l => C.round l (c.args.toList.map ρ) h
      | _ => none
    | _ => none
  | _ => none
def xop (C : Ctx) (P : Program) (ρ : Operand → Value) (o : Oper) (h : List Blk) : AOut :=
  match hop P ρ o h with
  | some r => some r
  | none => match o.op with
    | .call c => xcall C P ρ c h
    | _ => none

def opsOk (o : Oper) : Bool := o.op.operands.toList.all opndOk
/-- what is asked of a region that draws nothing -/
def regOk (ops : List Oper) : Bool := ops.all opsOk

def runOps (C : Ctx) (P : Program) (ops : Array Oper) : List Oper → List Value → List Blk → Option (List Value × List Blk × Option Nat)
  | [], tm, h => some (tm, h, none)
  | o :: rest, tm, h =>
    if Region.wanted o (yielded ops ⟨tm⟩) = true then
      match pop P (ev tm) o with
      | some v => runOps C P ops rest (putL tm o.dst v) h
      | none =>
        match xop C P (ev tm) o h with
        | some (v, h1, w1) => (runOps C P ops rest (putL tm o.dst v) h1).map fun (a2, h2, w2) => (a2, h2, wmin w1 w2)
        | none => none
    else runOps C P ops rest (putL tm o.dst undef) h

/-! ### a region that draws its order -/
def nthN : List Nat → Nat → Nat
  | [], _ => 0
  | v :: _, 0 => v
  | _ :: l, n + 1 => nthN l n
/-- on which operations one waits, by bits; 'ms': those of the operations ahead -/
def waits (ms : List Nat) : List Edge → Nat
  | [] => 0
  | e :: es => if Region.binds .any e = true then waits ms es ||| (2 ^ e.on ||| nthN ms e.on) else waits ms es
def masks : List Oper → List Nat → List Nat
  | [], ms => ms
  | o :: os, ms => masks os (ms ++ [waits ms o.after.toList])

/-- who writes which temporary -/
def dsts : List Oper → Nat → List (Nat × Nat)
  | [], _ => []
  | o :: os, i => match o.dst with
    | some d => (d, i) :: dsts os (i + 1)
    | none => dsts os (i + 1)
def nodupD : List (Nat × Nat) → Bool
  | [] => true
  | (d, _) :: l => l.all (fun p => p.1 != d) && nodupD l
/-- operation i looks at t: whoever writes it is ordered beside it -/
def lookOk (ms : List Nat) (m i t : Nat) (ds : List (Nat × Nat)) : Bool :=
  ds.all fun p => p.1 != t || p.2 == i || m.testBit p.2 || (nthN ms p.2).testBit i
def eachOk (ops : Array Oper) (ms : List Nat) (ds : List (Nat × Nat)) : List Oper → Nat → Bool
  | [], _ => true
  | o :: os, i => opsOk o && (decide (nthN ms i < 2 ^ i) && ((o.looksAt ops).all (fun t => lookOk ms (nthN ms i) i t ds) && eachOk ops ms ds os (i + 1)))
def drawOk (ops : Array Oper) : Bool :=
  let ms := masks ops.toList []
  let ds := dsts ops.toList 0
  nodupD ds && eachOk ops ms ds ops.toList 0

structure Dr where
  tm : List Value
  h : List Blk
  np : List Nat
  chain : Bool
  wr : Option Nat

def drawHeap (m i : Nat) (o : Oper) (s : Dr) (r : AOut) : Option Dr :=
  match r with
  | some (v, h1, w1) =>
    if s.chain = false ∧ wge w1 s.h.length = true then
      (if h1.length = s.h.length then some { tm := putL s.tm o.dst v, h := s.h, np := i :: s.np, chain := false, wr := s.wr }
       else some { tm := putL s.tm o.dst v, h := s.h ++ h1.drop s.h.length, np := i :: s.np, chain := false, wr := s.wr })
    else if s.np.all (fun j => m.testBit j) = true ∧ s.h.length ≤ h1.length then some { tm := putL s.tm o.dst v, h := h1, np := i :: s.np, chain := true, wr := wmin s.wr w1 }
    else none
  | none => none
def drawStep (C : Ctx) (P : Program) (ops : Array Oper) (m i : Nat) (o : Oper) (s : Dr) : Option Dr :=
  if Region.wanted o (yielded ops ⟨s.tm⟩) = true then
    match pop P (ev s.tm) o with
    | some v => some { s with tm := putL s.tm o.dst v }
    | none => drawHeap m i o s (xop C P (ev s.tm) o s.h)
  else some { s with tm := putL s.tm o.dst undef }
def drawAll (C : Ctx) (P : Program) (ops : Array Oper) (ms : List Nat) : List Oper → Nat → Dr → Option Dr
  | [], _, s => some s
  | o :: rest, i, s => match drawStep C P ops (nthN ms i) i o s with
    | some s' => drawAll C P ops ms rest (i + 1) s'
    | none => none
def runDraw (C : Ctx) (P : Program) (ops : Array Oper) (tm : List Value) (h : List Blk) : Option (List Value × List Blk × Option Nat) :=
  if drawOk ops = true then
    (drawAll C P ops (masks ops.toList []) ops.toList 0 { tm, h, np := [], chain := false, wr := none }).map fun s => (s.tm, s.h, s.wr)
  else none

abbrev EOut := Option (Exit × AS × List Blk × Option Nat)
def liftE (df : List Nat) (r : Option (List Value × List Blk × Option Nat)) : EOut := r.map fun (tm, h, w) => (.normal, ⟨tm, df⟩, h, w)

/-- the statement 'for range over a function' -/
def rangeStart (ro : Option Nat) (h : List Blk) : Option (List Blk × Nat × List Nat) :=
  match ro with
  | none => some (h ++ [.dfr], h.length, [h.length])
  | some l => match h[l]? with
    | some (.loop _ _ _ _ _ _ d) => some (h, d, [])
    | _ => none
def rangeEnd (a' : AS) (l : Nat) (h2 : List Blk) (w2 : Option Nat) : EOut :=
  match h2[l]? with
  | some (.loop st pend _ _ _ _ _) =>
    if st = .busy then none else
    match pend with
    | none => some (.normal, a', h2.set l .dead, w2)
    | some c => match c with
      | .ret => some (.ret, a', h2.set l .dead, w2)
      | .exit id => some (.exit id, a', h2.set l .dead, w2)
      | _ => none
  | _ => none
def runRange (C : Ctx) (P : Program) (ro : Option Nat) (g : Operand) (ps : Array Tmp) (assign body : Code) (a : AS) (h : List Blk) : EOut :=
  if opndOk g = true then
  match ev a.tm g with
  | .func fn ⟨first⟩ ⟨captured⟩ => match fn with
    | .func gf => match P.funcs[gf]? with
      | some fd => if fd.body.isSome = true ∧ (fd.name == "runtime.NumGoroutine") = false then
          match rangeStart ro h with
          | none => none
          | some (h1, d, mark) =>
            match C.call gf (first ++ ([.func (.yield h1.length) #[] #[]] ++ captured)) (h1 ++ [.loop .ready none a.tm ps assign body d]) with
            | some (_, h2, w2) => rangeEnd ⟨a.tm, mark ++ a.df⟩ h1.length h2 w2
            | none => none
        else none
      | none => none
    | _ => none
  | _ => none
  else none

def exec (C : Ctx) (P : Program) (ro : Option Nat) : Nat → Code → AS → List Blk → EOut
  | 0, _, _, _ => none
  | k + 1, c, a, h => match c with
    | .skip => some (.normal, a, h, none)
    | .label _ => some (.normal, a, h, none)
    | .exit id => some (.exit id, a, h, none)
    | .ret => some (.ret, a, h, none)
    | .seq x y => match exec C P ro k x a h with
      | none => none
      | some (e, a1, h1, w1) => match e with
        | .normal => (exec C P ro k y a1 h1).map fun (e2, a2, h2, w2) => (e2, a2, h2, wmin w1 w2)
        | _ => some (e, a1, h1, w1)
    | .cond c x y => if opndOk c = true then match ev a.tm c with
        | .bool t => match t with
          | true => exec C P ro k x a h
          | false => exec C P ro k y a h
        | _ => none
      else none
    | .block id b => match exec C P ro k b a h with
      | none => none
      | some (e, a1, h1, w1) => match e with
        | .exit id' => if id' = id then some (.normal, a1, h1, w1) else some (.exit id', a1, h1, w1)
        | _ => some (e, a1, h1, w1)
    | .loop b => match exec C P ro k b a h with
      | none => none
      | some (e, a1, h1, w1) => match e with
        | .normal => (exec C P ro k (.loop b) a1 h1).map fun (e2, a2, h2, w2) => (e2, a2, h2, wmin w1 w2)
        | _ => some (e, a1, h1, w1)
    | .region _ ops draw => match draw with
      | true => liftE a.df (runDraw C P ops a.tm h)
      | false => if regOk ops.toList = true then liftE a.df (runOps C P ops ops.toList a.tm h) else none
    | .rangeFunc g ps assign body => runRange C P ro g ps assign body a h
    | _ => none

def takeDefers : List Nat → List Blk → Option (List Blk × Option Nat)
  | [], h => some (h, none)
  | n :: ds, h => match h[n]? with
    | some .dfr => (takeDefers ds (h.set n .dead)).map fun (h2, w) => (h2, wmin (some n) w)
    | _ => none

def resV (P : Program) (h : List Blk) (tm : List Value) : ResultVar → Option Value
  | .tmp t => some (nth tm t)
  | .cell a t => match nth tm a with
    | .pointer (some ⟨n, o, none⟩) => loadV P t h n o
    | _ => none
def resAll (P : Program) (h : List Blk) (tm : List Value) : List ResultVar → Option (List Value)
  | [] => some []
  | r :: rs => match resV P h tm r with
    | some v => (resAll P h tm rs).map fun vs => v :: vs
    | none => none
def oneOf : List Value → Value
  | [v] => v
  | vs => .tuple ⟨vs⟩

/-- a call's end: the marks, the results; what can't be reached any more is forgotten -/
def runEnd (P : Program) (fd : Func) (n0 : Nat) (h : List Blk) (a1 : AS) (h1 : List Blk) (w1 : Option Nat) : AOut :=
  match takeDefers a1.df h1 with
  | some (h2, w2) => match resAll P h2 a1.tm fd.results.toList with
    | some vs =>
      if isClean (oneOf vs) = true then
        (if wge (wmin w1 w2) n0 = true then some (oneOf vs, h, none) else some (oneOf vs, h2, wmin w1 w2))
      else if wge (wmin w1 w2) n0 = true then some (oneOf vs, h2, none) else some (oneOf vs, h2, wmin w1 w2)
    | none => none
  | none => none
def runCall (C : Ctx) (P : Program) (k : Nat) (f : FuncId) (args : List Value) (h : List Blk) : AOut :=
  match P.funcs[f]? with
  | none => none
  | some fd => match fd.body with
    | none => none
    | some c =>
      match exec C P none k c ⟨args ++ List.replicate (fd.ntmps - args.length) undef, []⟩ h with
      | some (e, a1, h1, w1) => match e with
        | .normal => runEnd P fd h.length h a1 h1 w1
        | .ret => runEnd P fd h.length h a1 h1 w1
        | _ => none
      | none => none
def setArgs : List Tmp → List Value → List Value → List Value
  | p :: ps, v :: vs, tmps => setArgs ps vs (tmps.set p v)
  | _, _, tmps => tmps
def roundEnd (l : Nat) (jump : Option Code) (h2 : List Blk) (w : Option Nat) : AOut :=
  match h2[l]? with
  | some (.loop _ _ t3 p3 as3 b3 d3) => some (.bool jump.isNone, h2.set l (.loop (if jump.isNone then .ready else .done) jump t3 p3 as3 b3 d3), wmin (some l) w)
  | _ => none
def runRound (C : Ctx) (P : Program) (k : Nat) (l : Nat) (args : List Value) (h : List Blk) : AOut :=
  match h[l]? with
  | some (.loop st _ tmps ps assign body _) =>
    if st = .ready ∧ args.length = ps.size then
      match exec C P (some l) k assign ⟨setArgs ps.toList args tmps, []⟩ h with
      | some (e, a1, h1, w1) => match e with
        | .normal => match h1[l]? with
          | some (.loop st1 pend1 tmps' ps' as' bd' d') =>
            if st1 = .ready then
            match exec C P (some l) k body a1 (h1.set l (.loop .busy pend1 tmps' ps' as' bd' d')) with
            | some (e2, _, h2, w2) => match e2 with
                | .normal => roundEnd l none h2 (wmin w1 w2)
                | .ret => roundEnd l (some .ret) h2 (wmin w1 w2)
                | .exit id => roundEnd l (some (.exit id)) h2 (wmin w1 w2)
                | _ => none
            | none => none
            else none
          | _ => none
        | _ => none
      | none => none
    else none
  | _ => none

def ctx (P : Program) (k : Nat) : Nat → Ctx
  | 0 => ⟨fun _ _ _ => none, fun _ _ _ => none⟩
  | d + 1 => ⟨runCall (ctx P k d) P k, runRound (ctx P k d) P k⟩

def ecall (P : Program) (k d : Nat) (f : FuncId) (args : List Value) (h : List Blk) : AOut := (ctx P k d).call f args h
end Go.Rex
