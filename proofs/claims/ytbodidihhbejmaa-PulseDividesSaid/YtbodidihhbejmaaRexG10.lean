/- An executor of the program's functions on trees of values, proved sound. -/
import Derived.Test.YtbodidihhbejmaaRexG9
import Derived.Test.YtbodidihhbejmaaRexG7
set_option linter.unusedSimpArgs false
set_option linter.unusedVariables false
set_option linter.defProp false
namespace Go.Rex
open Go.RowKit
theorem z3 : (∀ (α : Type) (a b : α) (l : List α), (a :: l).set 0 b = b :: l) ∧ (∀ (α : Type) (a b : α) (l : List α) (n : Nat), (a :: l).set (n + 1) b = a :: l.set n b) ∧ (∀ (α : Type) (a : α) (l : List α), (a :: l)[0]? = some a) ∧ (∀ (α : Type) (a : α) (l : List α) (n : Nat), (a :: l)[n + 1]? = l[n]?) ∧
    (∀ (α β : Type) (f : α → β) (a : α) (l : List α),(a :: l).map f = f a :: l.map f) ∧ (∀ (α β : Type) (f : α → β),([] : List α).map f = []) ∧ (∀ (α : Type) (a : α) (l m : List α),(a :: l) ++ m = a :: (l ++ m)) ∧ (∀ (α : Type) (l : List α),[] ++ l = l) ∧ (∀ (α : Type) (a : α) (l : List α),(a :: l).length = l.length + 1) ∧ (∀ (α : Type),([] : List α).length = 0) ∧
    (∀ (α : Type) (l : List α),l.drop 0 = l) ∧ (∀ (α : Type) (a : α) (l : List α) (n : Nat),(a :: l).drop (n + 1) = l.drop n) ∧ (∀ (α : Type) (n : Nat),([] : List α).drop n = []) ∧ (∀ (α : Type) (l : List α),l.take 0 = []) ∧ (∀ (α : Type) (a : α) (l : List α) (n : Nat),(a :: l).take (n + 1) = a :: l.take n) ∧ (∀ (α : Type) (n : Nat),([] : List α).take n = []) ∧
    (∀ (α β : Type) (f : α → β) (a : α),(some a).map f = some (f a)) ∧ (∀ (α β : Type) (f : α → β) (l : List α),(l.map f).length = l.length) :=
  ⟨fun _ _ _ _=>rfl,fun _ _ _ _ _=>rfl,fun _ _ _=>rfl,fun _ _ _ _=>rfl,fun _ _ _ _ _=>rfl,fun _ _ _=>rfl,fun _ _ _ _=>rfl,fun _ _=>rfl,fun _ _ _=>rfl,fun _=>rfl,fun _ _=>rfl,fun _ _ _ _=>rfl,fun _ n=>by cases n<;>rfl,fun _ _=>rfl,fun _ _ _ _=>rfl,fun _ n=>by cases n<;>rfl,fun _ _ _ _=>rfl,fun _ _ _ _=>List.length_map _⟩
theorem z4 : (∀ l, tcells (.agg l) = l) ∧ (∀ x, tcells (.v x) = [.v x]) ∧ (∀ a b, tcells (.list a b) = [.list a b]) ∧ (∀ a b c, tcells (.func a b c) = [.func a b c]) ∧ (∀ v a b, tcells (.fptr v a b) = [.fptr v a b]) ∧ (∀ a b c, tcells (.lptr a b c) = [.lptr a b c]) ∧ (∀ a b c, tcells (.lsl a b c) = [.lsl a b c]) ∧
    (∀ l,isJunk (.agg l) = false) ∧ (∀ x,isJunk (.v x) = false) ∧ (∀ a b,isJunk (.list a b) = false) ∧ (∀ a b c,isJunk (.func a b c) = false) ∧ (∀ v a b,isJunk (.fptr v a b) = false) ∧ (∀ a b c,isJunk (.lptr a b c) = false) ∧ (∀ a b c,isJunk (.lsl a b c) = false) ∧
    (∀ a b,tpick (.v (.bool true)) a b = some a) ∧ (∀ a b,tpick (.v (.bool false)) a b = some b) ∧ (∀ ops tm dst op ty pos aft,twant ops tm { dst:=dst,op:=op,type:=ty,pos:=pos,after:=aft,guard:=none } = some true) ∧ (∀ (c : List TV) o l,tsplice c o l = c.take o ++ l ++ c.drop (o + l.length)) ∧
    (∀ tm,tput tm none = fun _=>tm) :=
  ⟨fun _=>rfl,fun _=>rfl,fun _ _=>rfl,fun _ _ _=>rfl,fun _ _ _=>rfl,fun _ _ _=>rfl,fun _ _ _=>rfl,fun _=>rfl,fun _=>rfl,fun _ _=>rfl,fun _ _ _=>rfl,fun _ _ _=>rfl,fun _ _ _=>rfl,fun _ _ _=>rfl,fun _ _=>rfl,fun _ _=>rfl,fun _ _ _ _ _ _ _=>rfl,fun _ _ _=>rfl,fun _=>rfl⟩
end Go.Rex
namespace Go.Rex
theorem z5 : (∀ r,tidx r 0 = r[0]?) ∧ (∀ r,tidx r 1 = r[1]?) ∧ (∀ r,tidx r 2 = r[2]?) ∧ (∀ r,tidx r 3 = r[3]?) ∧ (∀ r,tidx r 4 = r[4]?) ∧ (∀ r,tidx r 5 = r[5]?) ∧ (∀ r,tidx r 6 = r[6]?) ∧ (∀ r,tidx r 7 = r[7]?) ∧ (∀ r,tidx r 8 = r[8]?) ∧ (∀ r,tidx r 9 = r[9]?):=by
  refine ⟨?_,?_,?_,?_,?_,?_,?_,?_,?_,?_⟩<;>(intro r;rfl)
example : (0 : Int) < ((2 : Nat) : Int):=by simp only [Int.cast_ofNat_Int,Int.reduceLT]
end Go.Rex
namespace Go.Rex
theorem tml {α β : Type} {f : α → β} {xs : List α} : (xs.map f).take xs.length = xs.map f:=List.take_of_length_le (by simp)
end Go.Rex

namespace Go.Rex
open Go.RowKit
section
variable {C : Ctx} {P : Program} {ops : Array Oper} {rest : List Oper} {tm tm2 : List TV} {hp hp2 : List TB} {Q : TS → Prop} {o : Oper}
variable {dst : Option Tmp} {ty : TypeId} {pos : String} {aft : Array Edge} {gd : Option (Nat × Bool)} {p q : TV} {ms : List Nat} {i : Nat} {np : List Nat} {c : Nat}
theorem TX.unroll {b : Code} {s : TS} {Q : Exit → TS → Prop} (hx : TX C P b s (seqT (fun s=>TX C P (.loop b) s Q) Q)) : TX C P (.loop b) s Q:=by
  intro h0 Fz L tm h hs
  obtain ⟨K,e,⟨tm',df'⟩,h',w1,h1,h2,hd,s',F',L',q,g,hs'⟩:=hx h0 Fz L tm h hs
  obtain rfl : df' = []:=hd
  cases e with
  | normal =>
    obtain ⟨K2,e2,a2,h2',w2,k1,k2,kd,s3,F3,L3,q3,g3,hs3⟩:=q h0 F' L' tm' h' hs'
    refine ⟨max K K2 + 1,e2,a2,h2',wmin w1 w2,?_,wge_min h2 k2,kd,s3,F3,L3,q3,g.trans g3,hs3⟩
    simp only [exec]
    rw [exec_le (Nat.le_max_left K K2) h1]
    simp only
    rw [exec_le (Nat.le_max_right K K2) k1]
    rfl
  | _=>exact ⟨K + 1,_,_,h',w1,by simp only [exec,h1],h2,rfl,s',F',L',q,g,hs'⟩
theorem TX.vt {α : Type} (f : α → List TV) (t es : Nat) {b : Code} {Q : Exit → TS → Prop} (ht : tnth tm t = .v (.slice none 0 0)) (h1 : tm.set t (.lsl hp.length 0 ([] : List α).length) = tm2) (h2 : hp ++ [.rows es (([] : List α).map f)] = hp2) (hq : TX C P b ⟨tm2,hp2⟩ Q) : TX C P b ⟨tm,hp⟩ Q:=by
  subst h1 h2
  exact TX.weak (Wk.nil t es ht) hq
theorem TX.here {b : Code} {s : TS} {Q : Exit → TS → Prop} (h : TX C P b s Q) : TX C P b s Q:=h
theorem tmlc {α β : Type} {f : α → β} {xs : List α} {n : Nat} (h : xs.length = n) : (xs.map f).take n = xs.map f:=by subst h;exact tml
/-! ### functions of the runtime -/
def extF (P : Program) (g : FuncId) : Option (Array Value → Sem Value) :=
  match P.funcs[g]? with
  | some fd => if fd.body.isNone = true ∧ (fd.name == "runtime.NumGoroutine") = false ∧ (Extern.findNext fd).isNone = true then Extern.find fd else none
  | none=>none
theorem extV_of {g : FuncId} {F : Array Value → Sem Value} {vals : List Value} {v : Value} (hF : extF P g = some F) (hc : vals.all isFixed = true) (hv : prun P (F ⟨vals⟩) = some v) (hcv : isClean v = true) (h : List Blk) : goFn P g = false ∧ xslow P g vals h = some (v,h,none):=by
  unfold extF at hF
  split at hF
  · rename_i fd hfd
    split at hF
    · rename_i hcond
      obtain ⟨h1,h2,h3⟩:=hcond
      have hb : fd.body = none:=by simpa using h1
      refine ⟨by simp [goFn,hfd,hb],?_⟩
      have hcall : prun P (callFunc g ⟨vals⟩) = some (.value v):=by
        unfold callFunc
        rw [prun_bind]
        show prun P (match P.funcs[g]? with|none=>_|some fn=>_) = _
        rw [hfd]
        simp only [h2,Bool.false_eq_true,if_false,h1,if_true]
        have hn : Extern.findNext fd = none:=by simpa using h3
        rw [hn]
        rw [prun_bind]
        show prun P _ = _
        simp only [hF]
        show prun P (F ⟨vals⟩ >>= fun r=>(pure (Next.value r) : Sem Next)) = _
        rw [prun_bind,hv]
        rfl
      simp only [xslow,hfd,hb,extX,extV,hc,if_true,hcall,hcv,Option.map_some]
    · cases hF
  · cases hF
theorem extS {fo : Operand} {g : FuncId} {args : Array Operand} {tys : Array TypeId} {l : List TV} {vals : List Value} {v : Value} (hf : tev tm fo = .func g [] []) (hl : args.toList.map (tev tm) = l) (he : l.mapM (er 3) = some vals) (hs0 : ∀ h, goFn P g = false ∧ xslow P g vals h = some (v, h, none)) (hi : injOk 3 v = true) (hp1 : inj 3 v = p) :
    OpG C P { dst:=dst,op:=.call { callee:=.value fo,args:=args,argTypes:=tys },type:=ty,pos:=pos,after:=aft,guard:=gd } ⟨tm,hp⟩ ⟨tput tm dst p,hp⟩:=by
  subst hp1
  intro h0 Fz L vm h hs
  have hfv:=tev_vl hs.fz hs.tmr fo
  rw [show tev (TS.mk tm hp).tm fo = _ from hf] at hfv
  obtain ⟨f',c',hfe,vf,vc⟩ : ∃ f' c',ev vm fo = .func (.func g) ⟨f'⟩ ⟨c'⟩ ∧ VLs Fz h noL [] f' ∧ VLs Fz h noL [] c':=by
    generalize ev vm fo = y at *
    cases hfv with
    | func _ _ _ _ a' b' la ha lb hb=>exact ⟨a',b',rfl,⟨la,ha⟩,⟨lb,hb⟩⟩
  have hf0 : f' = []:=by have:=vf.len;simpa using this
  have hc0 : c' = []:=by have:=vc.len;simpa using this
  subst hf0 hc0
  have hargs:=args_vls hs.fz hs.tmr args.toList
  rw [show args.toList.map (tev (TS.mk tm hp).tm) = l from hl] at hargs
  obtain ⟨q1,q2⟩:=mapM_some he
  have hve : args.toList.map (ev vm) = vals:=by
    apply List.ext_getElem?
    intro j
    cases hx : (args.toList.map (ev vm))[j]? with
    | none =>
      rw [List.getElem?_eq_none_iff] at hx
      rw [eq_comm,List.getElem?_eq_none_iff]
      have:=hargs.len
      omega
    | some x =>
      have hj:=(List.getElem?_eq_some_iff.1 hx).1
      have hll:=hargs.len
      have hp' : l[j]? = some l[j]:=List.getElem?_eq_getElem (by omega)
      have hy : vals[j]? = some vals[j]:=List.getElem?_eq_getElem (by omega)
      rw [hy,VL.er 3 (q2 j _ _ hp' hy) (hargs.at' j _ _ hp' hx)]
  obtain ⟨hg,hx⟩:=hs0 h
  refine ⟨rfl,v,h,?_,Ext.refl h,Fz,L,Grow.refl _ _,hs.put dst (VL.inj 3 hi)⟩
  simp only [xop,hop,bhop]
  rw [xcall_eq]
  simp only [hfe]
  rw [if_neg (by rw [hg];exact Bool.false_ne_true)]
  simp only [List.nil_append,List.append_nil,hve]
  exact hx
theorem extG {fo : Operand} {g : FuncId} {args : Array Operand} {tys : Array TypeId} {F : Array Value → Sem Value} {l : List TV} {vals : List Value} {v : Value} (hf : tev tm fo = .func g [] []) (hF : extF P g = some F) (hl : args.toList.map (tev tm) = l) (he : l.mapM (er 3) = some vals) (hc : vals.all isFixed = true) (hv : prun P (F ⟨vals⟩) = some v) (hcv : isClean v = true) (hi : injOk 3 v = true) (hp1 : inj 3 v = p) :
    OpG C P { dst:=dst,op:=.call { callee:=.value fo,args:=args,argTypes:=tys },type:=ty,pos:=pos,after:=aft,guard:=gd } ⟨tm,hp⟩ ⟨tput tm dst p,hp⟩:=extS hf hl he (fun h=>extV_of hF hc hv hcv h) hi hp1
theorem TO.ex {fo : Operand} {g : FuncId} {args : Array Operand} {tys : Array TypeId} {F : Array Value → Sem Value} {l : List TV} {vals : List Value} {v : Value} (hw : twant ops tm { dst := dst, op := .call { callee := .value fo, args := args, argTypes := tys }, type := ty, pos := pos, after := aft, guard := gd } = some true) (hf : tev tm fo = .func g [] []) (hF : extF P g = some F) (hl : args.toList.map (tev tm) = l) (he : l.mapM (er 3) = some vals) (hc : vals.all isFixed = true) (hv : prun P (F ⟨vals⟩) = some v) (hcv : isClean v = true) (hi : injOk 3 v = true) (hp1 : inj 3 v = p)
    (ht : tput tm dst p = tm2) (hq : TO C P ops rest ⟨tm2,hp⟩ Q) : TO C P ops ({ dst:=dst,op:=.call { callee:=.value fo,args:=args,argTypes:=tys },type:=ty,pos:=pos,after:=aft,guard:=gd } :: rest) ⟨tm,hp⟩ Q:=by
  subst ht;exact TO.g hw (extG hf hF hl he hc hv hcv hi hp1) hq
/-! ### floats -/
variable {x y : Operand} {t u : TypeId}
theorem bin_prun {b : BinOp} {v w : Value} {r : Option Value} (he : prun P (eqGuard b t x y v w) = some ()) (hw : prun P (binOp b t v w) = r) : prun P (eqGuard b t x y v w >>= fun _=>binOp b t v w) = r:=by
  rw [prun_bind,he,Option.bind_some,hw]
theorem eqG_float {b : BinOp} {k k' : FloatKind} {a d : Nat} : prun P (eqGuard b t x y (.float k a) (.float k' d)) = some ():=by
  cases b<;>rfl
theorem eqG_complex {b : BinOp} {k k' : FloatKind} {a d a2 d2 : Nat} : prun P (eqGuard b t x y (.complex k a a2) (.complex k' d d2)) = some ():=by
  cases b<;>rfl
theorem pop_fcmp {b : BinOp} {k : FloatKind} {a d : Nat} (h : tev tm x = .v (.float k a)) (g : tev tm y = .v (.float k d)) (hb : b = .eql ∨ b = .neq ∨ b = .lss ∨ b = .leq ∨ b = .gtr ∨ b = .geq) : tpop P hp tm { dst:=dst,op:=.binOp b t x y u,type:=ty,pos:=pos,after:=aft,guard:=gd } = some (.v (.bool (fcmp b k a d))):=by
  refine bin_nan (r:=.bool (fcmp b k a d)) h g ?_ ?_ (.inl (bin_prun eqG_float ?_)) rfl
  · simp [fastBin]
  · rcases hb with rfl|rfl|rfl|rfl|rfl|rfl<;>simp [binN]
  · rcases hb with rfl|rfl|rfl|rfl|rfl|rfl<;>(simp [binOp,Op.floatCmp,fcmp];rfl)
/-- arithmetic of floats: of what is no number some word stands for all -/
def farith (op : BinOp) (k : FloatKind) (a b : Nat) : Option Nat:=some (arN op k a b)
theorem far_prun {b : BinOp} {k : FloatKind} {a d : Nat} (hb : b = .add ∨ b = .sub ∨ b = .mul ∨ b = .quo) : prun P (Op.floatArith b k a d) = some (.float k (arN b k a d)) ∨ prun P (Op.floatArith b k a d) = none:=by
  have e : prun P (Op.floatArith b k a d) = prun P (match farith0 b k a d with|some r=>pure (.float k r)|none=>do pure (.float k (← choose (.nanBits k a d))) : Sem Value):=by
    rcases hb with rfl|rfl|rfl|rfl<;>rfl
  rw [e]
  unfold arN
  cases farith0 b k a d with
  | some r=>exact .inl rfl
  | none=>exact .inr rfl
theorem pop_fneg {k : FloatKind} {a : Nat} (h : tev tm x = .v (.float k a)) : tpop P hp tm { dst:=dst,op:=.unOp .neg t x,type:=ty,pos:=pos,after:=aft,guard:=gd } = some (.v (.float k (Op.negFloat k a))):=by
  have h1 : tgen P tm { dst:=dst,op:=.unOp .neg t x,type:=ty,pos:=pos,after:=aft,guard:=gd } = some (inj 3 (.float k (Op.negFloat k a))):=by
    refine tgen_of (by simpa [Op.operands] using some_v h) (pop_nan rfl ?_ (.inl ?_)) rfl
    · show negN .neg (erased tm x) = _
      rw [erased_v h]
      rfl
    · show prun P (Op.unary .neg (erased tm x) >>= fun r=>(pure (Next.value r) : Sem Next)) = _
      rw [prun_bind,erased_v h]
      rfl
  exact h1
/-- towards a whole number; nothing if it draws -/
def trI (way : Ieee.Toward) (b : Nat) : Option Nat :=
  if nanB .f64 b = true then some b else some (FloatKind.f64.encode ((FloatKind.f64.decode b).integral way))
theorem trI_ok {n : String} {way : Ieee.Toward} {b r : Nat} (hn : nanB .f64 b = false) (h : trI way b = some r) : prun P (Extern.MathFloor.toIntegral n way #[.float .f64 b]) = some (.float .f64 r):=by
  unfold trI at h
  rw [hn] at h
  obtain rfl:=Option.some.inj h
  show prun P (match FloatKind.f64.decode b with
    | .nan s t=>if FloatKind.f64.format.quiet t = t then (pure (Value.float .f64 b) : Sem Value) else do
      let kept ← choose (.extern "math.Floor,Ceil,Trunc,RoundToEven.signallingNaN kept" 2)
      pure (Value.float .f64 (if kept == 1 then b else FloatKind.f64.encode (.nan s (FloatKind.f64.format.quiet t))))
    | d=>pure (Value.float .f64 (FloatKind.f64.encode (d.integral way)))) = _
  have hr:=num_read hn
  split
  · rename_i s t e;exact absurd e (hr s t)
  · rfl
/-! ### functions of the runtime on words that may be unknown -/
variable {fo : Operand} {g : FuncId} {args : Array Operand} {tyA : Array TypeId} {F : Array Value → Sem Value}
theorem fixed_float {k : FloatKind} {b : Nat} (h : nanB k b = false) : [Value.float k b].all isFixed = true:=by
  have e : isFixed (.float k b) = (true && !nanB k b):=rfl
  rw [List.all_cons,List.all_nil,e,h]
  rfl
/-- a float's bits, if they are known -/
def fbits (k : FloatKind) (b : Nat) : Option Int:=if nanB k b = true then none else some ((b : Nat) : Int)
theorem TO.fb {k : FloatKind} {ik : IntKind} {b : Nat} {n : Int} (hw : twant ops tm { dst := dst, op := .call { callee := .value fo, args := args, argTypes := tyA }, type := ty, pos := pos, after := aft, guard := gd } = some true) (hf : tev tm fo = .func g [] []) (hF : extF P g = some F) (hl : args.toList.map (tev tm) = [.v (.float k b)]) (hb : fbits k b = some n) (hv : prun P (F ⟨[.float k b]⟩) = some (.int ik ((b : Nat) : Int)))
    (ht : tput tm dst (.v (.int ik n)) = tm2) (hq : TO C P ops rest ⟨tm2,hp⟩ Q) : TO C P ops ({ dst:=dst,op:=.call { callee:=.value fo,args:=args,argTypes:=tyA },type:=ty,pos:=pos,after:=aft,guard:=gd } :: rest) ⟨tm,hp⟩ Q:=by
  unfold fbits at hb
  split at hb
  · cases hb
  · rename_i hn
    obtain rfl:=Option.some.inj hb
    exact TO.ex hw hf hF hl rfl (fixed_float (Bool.eq_false_iff.2 hn)) hv rfl rfl rfl ht hq
def archP (P : Program) (g : FuncId) : Bool:=match P.funcs[g]? with
  | some fd=>archN fd && fd.body.isNone
  | none=>false
theorem arch_slow {b : Nat} (hA : archP P g = true) (hn : nanB .f64 b = true) (h : List Blk) : goFn P g = false ∧ xslow P g [.float .f64 b] h = some (.float .f64 b,h,none):=by
  unfold archP at hA
  split at hA
  · rename_i fd hfd
    simp only [Bool.and_eq_true] at hA
    obtain ⟨h1,h2⟩:=hA
    have hb : fd.body = none:=by simpa using h2
    refine ⟨by simp [goFn,hfd,hb],?_⟩
    have hv : extV P g [.float .f64 b] = none:=by
      unfold extV
      rw [if_neg]
      simp only [List.all_cons,List.all_nil,isFixed,depth,clean,noNaN,hn]
      decide
    have hz : noZero fd = false:=by
      unfold archN at h1
      simp only [Bool.and_eq_true,Bool.or_eq_true,beq_iff_eq] at h1
      unfold noZero
      rcases h1.1 with e|e|e<;>rw [e]<;>rfl
    simp only [xslow,hfd,hb,extX,hv,extH,hz,h1,hn,Bool.false_eq_true,if_false,if_true,ite_self]
  · cases hA
theorem TO.tr {n : String} {way : Ieee.Toward} {b r : Nat} (hw : twant ops tm { dst := dst, op := .call { callee := .value fo, args := args, argTypes := tyA }, type := ty, pos := pos, after := aft, guard := gd } = some true) (hf : tev tm fo = .func g [] []) (hF : extF P g = some (Extern.MathFloor.toIntegral n way)) (hA : archP P g = true) (hl : args.toList.map (tev tm) = [.v (.float .f64 b)]) (hr : trI way b = some r)
    (ht : tput tm dst (.v (.float .f64 r)) = tm2) (hq : TO C P ops rest ⟨tm2,hp⟩ Q) : TO C P ops ({ dst:=dst,op:=.call { callee:=.value fo,args:=args,argTypes:=tyA },type:=ty,pos:=pos,after:=aft,guard:=gd } :: rest) ⟨tm,hp⟩ Q:=by
  subst ht
  refine TO.g hw ?_ hq
  cases hn : nanB .f64 b with
  | true =>
    have e : r = b:=by unfold trI at hr;rw [hn] at hr;exact (Option.some.inj hr).symm
    subst e
    exact extS hf hl rfl (arch_slow hA hn) rfl rfl
  | false=>exact extG hf hF hl rfl (fixed_float hn) (trI_ok hn hr) rfl rfl rfl
end
end Go.Rex

namespace Go.Rex
open Go.RowKit
section
variable {P : Program} {tm : List TV} {hp : List TB}
variable {dst : Option Tmp} {ty : TypeId} {pos : String} {aft : Array Edge} {gd : Option (Nat × Bool)} {x y : Operand} {t u : TypeId}
/-! ### complex numbers -/
theorem pop_carith {b : BinOp} {k : FloatKind} {a1 a2 d1 d2 r1 r2 : Nat} (h : tev tm x = .v (.complex k a1 a2)) (g : tev tm y = .v (.complex k d1 d2)) (hb : b = .add ∨ b = .sub) (h1 : farith b k a1 d1 = some r1) (h2 : farith b k a2 d2 = some r2) :
    tpop P hp tm { dst:=dst,op:=.binOp b t x y u,type:=ty,pos:=pos,after:=aft,guard:=gd } = some (.v (.complex k r1 r2)):=by
  obtain rfl:=Option.some.inj h1
  obtain rfl:=Option.some.inj h2
  refine bin_nan (r:=.complex k (arN b k a1 d1) (arN b k a2 d2)) h g ?_ ?_ ?_ rfl
  · simp [fastBin]
  · rcases hb with rfl|rfl<;>simp [binN]
  · have hb4 : b = .add ∨ b = .sub ∨ b = .mul ∨ b = .quo:=by rcases hb with h|h<;>simp [h]
    have key : ∀ (a d : Nat),prun P (Op.Complex.arith b k a d) = some (arN b k a d) ∨ prun P (Op.Complex.arith b k a d) = none:=by
      intro a d
      unfold Op.Complex.arith
      rw [prun_bind]
      rcases far_prun (P:=P) (k:=k) (a:=a) (d:=d) hb4 with h|h
      · rw [h];exact .inl rfl
      · rw [h];exact .inr rfl
    have e : prun P (binOp b t (.complex k a1 a2) (.complex k d1 d2)) = some (.complex k (arN b k a1 d1) (arN b k a2 d2)) ∨ prun P (binOp b t (.complex k a1 a2) (.complex k d1 d2)) = none:=by
      have e2 : binOp b t (.complex k a1 a2) (.complex k d1 d2) = (do pure (.complex k (← Op.Complex.arith b k a1 d1) (← Op.Complex.arith b k a2 d2))):=by
        rcases hb with rfl|rfl<;>simp only [binOp,ne_eq,not_true_eq_false,if_false,Op.complexOp]
      rw [e2,prun_bind]
      rcases key a1 d1 with h|h
      · rw [h,Option.bind_some,prun_bind]
        rcases key a2 d2 with h|h
        · rw [h];exact .inl rfl
        · rw [h];exact .inr rfl
      · rw [h];exact .inr rfl
    rcases e with e|e
    · exact .inl (bin_prun eqG_complex e)
    · exact .inr (bin_prun eqG_complex e)
def ceq (k : FloatKind) (a1 a2 d1 d2 : Nat) : Bool:=fcmp .eql k a1 d1 && fcmp .eql k a2 d2
theorem pop_cne {b : BinOp} {k : FloatKind} {a1 a2 d1 d2 : Nat} (h : tev tm x = .v (.complex k a1 a2)) (g : tev tm y = .v (.complex k d1 d2)) (hb : b = .neq) :
    tpop P hp tm { dst:=dst,op:=.binOp b t x y u,type:=ty,pos:=pos,after:=aft,guard:=gd } = some (.v (.bool (!ceq k a1 a2 d1 d2))):=by
  subst hb
  refine bin_nan (r:=.bool (!ceq k a1 a2 d1 d2)) h g rfl (by simp [binN,ceq]) (.inl (bin_prun eqG_complex ?_)) rfl
  simp only [binOp,ne_eq,not_true_eq_false,if_false,Op.complexOp]
  rfl
/-! ### structures that are equal -/
theorem prun_isAgg {g : Bool} (h : aggB P t = some g) : prun P (isAgg t) = some g:=by
  unfold aggB at h
  unfold isAgg
  rw [prun_bind]
  split at h
  · rename_i hu;rw [prun_under hu];exact h
  · rename_i hu;rw [prun_under hu];exact h
  · rename_i d h1 h2 hu
    rw [prun_under hu,Option.bind_some]
    obtain rfl:=Option.some.inj h
    split
    · exact absurd rfl (h1 _)
    · exact absurd rfl (h2 _ _)
    · rfl
  · cases h
theorem part_atom {cs : Array Value} {off : Nat} {v : Value} (h : aggB P t = some false) (hg : cs[off]? = some v) : prun P (part t cs off) = some v:=by
  unfold part
  rw [prun_bind,prun_isAgg h,Option.bind_some]
  simp only [Bool.false_eq_true,if_false,hg]
  rfl
theorem eq_int {d : Nat} {k : IntKind} {a b : Int} (ht : P.underlying t = some (.int k)) : prun P (Op.equalIn (d + 1) t (.int k a) (.int k b)) = some (a == b):=by
  unfold Op.equalIn
  rw [prun_bind,prun_under ht]
  simp
  rfl
/-- field by field -/
inductive EqF (P : Program) (d : Nat) (X Y : Array Value) : List Field → List Bool → Prop
  | nil : EqF P d X Y [] []
  | cons {f : Field} {fs : List Field} {b : Bool} {bs : List Bool} {u v : Value} (hn : f.name ≠ "_") (hu : prun P (part f.type X f.offset) = some u) (hv : prun P (part f.type Y f.offset) = some v) (he : prun P (Op.equalIn d f.type u v) = some b) (hr : EqF P d X Y fs bs) : EqF P d X Y (f :: fs) (b :: bs)
theorem eq_loop {d : Nat} {X Y : Array Value} : ∀ (fs : List Field) (bs : List Bool), EqF P d X Y fs bs →
    prun P (forIn fs ((none, ()) : Option Bool × Unit) fun f _ => if f.name ≠ "_" then do
      if !(← Op.equalIn d f.type (← part f.type X f.offset) (← part f.type Y f.offset)) then pure (.done (some false,())) else pure (.yield (none,()))
      else pure (.yield (none,()))) = some (if bs.all id then (none,()) else (some false,()))
  | [],[],.nil=>rfl
  | f :: fs,b :: bs,.cons hn hu hv he hr=>by
    rw [List.forIn_cons,prun_bind]
    simp only [hn,ne_eq,not_false_eq_true,if_true]
    rw [prun_bind,hu,Option.bind_some,prun_bind,hv,Option.bind_some,prun_bind,he,Option.bind_some]
    cases b with
    | false=>rfl
    | true =>
      simp only [Bool.not_true,Bool.false_eq_true,if_false,prun_pure,Option.bind_some,List.all_cons,id,Bool.true_and]
      exact eq_loop fs bs hr
theorem eq_struct {d : Nat} {fields : Array Field} {X Y : Array Value} {bs : List Bool} (ht : P.underlying t = some (.struct fields)) (hs : P.stoodInHeld t = false) (hf : EqF P d X Y fields.toList bs) : prun P (Op.equalIn (d + 1) t (.agg X) (.agg Y)) = some (bs.all id):=by
  unfold Op.equalIn
  rw [prun_bind,prun_under ht]
  simp only [Option.bind_some]
  rw [prun_bind,show prun P program = some P from rfl,Option.bind_some]
  simp only [hs,Bool.false_eq_true,if_false]
  have:=eq_loop fields.toList bs hf
  rw [prun_bind,← Array.forIn_toList,this,Option.bind_some]
  cases bs.all id<;>rfl
theorem eq_guard {b : BinOp} {X Y : Array Value} (hg : P.eqGuardType P.depth t = false) : prun P (eqGuard b t x y (.agg X) (.agg Y)) = some ():=by
  unfold eqGuard
  cases b<;>first|rfl|(simp only [Bool.not_true,Bool.false_eq_true,if_false];rw [prun_bind,show prun P program = some P from rfl,Option.bind_some,prun_bind,show prun P program = some P from rfl,Option.bind_some];simp only [hg,Bool.not_false,if_true];rfl)
theorem eq_top {a b : Value} {r : Bool} (h : prun P (Op.equalIn (9999 + 1) t a b) = some r) : prun P (Op.equal t a b) = some r:=h
theorem pop_eqs {b : BinOp} {p q : TV} {X Y : Array Value} {r : Bool} (h : tev tm x = p) (g : tev tm y = q) (hX : er 3 p = some (.agg X)) (hY : er 3 q = some (.agg Y)) (cX : isFixed (.agg X) = true) (cY : isFixed (.agg Y) = true) (hn : tbin b p q = none) (hg : P.eqGuardType P.depth t = false)
    (he : prun P (Op.equal t (.agg X) (.agg Y)) = some r) (hb : b = .eql ∨ b = .neq) :
    tpop P hp tm { dst:=dst,op:=.binOp b t x y u,type:=ty,pos:=pos,after:=aft,guard:=gd } = some (.v (.bool (if b = .eql then r else !r))):=by
  have ex : erased tm x = .agg X:=by unfold erased;rw [h,hX];rfl
  have ey : erased tm y = .agg Y:=by unfold erased;rw [g,hY];rfl
  have sx : (er 3 (tev tm x)).isSome = true:=by rw [h,hX];rfl
  have sy : (er 3 (tev tm y)).isSome = true:=by rw [g,hY];rfl
  have h1 : tgen P tm { dst:=dst,op:=.binOp b t x y u,type:=ty,pos:=pos,after:=aft,guard:=gd } = some (inj 3 (.bool (if b = .eql then r else !r))):=by
    refine tgen_run ?_ (fun cs b e=>by cases e) (by simpa [Op.operands] using ⟨sx,sy⟩) (by simpa [Op.operands,ex,ey] using ⟨cX,cY⟩) ?_ rfl rfl
    · simp only [Rex.pop0,ex,ey]
      rcases hb with rfl|rfl<;>rfl
    · show prun P ((eqGuard b t x y (erased tm x) (erased tm y) >>= fun _=>binOp b t (erased tm x) (erased tm y)) >>= fun r=>(pure (Next.value r) : Sem Next)) = _
      rw [prun_bind,ex,ey,prun_bind,eq_guard hg,Option.bind_some]
      rcases hb with rfl|rfl
      · simp only [binOp,if_true]
        rw [prun_bind,he]
        rfl
      · simp only [binOp]
        rw [prun_bind,he]
        rfl
  simp only [tpop,h,g,hn,orT]
  exact h1
theorem pop_eqs2 {b : BinOp} {p q : TV} {X Y : Array Value} {r : Bool} (h : tev tm x = p) (g : tev tm y = q) (hX : er 3 p = some (.agg X)) (hY : er 3 q = some (.agg Y)) (cX : isFixed (.agg X) = true) (cY : isFixed (.agg Y) = true) (hn : tbin b p q = none) (hg : P.eqGuardType P.depth t = false)
    (he : prun P (Op.equal t (.agg X) (.agg Y)) = some r) (hb : b = .neq) :
    tpop P hp tm { dst:=dst,op:=.binOp b t x y u,type:=ty,pos:=pos,after:=aft,guard:=gd } = some (.v (.bool (!r))):=by
  subst hb
  exact pop_eqs h g hX hY cX cY hn hg he (.inr rfl)
end
end Go.Rex

namespace Go.Rex
open Go.RowKit
/-! ### short names for the walks -/
class Mv (p : Prop) (q : outParam Prop) : Prop where
  mv : q → p
theorem mv {p q : Prop} [i : Mv p q] (h : q) : p:=i.mv h
section
variable {C : Ctx} {P : Program} {s : TS} {Q : Exit → TS → Prop} {next : TS → Prop}
instance {x y : Code} : Mv (TX C P (.seq x y) s Q) (TX C P x s (seqT (fun s=>TX C P y s Q) Q)):=⟨TX.seq⟩
instance {id : Nat} {b : Code} : Mv (TX C P (.block id b) s Q) (TX C P b s (blockT id Q)):=⟨TX.block⟩
instance : Mv (TX C P .skip s Q) (Q .normal s):=⟨TX.skip⟩
instance {id : Nat} : Mv (TX C P (.exit id) s Q) (Q (.exit id) s):=⟨TX.exit⟩
instance : Mv (TX C P .ret s Q) (Q .ret s):=⟨TX.ret⟩
instance : Mv (seqT next Q .normal s) (next s):=⟨seqT_n⟩
instance {id : Nat} : Mv (seqT next Q (.exit id) s) (Q (.exit id) s):=⟨seqT_e⟩
instance : Mv (seqT next Q .ret s) (Q .ret s):=⟨seqT_r⟩
instance {id : Nat} : Mv (blockT id Q .normal s) (Q .normal s):=⟨blockT_n⟩
instance {id : Nat} : Mv (blockT id Q .ret s) (Q .ret s):=⟨blockT_r⟩
instance {id : Nat} : Mv (blockT id Q (.exit id) s) (Q .normal s):=⟨blockT_e⟩
end
theorem k1 {a : Bool} (h : a = true) : a = true:=h
theorem k2 {a : Option Bool} (h : a = some true) : a = some true:=h
def an {p q : Prop}:=@And.intro p q
def z6:=And.intro @List.toList_toArray.{0} <| And.intro @ite_true.{1} <| And.intro @ite_false.{1} <| And.intro @true_and <| And.intro @and_true <| And.intro @and_self <| And.intro @Bool.false_eq_true <| And.intro @decide_true @decide_false
def z7:=And.intro @List.getElem?_toArray.{0} <| And.intro @List.getElem?_cons_succ.{0} <| And.intro @List.getElem?_cons_zero.{0} @Option.bind_some.{0,0}
def zy:=And.intro z1 <| And.intro z2 z3
def zz:=And.intro z1 <| And.intro z2 <| And.intro z3 <| And.intro z4 z6
theorem wr {tm tm' : List TV} {hp hp' : List TB} (fl : List (Option Nat)) (hok : renOk fl = true) (hB : RB fl hp hp' fl) (hT : RNs fl tm tm':=by (repeat (first|exact RNs.nil|refine RNs.cons .junk ?_|refine RNs.cons (.keep rfl rfl) ?_|refine RNs.cons (.lsl rfl rfl) ?_|refine RNs.cons (.lsl rfl (by simp only [List.length_set])) ?_|refine RNs.cons (.lptr rfl) ?_|refine RNs.cons (.nil rfl) ?_|refine RNs.cons .nl ?_|refine RNs.cons (.tuple' ?_) ?_|refine RNs.cons (.agg' ?_) ?_))) : Wk ⟨tm,hp⟩ ⟨tm',hp'⟩:=Wk.ren fl hok hB hT
theorem rv {fl : List (Option Nat)} {hp : List TB} {n : Nat} {row row' : List TV} {hp' : List TB} {l : List (Option Nat)} (h : RB fl hp hp' l) (hb : hp[n]? = some (.var row)) (hr : RNs fl row row':=by (repeat (first|exact RNs.nil|refine RNs.cons .junk ?_|refine RNs.cons (.keep rfl rfl) ?_|refine RNs.cons (.lsl rfl rfl) ?_|refine RNs.cons (.lsl rfl (by simp only [List.length_set])) ?_|refine RNs.cons (.lptr rfl) ?_|refine RNs.cons (.nil rfl) ?_|refine RNs.cons .nl ?_|refine RNs.cons (.tuple' ?_) ?_|refine RNs.cons (.agg' ?_) ?_))) : RB fl hp (.var row' :: hp') (some n :: l):=.var h hb hr
/-! ### a slice of a whole array that is not written again -/
section
variable {C : Ctx} {P : Program} {ops : Array Oper} {rest : List Oper} {tm tm2 : List TV} {hp : List TB} {Q : TS → Prop}
variable {dst : Option Tmp} {ty : TypeId} {pos : String} {aft : Array Edge} {gd : Option (Nat × Bool)} {ms : List Nat} {i : Nat} {np : List Nat} {c : Nat}
/-! ### a literal as a list;a place of an array value -/
theorem bmG {α : Type} {f : α → List TV} {xs : List α} {t : TypeId} {n es : Nat} {ps : Array (Nat × Operand)} {l : List (Nat × TV)} {rows : List (List TV)} (hx : ps.toList.map (fun q => (q.1, tev tm q.2)) = l) (hv : tslice P t n l = some (es, rows)) (hr : rows = xs.map f) :
    OpG C P { dst:=dst,op:=.buildSlice t n ps,type:=ty,pos:=pos,after:=aft,guard:=gd } ⟨tm,hp⟩ ⟨tput tm dst (.list es (xs.map f)),hp⟩:=by
  subst hr
  exact OpG.buildSlice (s:=⟨tm,hp⟩) (by simp only [hx];exact hv)
theorem TO.bm {α : Type} (f : α → List TV) (xs : List α) {t : TypeId} {n es : Nat} {ps : Array (Nat × Operand)} {l : List (Nat × TV)} {rows : List (List TV)} (hw : twant ops tm { dst := dst, op := .buildSlice t n ps, type := ty, pos := pos, after := aft, guard := gd } = some true) (hx : ps.toList.map (fun q => (q.1, tev tm q.2)) = l) (hv : tslice P t n l = some (es, rows)) (hr : rows = xs.map f)
    (ht : tput tm dst (.list es (xs.map f)) = tm2) (hq : TO C P ops rest ⟨tm2,hp⟩ Q) : TO C P ops ({ dst:=dst,op:=.buildSlice t n ps,type:=ty,pos:=pos,after:=aft,guard:=gd } :: rest) ⟨tm,hp⟩ Q:=by
  subst ht;exact TO.g hw (bmG hx hv hr) hq
end
end Go.Rex

namespace Go.Rex
open Go.RowKit
/-! ### a list of one's own is frozen at a loop's end;a store at any index of an array of ints -/
section
variable {C : Ctx} {P : Program} {ops : Array Oper} {rest : List Oper} {tm tm2 : List TV} {hp hp2 : List TB} {Q : TS → Prop} {o : Oper}
variable {dst : Option Tmp} {ty : TypeId} {pos : String} {aft : Array Edge} {gd : Option (Nat × Bool)} {p q : TV} {ms : List Nat} {i : Nat} {np : List Nat} {c : Nat}
end
/-! ### arrays that are compared -/
inductive EqI (P : Program) (d : Nat) (X Y : Array Value) (e n : Nat) : Nat → List Bool → Prop
  | nil (i : Nat) : EqI P d X Y e n i []
  | cons {i : Nat} {b : Bool} {bs : List Bool} {u v : Value} (hu : prun P (part e X (i * n)) = some u) (hv : prun P (part e Y (i * n)) = some v) (he : prun P (Op.equalIn d e u v) = some b) (hr : EqI P d X Y e n (i + 1) bs) : EqI P d X Y e n i (b :: bs)
theorem eqi_loop {P : Program} {d : Nat} {X Y : Array Value} {e n : Nat} : ∀ (bs : List Bool) (i : Nat), EqI P d X Y e n i bs →
    prun P (forIn (List.range' i bs.length 1) ((none,()) : Option Bool × Unit) fun i _=>do
      if !(← Op.equalIn d e (← part e X (i * n)) (← part e Y (i * n))) then pure (.done (some false,())) else pure (.yield (none,()))) = some (if bs.all id then (none,()) else (some false,()))
  | [],_,_=>rfl
  | b :: bs,i,.cons hu hv he hr=>by
    rw [List.length_cons,List.range'_succ,List.forIn_cons,prun_bind]
    rw [prun_bind,hu,Option.bind_some,prun_bind,hv,Option.bind_some,prun_bind,he,Option.bind_some]
    cases b with
    | false=>rfl
    | true =>
      simp only [Bool.not_true,Bool.false_eq_true,if_false,prun_pure,Option.bind_some,List.all_cons,id,Bool.true_and]
      exact eqi_loop bs (i + 1) hr
theorem eq_array {P : Program} {t : TypeId} {d len e n : Nat} {X Y : Array Value} {bs : List Bool} (ht : P.underlying t = some (.array len e)) (hs : prun P (sizeOf e) = some n) (hf : EqI P d X Y e n 0 bs) (hl : bs.length = len) : prun P (Op.equalIn (d + 1) t (.agg X) (.agg Y)) = some (bs.all id):=by
  subst hl
  unfold Op.equalIn
  rw [prun_bind,prun_under ht]
  simp only [Option.bind_some]
  rw [prun_bind,hs,Option.bind_some]
  simp only [Std.Legacy.Range.forIn_eq_forIn_range',Std.Legacy.Range.size,Nat.sub_zero,Nat.add_sub_cancel,Nat.div_one]
  rw [prun_bind,eqi_loop bs 0 hf,Option.bind_some]
  cases bs.all id<;>rfl
/-! ### a byte of a text -/
section
variable {P : Program} {tm : List TV} {hp : List TB} {dst : Option Tmp} {ty : TypeId} {pos : String} {aft : Array Edge} {gd : Option (Nat × Bool)}
end
end Go.Rex

namespace Go.Rex
open Go.RowKit
/-! ### code without ranges over functions: neither the marks nor the range around it matter -/
end Go.Rex

namespace Go.Rex
open Go.RowKit
/-! ### marks are kept by all that runs above them -/
def Keeps (h h' : List Blk) : Prop:=h.length ≤ h'.length ∧ ∀ m : Nat,h[m]? = some Blk.dfr → h'[m]? = some Blk.dfr
section
variable {P : Program} {C : Ctx}
structure CKeeps (C : Ctx) : Prop where
  call : ∀ {f args h v h' w},C.call f args h = some (v,h',w) → Keeps h h'
  round : ∀ {l args h v h' w},C.round l args h = some (v,h',w) → Keeps h h'
end
end Go.Rex

namespace Go.Rex
open Go.RowKit
/-! ### code with marks: what stands behind a range over a function -/
section
variable {Fz Fz' : Nat → Prop} {h0 h h' : List Blk} {L : Nat → LI} {s s' : TS} {tm : List Value}
end
section
variable {C : Ctx} {P : Program} {s s' : TS} {Q Q' : Exit → TS → Prop}
end
end Go.Rex

namespace Go.Rex
open Go.RowKit
/-! ### bodies of iterators: code that calls back,and owns nothing while it does -/
/-- what stands outside: 'R x Fz h': the state is x, what is frozen is Fz -/
structure Out (X : Type) where
  lo : Nat
  base : Nat
  R : X → (Nat → Prop) → List Blk → Prop
  hlo : lo ≤ base
  stay : ∀ {x : X} {Fz Fz' : Nat → Prop} {h h' : List Blk},R x Fz h → Ext h h' → Grow h Fz Fz' h h' → (FZ Fz' h') → R x Fz' h'
section
variable {E X : Type} {C : Ctx} {P : Program} {O : Out X}
variable {tm tm' : List TV} {s s' : TS} {x : X} {Q Q' : Exit → List TV → X → Prop} {c : Code}
/-! ### a region with a call back -/
/-- the operation that calls back -/
structure Back (o : Oper) (f : Operand) (args : List Operand) (dst : Option Tmp) : Prop where
  eq : ∃ (tys : Array TypeId) (ty : TypeId) (pos : String) (aft : Array Edge) (gd : Option (Nat × Bool)),o = { dst:=dst,op:=.call { callee:=.value f,args:=⟨args⟩,argTypes:=tys },type:=ty,pos:=pos,after:=aft,guard:=gd }
section
variable {nexty : List TV → X → Prop}
end
/-! ### the contract of an iterator's body -/
end
end Go.Rex

namespace Go.Rex
open Go.RowKit
/-! ### which slots code writes -/
def odsts : List Oper → List Nat
  | []=>[]
  | o :: l=>match o.dst with
    | some d=>d :: odsts l
    | none=>odsts l
def cdsts : Code → List Nat
  | .seq x y=>cdsts x ++ cdsts y
  | .cond _ x y=>cdsts x ++ cdsts y
  | .block _ b=>cdsts b
  | .loop b=>cdsts b
  | .region _ ops _=>odsts ops.toList
  | _=>[]
section
variable {P : Program} {C : Ctx}
end
end Go.Rex

namespace Go.Rex
open Go.RowKit
/-! ### a range over a function,from outside -/
section
variable {Fz Fz' : Nat → Prop} {h0 h h' : List Blk} {L : Nat → LI} {s s' : TS} {tm : List Value}
end
section
variable {P : Program}
variable {s : TS} {Q : Exit → TS → Prop}
end
end Go.Rex

namespace Go.Rex
open Go.RowKit
section
variable {C : Ctx} {P : Program} {tm tm2 : List TV} {hp : List TB} {ops : Array Oper} {rest : List Oper} {Q : TS → Prop}
variable {dst : Option Tmp} {ty : TypeId} {pos : String} {aft : Array Edge} {gd : Option (Nat × Bool)} {x y : Operand} {t u : TypeId}
/-! ### further operations -/
/-! ### == nil on a slice -/
open Classical in
end
end Go.Rex

namespace Go.Rex
open Go.RowKit
section
variable {C : Ctx} {P : Program} {Fz : Nat → Prop} {h h0 : List Blk} {L : Nat → LI} {s : TS} {tm : List Value}
variable {dst : Option Tmp} {ty : TypeId} {pos : String} {aft : Array Edge} {gd : Option (Nat × Bool)}

end

/-! ### as they are used -/
def cutI {α : Type} (xs : List α) (k : Int) : Option Nat:=if 0 ≤ k ∧ k ≤ xs.length ∧ 0 < xs.length then some k.toNat else none
section
variable {C : Ctx} {P : Program} {ops : Array Oper} {rest : List Oper} {tm tm2 : List TV} {hp hp2 : List TB} {Q : TS → Prop} {o : Oper}
variable {dst : Option Tmp} {ty : TypeId} {pos : String} {aft : Array Edge} {gd : Option (Nat × Bool)} {p q : TV} {ms : List Nat} {i : Nat} {np : List Nat} {c : Nat}
/-- a front part of an own list -/
theorem ctG {α : Type} {f : α → List TV} {xs : List α} {t e : TypeId} {x y : Operand} {k : IntKind} {es b len m : Nat} {n : Int} (hs : cutI xs n = some m) (hx : tev tm x = .lsl b 0 len) (hb : hp[b]? = some (.rows es (xs.map f))) (hy : tev tm y = .v (.int k n)) (hso : sliceOf P t = some e) (ho : okT P e = true) (hes : P.cellsOf e = es) :
    OpG C P { dst:=dst,op:=.slice t x none (some y) none,type:=ty,pos:=pos,after:=aft,guard:=gd } ⟨tm,hp⟩ ⟨tput tm dst (.lsl b 0 m),hp⟩:=by
  unfold cutI at hs
  split at hs
  · rename_i hc
    obtain rfl:=Option.some.inj hs
    refine OpG.slice (s:=⟨tm,hp⟩) ?_
    rw [show tev (TS.mk tm hp).tm x = _ from hx]
    have b2 : tbnd ((some y).map (tev (TS.mk tm hp).tm)) len = some n.toNat:=by
      rw [Option.map_some,show tev (TS.mk tm hp).tm y = _ from hy]
      simp only [tbnd]
      rw [if_pos hc.1]
    simp only [tsub,hso,ho,if_true,hb,Option.map_none,b2]
    simp only [tbnd]
    rw [if_pos ⟨hes.symm,by intro h;rw [List.map_eq_nil_iff] at h;subst h;simp at hc,by omega,by simp;omega,by simp⟩]
    simp
  · cases hs
theorem TO.ct {α : Type} (f : α → List TV) {xs : List α} {t e : TypeId} {x y : Operand} {k : IntKind} {es b len m : Nat} {n : Int} (hs : cutI xs n = some m) (hw : twant ops tm { dst := dst, op := .slice t x none (some y) none, type := ty, pos := pos, after := aft, guard := gd } = some true) (hx : tev tm x = .lsl b 0 len) (hb : hp[b]? = some (.rows es (xs.map f))) (hy : tev tm y = .v (.int k n)) (hso : sliceOf P t = some e) (ho : okT P e = true) (hes : P.cellsOf e = es)
    (ht : tput tm dst (.lsl b 0 m) = tm2) (hq : TO C P ops rest ⟨tm2,hp⟩ Q) : TO C P ops ({ dst:=dst,op:=.slice t x none (some y) none,type:=ty,pos:=pos,after:=aft,guard:=gd } :: rest) ⟨tm,hp⟩ Q:=by
  subst ht;exact TO.g hw (ctG hs hx hb hy hso ho hes) hq
theorem take_map_part {α β : Type} {f : α → β} {xs : List α} {m : Nat} : (List.drop 0 (xs.map f)).take m = (xs.take m).map f:=by rw [List.drop_zero,List.map_take]
theorem take_map_part2 {α β : Type} {f : α → β} {xs : List α} {m : Nat} : (xs.map f).take m = (xs.take m).map f:=by rw [List.map_take]
end
section
variable {C : Ctx} {P : Program} {tm tm2 : List TV} {hp hp2 : List TB} {Q : Exit → TS → Prop} {c : Code}
end
end Go.Rex

namespace Go.Rex
open Go.RowKit

/-! ### an executor that knows what one function returns -/
def ctxO (P : Program) (g : FuncId) (res : List Blk → Value × List Blk) (k : Nat) : Nat → Ctx
  | 0=>⟨fun _ _ _=>none,fun _ _ _=>none⟩
  | d + 1=>⟨fun f args h=>if f = g then (match args with|[]=>some ((res h).1,(res h).2,none)|_=>none) else runCall (ctxO P g res k d) P k f args h,runRound (ctxO P g res k d) P k⟩
def ResOk (P : Program) (g : FuncId) (res : List Blk → Value × List Blk) : Prop :=
  ∀ (h : List Blk) (B lo : Nat) (D : Nat → Prop) (m : NMap) (w : World),Rel B lo D m h w → lo ≤ h.length → Calls P g ⟨[]⟩ w (Good B lo D m h w (res h).1 (res h).2)
theorem ctxO_ok {P : Program} (hm : P.follows .mixedOrders = true) {g : FuncId} {res : List Blk → Value × List Blk} (hres : ResOk P g res) (k : Nat) : ∀ d,CtxOk P (ctxO P g res k d)
  | 0=>⟨fun h=>by simp [ctxO] at h,fun h=>by simp [ctxO] at h⟩
  | d + 1 =>
    have hD : DrawSound P (ctxO P g res k d):=fun {_ _ _ _ _ _ _} hv {_ _ _ _ _ _ _ _ _} hr hlo hA hw hQ=>drawSound (ctxO_ok hm hres k d) hm hv hr hlo hA hw hQ
    ⟨fun {f args h v h' wr} hv {B lo D m w args'} hr hlo hw hargs=>by
      simp only [ctxO] at hv
      split at hv
      · rename_i hf
        subst hf
        split at hv
        · obtain ⟨rfl,rfl,rfl⟩ : (res h).1 = v ∧ (res h).2 = h' ∧ none = wr:=by simpa using hv
          obtain rfl : args' = []:=by have:=hargs.len;simpa using this
          exact hres _ _ _ _ _ _ hr hlo
        · cases hv
      · exact runCall_sound (ctxO_ok hm hres k d) hD hv hr hlo hw hargs,fun h=>runRound_sound (ctxO_ok hm hres k d) hD h⟩
def ecallO (P : Program) (g : FuncId) (res : List Blk → Value × List Blk) (k d : Nat) (f : FuncId) (args : List Value) (h : List Blk) : AOut:=(ctxO P g res k d).call f args h
theorem awT_of_ecallO {P : Program} (hm : P.follows .mixedOrders = true) {g : FuncId} {res : List Blk → Value × List Blk} (hres : ResOk P g res) {k d : Nat} {f : FuncId} (hv : isTrue (ecallO P g res k d f [] GH) = true) : AwT P f:=by
  intro w hgw hgs
  unfold isTrue at hv
  split at hv
  · rename_i h' hx
    refine ((ctxO_ok hm hres k d).call hx (Rel.start w hgw hgs) (Nat.le_refl _) (fun n h=>by cases h) VRs.nil).mono ?_
    rintro e w' ⟨v',m',rfl,hp,hvr⟩
    cases hvr
    exact ⟨rfl,hp.below⟩
  · cases hv
end Go.Rex

namespace Go.Rex
open Go.RowKit
/-! ### what an execution does not say to have written is as it was -/
def Olds (h h' : List Blk) (w : Option Nat) : Prop:=h.length ≤ h'.length ∧ ∀ m : Nat,m < h.length → wge w (m + 1) = true → h'[m]? = h[m]?
section
variable {P : Program} {C : Ctx}
structure COlds (C : Ctx) : Prop where
  call : ∀ {f args h v h' w},C.call f args h = some (v,h',w) → Olds h h' w
  round : ∀ {l args h v h' w},C.round l args h = some (v,h',w) → Olds h h' w
end
end Go.Rex

namespace Go.Rex
open Go.RowKit
section
variable {C : Ctx} {P : Program} {h0 h h' : List Blk} {Fz Fz' : Nat → Prop} {L L' : Nat → LI} {s s' : TS} {tm : List Value}
/-- own lists that no slot but those of the parameters need name: where the parameters stand -/
def stays (args : List TV) (c : Code) (tm : List TV) (n : Nat) : Bool:=(List.range args.length).any fun i=>match args[i]?,tm[i]? with
  | some (.lsl m 0 _),some (.lsl m' 0 _)=>m == n && m' == n && !(cdsts c).contains i
  | _,_=>false
end
end Go.Rex

namespace Go.Rex
open Go.RowKit
section
variable {C : Ctx} {P : Program} {h0 h h' : List Blk} {Fz Fz' : Nat → Prop} {L L' : Nat → LI} {s s' : TS} {tm : List Value} {dst : Option Tmp} {ty : TypeId} {pos : String} {aft : Array Edge} {gd : Option (Nat × Bool)}
variable {ops : Array Oper} {o : Oper} {rest : List Oper} {Q : TS → Prop} {ms : List Nat} {i : Nat} {np : List Nat} {c : Nat} {tv tv2 : List TV} {hp hp2 : List TB}
/-! ### a law: it may call f,which is true -/
end
end Go.Rex

namespace Go.Rex
open Go.RowKit
section
variable {C : Ctx} {P : Program} {s s' : TS} {dst : Option Tmp} {ty : TypeId} {pos : String} {aft : Array Edge} {gd : Option (Nat × Bool)}
/-- a list that was written has the length that it had -/
noncomputable def lenAs {α : Type} (a b : List α) : List α:=if b.length = a.length then b else a
/-- lists, in pairs: before and behind the call -/
inductive Pair : List TB → List TB → List TB → Prop
  | nil : Pair [] [] []
  | cons {es : Nat} {α : Type} {f : α → List TV} {a b : List α} {B B' B2 : List TB} (h : Pair B B' B2) : Pair (.rows es (a.map f) :: B) (.rows es (b.map f) :: B') (.rows es ((lenAs a b).map f) :: B2)
variable {ops : Array Oper} {o : Oper} {rest : List Oper} {Q : TS → Prop} {ms : List Nat} {i : Nat} {np : List Nat} {c : Nat} {tv tv2 : List TV} {hp hp2 : List TB}
end
end Go.Rex

namespace Go.Rex
/-! ### max and min of three -/
section
variable {P : Program} {tm : List TV} {hp : List TB} {dst : Option Tmp} {ty : TypeId} {pos : String} {aft : Array Edge} {gd : Option (Nat × Bool)} {x y z : Operand} {tys : List TypeId}
end
end Go.Rex

open Go Go.Rex Go.RowKit
namespace Go.Rex
/-! ### steps of a walk,as default arguments: what a printed proof says at each place is said once -/
theorem wA {A G H : Prop} (T : A) (h : A → H → G:=by (intro T g;(repeat (first|with_reducible refine mv ?_|with_reducible refine TO.nil ?_|((with_reducible first|apply TO.mv|apply TO.asg|apply TO.bin|apply TO.ld|apply TO.fa|apply TO.ia|apply TO.pk|apply TO.sv|apply TO.al|apply TO.bld|apply TO.ext|apply TO.mf );(repeat (focus (show _ = _;first|exact k1 rfl|exact k2 rfl|(simp only [zz,T,Nat.reduceAdd,Nat.reduceMul,Nat.reduceLeDiff,Nat.reduceEqDiff,tload,rowOf,partT,List.getElem?_map,tfieldAddr,tindexAddr,Nat.zero_add,tlen,tbuild,tfill,tfield]<;>exact rfl)|exact rfl)));(with_reducible apply TO.here))|((with_reducible apply TO.skip1);(repeat (focus (show _ = _;first|exact k1 rfl|exact k2 rfl|(simp only [zz,T,Nat.reduceAdd,Nat.reduceMul,Nat.reduceLeDiff,Nat.reduceEqDiff,twant,List.getElem?_toArray,Option.bind_some]<;>exact rfl)|exact rfl)));(with_reducible apply TO.here))|with_reducible refine TD.nil ?_|((with_reducible first|apply TD.mv|apply TD.asg|apply TD.bin|apply TD.ld|apply TD.ia|apply TD.sv|apply TD.al|apply TD.bld|apply TD.mf );(repeat (focus (show _ = _;first|exact k1 rfl|exact k2 rfl|(simp only [zz,T,Nat.reduceAdd,Nat.reduceMul,Nat.reduceLeDiff,Nat.reduceEqDiff,tload,rowOf,partT,List.getElem?_map,tfieldAddr,tindexAddr,Nat.zero_add,tlen,tbuild,tfill,tfield]<;>exact rfl)|exact rfl)));(with_reducible refine TD.here ?_))|((with_reducible apply TD.skip1);(repeat (focus (show _ = _;first|exact k1 rfl|exact k2 rfl|(simp only [zz,T,Nat.reduceAdd,Nat.reduceMul,Nat.reduceLeDiff,Nat.reduceEqDiff,twant,List.getElem?_toArray,Option.bind_some]<;>exact rfl)|exact rfl)));(with_reducible refine TD.here ?_))|((with_reducible apply TX.cond_true);(focus rfl);(focus (first|rfl|(simp only [z1,Bool.not_true,Bool.not_false,T];done))))|((with_reducible apply TX.cond_false);(focus rfl);(focus (first|rfl|(simp only [z1,Bool.not_true,Bool.not_false,T];done))))|((with_reducible apply TX.region);(focus (simp only [List.toList_toArray]<;>exact rfl));(focus rfl);(try dsimp only))|((with_reducible apply TX.drawn);(focus decide +kernel);(focus (simp only [List.toList_toArray]<;>exact rfl));(focus exact rfl);(try dsimp only))|fail));exact g)) (g : H) : G:=h T g
theorem wa_ {A G H : Prop} (T : A) (h : A → H → G:=by (intro T g;(repeat (first|with_reducible refine mv ?_|with_reducible refine TO.nil ?_|((with_reducible first|apply TO.mv|apply TO.asg|apply TO.bin|apply TO.fa|apply TO.ia|apply TO.pk|apply TO.sv|apply TO.al|apply TO.bld|apply TO.ext|apply TO.mf );(repeat (focus (show _ = _;first|exact k1 rfl|exact k2 rfl|(simp only [zz,T,Nat.reduceAdd,Nat.reduceMul,Nat.reduceLeDiff,Nat.reduceEqDiff,tload,rowOf,partT,List.getElem?_map,tfieldAddr,tindexAddr,Nat.zero_add,tlen,tbuild,tfill,tfield]<;>exact rfl)|exact rfl)));(with_reducible apply TO.here))|((with_reducible apply TO.skip1);(repeat (focus (show _ = _;first|exact k1 rfl|exact k2 rfl|(simp only [zz,T,Nat.reduceAdd,Nat.reduceMul,Nat.reduceLeDiff,Nat.reduceEqDiff,twant,List.getElem?_toArray,Option.bind_some]<;>exact rfl)|exact rfl)));(with_reducible apply TO.here))|with_reducible refine TD.nil ?_|((with_reducible first|apply TD.mv|apply TD.asg|apply TD.bin|apply TD.ia|apply TD.sv|apply TD.al|apply TD.bld|apply TD.mf );(repeat (focus (show _ = _;first|exact k1 rfl|exact k2 rfl|(simp only [zz,T,Nat.reduceAdd,Nat.reduceMul,Nat.reduceLeDiff,Nat.reduceEqDiff,tload,rowOf,partT,List.getElem?_map,tfieldAddr,tindexAddr,Nat.zero_add,tlen,tbuild,tfill,tfield]<;>exact rfl)|exact rfl)));(with_reducible refine TD.here ?_))|((with_reducible apply TD.skip1);(repeat (focus (show _ = _;first|exact k1 rfl|exact k2 rfl|(simp only [zz,T,Nat.reduceAdd,Nat.reduceMul,Nat.reduceLeDiff,Nat.reduceEqDiff,twant,List.getElem?_toArray,Option.bind_some]<;>exact rfl)|exact rfl)));(with_reducible refine TD.here ?_))|((with_reducible apply TX.cond_true);(focus rfl);(focus (first|rfl|(simp only [z1,Bool.not_true,Bool.not_false,T];done))))|((with_reducible apply TX.cond_false);(focus rfl);(focus (first|rfl|(simp only [z1,Bool.not_true,Bool.not_false,T];done))))|((with_reducible apply TX.region);(focus (simp only [List.toList_toArray]<;>exact rfl));(focus rfl);(try dsimp only))|((with_reducible apply TX.drawn);(focus decide +kernel);(focus (simp only [List.toList_toArray]<;>exact rfl));(focus exact rfl);(try dsimp only))|fail));exact g)) (g : H) : G:=h T g
theorem wB {A G H : Prop} (T : A) (h : A → H → G:=by (intro T g;(repeat (first|with_reducible refine mv ?_|with_reducible refine TO.nil ?_|((with_reducible first|apply TO.mv|apply TO.asg|apply TO.bin|apply TO.ld|apply TO.fa|apply TO.ia|apply TO.pk|apply TO.sv|apply TO.al|apply TO.bf|apply TO.bld|apply TO.ext|apply TO.mf );(repeat (focus (show _ = _;first|exact k1 rfl|exact k2 rfl|(simp only [zz,T,Nat.reduceAdd,Nat.reduceMul,Nat.reduceLeDiff,Nat.reduceEqDiff,tload,rowOf,partT,List.getElem?_map,tfieldAddr,tindexAddr,Nat.zero_add,tlen,tbuild,tfill,tfield]<;>exact rfl)|exact rfl)));(with_reducible apply TO.here))|((with_reducible apply TO.skip1);(repeat (focus (show _ = _;first|exact k1 rfl|exact k2 rfl|(simp only [zz,T,Nat.reduceAdd,Nat.reduceMul,Nat.reduceLeDiff,Nat.reduceEqDiff,twant,List.getElem?_toArray,Option.bind_some]<;>exact rfl)|exact rfl)));(with_reducible apply TO.here))|with_reducible refine TD.nil ?_|((with_reducible first|apply TD.mv|apply TD.asg|apply TD.bin|apply TD.ld|apply TD.ia|apply TD.sv|apply TD.al|apply TD.bld|apply TD.mf );(repeat (focus (show _ = _;first|exact k1 rfl|exact k2 rfl|(simp only [zz,T,Nat.reduceAdd,Nat.reduceMul,Nat.reduceLeDiff,Nat.reduceEqDiff,tload,rowOf,partT,List.getElem?_map,tfieldAddr,tindexAddr,Nat.zero_add,tlen,tbuild,tfill,tfield]<;>exact rfl)|exact rfl)));(with_reducible refine TD.here ?_))|((with_reducible apply TD.skip1);(repeat (focus (show _ = _;first|exact k1 rfl|exact k2 rfl|(simp only [zz,T,Nat.reduceAdd,Nat.reduceMul,Nat.reduceLeDiff,Nat.reduceEqDiff,twant,List.getElem?_toArray,Option.bind_some]<;>exact rfl)|exact rfl)));(with_reducible refine TD.here ?_))|((with_reducible apply TX.cond_true);(focus rfl);(focus (first|rfl|(simp only [z1,Bool.not_true,Bool.not_false,T];done))))|((with_reducible apply TX.cond_false);(focus rfl);(focus (first|rfl|(simp only [z1,Bool.not_true,Bool.not_false,T];done))))|((with_reducible apply TX.region);(focus (simp only [List.toList_toArray]<;>exact rfl));(focus rfl);(try dsimp only))|((with_reducible apply TX.drawn);(focus decide +kernel);(focus (simp only [List.toList_toArray]<;>exact rfl));(focus exact rfl);(try dsimp only))|fail));exact g)) (g : H) : G:=h T g
theorem wb_ {A G H : Prop} (T : A) (h : A → H → G:=by (intro T g;(repeat (first|with_reducible refine mv ?_|with_reducible refine TO.nil ?_|((with_reducible first|apply TO.mv|apply TO.asg|apply TO.bin|apply TO.fa|apply TO.ia|apply TO.pk|apply TO.sv|apply TO.al|apply TO.bf|apply TO.bld|apply TO.ext|apply TO.mf );(repeat (focus (show _ = _;first|exact k1 rfl|exact k2 rfl|(simp only [zz,T,Nat.reduceAdd,Nat.reduceMul,Nat.reduceLeDiff,Nat.reduceEqDiff,tload,rowOf,partT,List.getElem?_map,tfieldAddr,tindexAddr,Nat.zero_add,tlen,tbuild,tfill,tfield]<;>exact rfl)|exact rfl)));(with_reducible apply TO.here))|((with_reducible apply TO.skip1);(repeat (focus (show _ = _;first|exact k1 rfl|exact k2 rfl|(simp only [zz,T,Nat.reduceAdd,Nat.reduceMul,Nat.reduceLeDiff,Nat.reduceEqDiff,twant,List.getElem?_toArray,Option.bind_some]<;>exact rfl)|exact rfl)));(with_reducible apply TO.here))|with_reducible refine TD.nil ?_|((with_reducible first|apply TD.mv|apply TD.asg|apply TD.bin|apply TD.ia|apply TD.sv|apply TD.al|apply TD.bld|apply TD.mf );(repeat (focus (show _ = _;first|exact k1 rfl|exact k2 rfl|(simp only [zz,T,Nat.reduceAdd,Nat.reduceMul,Nat.reduceLeDiff,Nat.reduceEqDiff,tload,rowOf,partT,List.getElem?_map,tfieldAddr,tindexAddr,Nat.zero_add,tlen,tbuild,tfill,tfield]<;>exact rfl)|exact rfl)));(with_reducible refine TD.here ?_))|((with_reducible apply TD.skip1);(repeat (focus (show _ = _;first|exact k1 rfl|exact k2 rfl|(simp only [zz,T,Nat.reduceAdd,Nat.reduceMul,Nat.reduceLeDiff,Nat.reduceEqDiff,twant,List.getElem?_toArray,Option.bind_some]<;>exact rfl)|exact rfl)));(with_reducible refine TD.here ?_))|((with_reducible apply TX.cond_true);(focus rfl);(focus (first|rfl|(simp only [z1,Bool.not_true,Bool.not_false,T];done))))|((with_reducible apply TX.cond_false);(focus rfl);(focus (first|rfl|(simp only [z1,Bool.not_true,Bool.not_false,T];done))))|((with_reducible apply TX.region);(focus (simp only [List.toList_toArray]<;>exact rfl));(focus rfl);(try dsimp only))|((with_reducible apply TX.drawn);(focus decide +kernel);(focus (simp only [List.toList_toArray]<;>exact rfl));(focus exact rfl);(try dsimp only))|fail));exact g)) (g : H) : G:=h T g
theorem wC {A G H : Prop} (T : A) (h : A → H → G:=by (intro T g;(repeat (first|with_reducible refine mv ?_|with_reducible refine TO.nil ?_|((with_reducible first|apply TO.mv|apply TO.asg|apply TO.bin|apply TO.ld|apply TO.fa|apply TO.ia|apply TO.pk|apply TO.sv|apply TO.al|apply TO.len|apply TO.bld|apply TO.ext|apply TO.mf );(repeat (focus (show _ = _;first|exact k1 rfl|exact k2 rfl|(simp only [zz,T,Nat.reduceAdd,Nat.reduceMul,Nat.reduceLeDiff,Nat.reduceEqDiff,tload,rowOf,partT,List.getElem?_map,tfieldAddr,tindexAddr,Nat.zero_add,tlen,tbuild,tfill,tfield]<;>exact rfl)|exact rfl)));(with_reducible apply TO.here))|((with_reducible apply TO.skip1);(repeat (focus (show _ = _;first|exact k1 rfl|exact k2 rfl|(simp only [zz,T,Nat.reduceAdd,Nat.reduceMul,Nat.reduceLeDiff,Nat.reduceEqDiff,twant,List.getElem?_toArray,Option.bind_some]<;>exact rfl)|exact rfl)));(with_reducible apply TO.here))|with_reducible refine TD.nil ?_|((with_reducible first|apply TD.mv|apply TD.asg|apply TD.bin|apply TD.ld|apply TD.ia|apply TD.sv|apply TD.al|apply TD.len|apply TD.bld|apply TD.mf );(repeat (focus (show _ = _;first|exact k1 rfl|exact k2 rfl|(simp only [zz,T,Nat.reduceAdd,Nat.reduceMul,Nat.reduceLeDiff,Nat.reduceEqDiff,tload,rowOf,partT,List.getElem?_map,tfieldAddr,tindexAddr,Nat.zero_add,tlen,tbuild,tfill,tfield]<;>exact rfl)|exact rfl)));(with_reducible refine TD.here ?_))|((with_reducible apply TD.skip1);(repeat (focus (show _ = _;first|exact k1 rfl|exact k2 rfl|(simp only [zz,T,Nat.reduceAdd,Nat.reduceMul,Nat.reduceLeDiff,Nat.reduceEqDiff,twant,List.getElem?_toArray,Option.bind_some]<;>exact rfl)|exact rfl)));(with_reducible refine TD.here ?_))|((with_reducible apply TX.cond_true);(focus rfl);(focus (first|rfl|(simp only [z1,Bool.not_true,Bool.not_false,T];done))))|((with_reducible apply TX.cond_false);(focus rfl);(focus (first|rfl|(simp only [z1,Bool.not_true,Bool.not_false,T];done))))|((with_reducible apply TX.region);(focus (simp only [List.toList_toArray]<;>exact rfl));(focus rfl);(try dsimp only))|((with_reducible apply TX.drawn);(focus decide +kernel);(focus (simp only [List.toList_toArray]<;>exact rfl));(focus exact rfl);(try dsimp only))|fail));exact g)) (g : H) : G:=h T g
theorem wc_ {A G H : Prop} (T : A) (h : A → H → G:=by (intro T g;(repeat (first|with_reducible refine mv ?_|with_reducible refine TO.nil ?_|((with_reducible first|apply TO.mv|apply TO.asg|apply TO.bin|apply TO.fa|apply TO.ia|apply TO.pk|apply TO.sv|apply TO.al|apply TO.len|apply TO.bld|apply TO.ext|apply TO.mf );(repeat (focus (show _ = _;first|exact k1 rfl|exact k2 rfl|(simp only [zz,T,Nat.reduceAdd,Nat.reduceMul,Nat.reduceLeDiff,Nat.reduceEqDiff,tload,rowOf,partT,List.getElem?_map,tfieldAddr,tindexAddr,Nat.zero_add,tlen,tbuild,tfill,tfield]<;>exact rfl)|exact rfl)));(with_reducible apply TO.here))|((with_reducible apply TO.skip1);(repeat (focus (show _ = _;first|exact k1 rfl|exact k2 rfl|(simp only [zz,T,Nat.reduceAdd,Nat.reduceMul,Nat.reduceLeDiff,Nat.reduceEqDiff,twant,List.getElem?_toArray,Option.bind_some]<;>exact rfl)|exact rfl)));(with_reducible apply TO.here))|with_reducible refine TD.nil ?_|((with_reducible first|apply TD.mv|apply TD.asg|apply TD.bin|apply TD.ia|apply TD.sv|apply TD.al|apply TD.len|apply TD.bld|apply TD.mf );(repeat (focus (show _ = _;first|exact k1 rfl|exact k2 rfl|(simp only [zz,T,Nat.reduceAdd,Nat.reduceMul,Nat.reduceLeDiff,Nat.reduceEqDiff,tload,rowOf,partT,List.getElem?_map,tfieldAddr,tindexAddr,Nat.zero_add,tlen,tbuild,tfill,tfield]<;>exact rfl)|exact rfl)));(with_reducible refine TD.here ?_))|((with_reducible apply TD.skip1);(repeat (focus (show _ = _;first|exact k1 rfl|exact k2 rfl|(simp only [zz,T,Nat.reduceAdd,Nat.reduceMul,Nat.reduceLeDiff,Nat.reduceEqDiff,twant,List.getElem?_toArray,Option.bind_some]<;>exact rfl)|exact rfl)));(with_reducible refine TD.here ?_))|((with_reducible apply TX.cond_true);(focus rfl);(focus (first|rfl|(simp only [z1,Bool.not_true,Bool.not_false,T];done))))|((with_reducible apply TX.cond_false);(focus rfl);(focus (first|rfl|(simp only [z1,Bool.not_true,Bool.not_false,T];done))))|((with_reducible apply TX.region);(focus (simp only [List.toList_toArray]<;>exact rfl));(focus rfl);(try dsimp only))|((with_reducible apply TX.drawn);(focus decide +kernel);(focus (simp only [List.toList_toArray]<;>exact rfl));(focus exact rfl);(try dsimp only))|fail));exact g)) (g : H) : G:=h T g
theorem wD {A G H : Prop} (T : A) (h : A → H → G:=by (intro T g;(repeat (first|with_reducible refine mv ?_|with_reducible refine TO.nil ?_|((with_reducible first|apply TO.mv|apply TO.asg|apply TO.bin|apply TO.ld|apply TO.fa|apply TO.ia|apply TO.pk|apply TO.sv|apply TO.al|apply TO.bf|apply TO.len|apply TO.bld|apply TO.ext|apply TO.mf );(repeat (focus (show _ = _;first|exact k1 rfl|exact k2 rfl|(simp only [zz,T,Nat.reduceAdd,Nat.reduceMul,Nat.reduceLeDiff,Nat.reduceEqDiff,tload,rowOf,partT,List.getElem?_map,tfieldAddr,tindexAddr,Nat.zero_add,tlen,tbuild,tfill,tfield]<;>exact rfl)|exact rfl)));(with_reducible apply TO.here))|((with_reducible apply TO.skip1);(repeat (focus (show _ = _;first|exact k1 rfl|exact k2 rfl|(simp only [zz,T,Nat.reduceAdd,Nat.reduceMul,Nat.reduceLeDiff,Nat.reduceEqDiff,twant,List.getElem?_toArray,Option.bind_some]<;>exact rfl)|exact rfl)));(with_reducible apply TO.here))|with_reducible refine TD.nil ?_|((with_reducible first|apply TD.mv|apply TD.asg|apply TD.bin|apply TD.ld|apply TD.ia|apply TD.sv|apply TD.al|apply TD.len|apply TD.bld|apply TD.mf );(repeat (focus (show _ = _;first|exact k1 rfl|exact k2 rfl|(simp only [zz,T,Nat.reduceAdd,Nat.reduceMul,Nat.reduceLeDiff,Nat.reduceEqDiff,tload,rowOf,partT,List.getElem?_map,tfieldAddr,tindexAddr,Nat.zero_add,tlen,tbuild,tfill,tfield]<;>exact rfl)|exact rfl)));(with_reducible refine TD.here ?_))|((with_reducible apply TD.skip1);(repeat (focus (show _ = _;first|exact k1 rfl|exact k2 rfl|(simp only [zz,T,Nat.reduceAdd,Nat.reduceMul,Nat.reduceLeDiff,Nat.reduceEqDiff,twant,List.getElem?_toArray,Option.bind_some]<;>exact rfl)|exact rfl)));(with_reducible refine TD.here ?_))|((with_reducible apply TX.cond_true);(focus rfl);(focus (first|rfl|(simp only [z1,Bool.not_true,Bool.not_false,T];done))))|((with_reducible apply TX.cond_false);(focus rfl);(focus (first|rfl|(simp only [z1,Bool.not_true,Bool.not_false,T];done))))|((with_reducible apply TX.region);(focus (simp only [List.toList_toArray]<;>exact rfl));(focus rfl);(try dsimp only))|((with_reducible apply TX.drawn);(focus decide +kernel);(focus (simp only [List.toList_toArray]<;>exact rfl));(focus exact rfl);(try dsimp only))|fail));exact g)) (g : H) : G:=h T g
theorem we_ {A G H : Prop} (T : A) (h : A → H → G:=by (intro T g;(repeat (first|with_reducible refine mv ?_|with_reducible refine TO.nil ?_|((with_reducible first|apply TO.mv|apply TO.asg|apply TO.bin|apply TO.fa|apply TO.ia|apply TO.pk|apply TO.sv|apply TO.al|apply TO.bld|apply TO.ext|apply TO.bs|apply TO.mf );(repeat (focus (show _ = _;first|exact k1 rfl|exact k2 rfl|(simp only [zz,T,Nat.reduceAdd,Nat.reduceMul,Nat.reduceLeDiff,Nat.reduceEqDiff,tload,rowOf,partT,List.getElem?_map,tfieldAddr,tindexAddr,Nat.zero_add,tlen,tbuild,tfill,tfield,tslice,tparts]<;>exact rfl)|exact rfl)));(with_reducible apply TO.here))|((with_reducible apply TO.skip1);(repeat (focus (show _ = _;first|exact k1 rfl|exact k2 rfl|(simp only [zz,T,Nat.reduceAdd,Nat.reduceMul,Nat.reduceLeDiff,Nat.reduceEqDiff,twant,List.getElem?_toArray,Option.bind_some]<;>exact rfl)|exact rfl)));(with_reducible apply TO.here))|with_reducible refine TD.nil ?_|((with_reducible first|apply TD.mv|apply TD.asg|apply TD.bin|apply TD.ia|apply TD.sv|apply TD.al|apply TD.bld|apply TD.bs|apply TD.mf );(repeat (focus (show _ = _;first|exact k1 rfl|exact k2 rfl|(simp only [zz,T,Nat.reduceAdd,Nat.reduceMul,Nat.reduceLeDiff,Nat.reduceEqDiff,tload,rowOf,partT,List.getElem?_map,tfieldAddr,tindexAddr,Nat.zero_add,tlen,tbuild,tfill,tfield,tslice,tparts]<;>exact rfl)|exact rfl)));(with_reducible refine TD.here ?_))|((with_reducible apply TD.skip1);(repeat (focus (show _ = _;first|exact k1 rfl|exact k2 rfl|(simp only [zz,T,Nat.reduceAdd,Nat.reduceMul,Nat.reduceLeDiff,Nat.reduceEqDiff,twant,List.getElem?_toArray,Option.bind_some]<;>exact rfl)|exact rfl)));(with_reducible refine TD.here ?_))|((with_reducible apply TX.cond_true);(focus rfl);(focus (first|rfl|(simp only [z1,Bool.not_true,Bool.not_false,T];done))))|((with_reducible apply TX.cond_false);(focus rfl);(focus (first|rfl|(simp only [z1,Bool.not_true,Bool.not_false,T];done))))|((with_reducible apply TX.region);(focus (simp only [List.toList_toArray]<;>exact rfl));(focus rfl);(try dsimp only))|((with_reducible apply TX.drawn);(focus decide +kernel);(focus (simp only [List.toList_toArray]<;>exact rfl));(focus exact rfl);(try dsimp only))|fail));exact g)) (g : H) : G:=h T g
theorem wF {A G H : Prop} (T : A) (h : A → H → G:=by (intro T g;(repeat (first|with_reducible refine mv ?_|with_reducible refine TO.nil ?_|((with_reducible first|apply TO.mv|apply TO.asg|apply TO.bin|apply TO.ld|apply TO.fa|apply TO.ia|apply TO.pk|apply TO.sv|apply TO.al|apply TO.bf|apply TO.bld|apply TO.ext|apply TO.bs|apply TO.mf );(repeat (focus (show _ = _;first|exact k1 rfl|exact k2 rfl|(simp only [zz,T,Nat.reduceAdd,Nat.reduceMul,Nat.reduceLeDiff,Nat.reduceEqDiff,tload,rowOf,partT,List.getElem?_map,tfieldAddr,tindexAddr,Nat.zero_add,tlen,tbuild,tfill,tfield,tslice,tparts]<;>exact rfl)|exact rfl)));(with_reducible apply TO.here))|((with_reducible apply TO.skip1);(repeat (focus (show _ = _;first|exact k1 rfl|exact k2 rfl|(simp only [zz,T,Nat.reduceAdd,Nat.reduceMul,Nat.reduceLeDiff,Nat.reduceEqDiff,twant,List.getElem?_toArray,Option.bind_some]<;>exact rfl)|exact rfl)));(with_reducible apply TO.here))|with_reducible refine TD.nil ?_|((with_reducible first|apply TD.mv|apply TD.asg|apply TD.bin|apply TD.ld|apply TD.ia|apply TD.sv|apply TD.al|apply TD.bld|apply TD.bs|apply TD.mf );(repeat (focus (show _ = _;first|exact k1 rfl|exact k2 rfl|(simp only [zz,T,Nat.reduceAdd,Nat.reduceMul,Nat.reduceLeDiff,Nat.reduceEqDiff,tload,rowOf,partT,List.getElem?_map,tfieldAddr,tindexAddr,Nat.zero_add,tlen,tbuild,tfill,tfield,tslice,tparts]<;>exact rfl)|exact rfl)));(with_reducible refine TD.here ?_))|((with_reducible apply TD.skip1);(repeat (focus (show _ = _;first|exact k1 rfl|exact k2 rfl|(simp only [zz,T,Nat.reduceAdd,Nat.reduceMul,Nat.reduceLeDiff,Nat.reduceEqDiff,twant,List.getElem?_toArray,Option.bind_some]<;>exact rfl)|exact rfl)));(with_reducible refine TD.here ?_))|((with_reducible apply TX.cond_true);(focus rfl);(focus (first|rfl|(simp only [z1,Bool.not_true,Bool.not_false,T];done))))|((with_reducible apply TX.cond_false);(focus rfl);(focus (first|rfl|(simp only [z1,Bool.not_true,Bool.not_false,T];done))))|((with_reducible apply TX.region);(focus (simp only [List.toList_toArray]<;>exact rfl));(focus rfl);(try dsimp only))|((with_reducible apply TX.drawn);(focus decide +kernel);(focus (simp only [List.toList_toArray]<;>exact rfl));(focus exact rfl);(try dsimp only))|fail));exact g)) (g : H) : G:=h T g
theorem sd {A : Prop} {α : Type} {a b : α} (T : A) (h : A → a = b:=by (intro T;first|exact k1 rfl|exact k2 rfl|(simp only [zz,T,Nat.reduceAdd,Nat.reduceMul,Nat.reduceLeDiff,Nat.reduceEqDiff,shift,kill,killB,frz,frzB,view,tml,tmlc,List.length_set,tlen,tslice,tparts]<;>exact rfl)|exact rfl)) : a = b:=h T
theorem wn {A : Prop} {α : Type} {a b : α} (T : A) (h : A → a = b:=by (intro T;first|rfl|(simp only [twant,z1,z7,T]<;>rfl))) : a = b:=h T
theorem ry {A : Prop} {α : Type} {a b : α} (T : A) (h : A → a = b:=by (intro T;simp only [zy,T,tresAll,tres,tload,rowOf,partT];exact rfl)) : a = b:=h T
theorem wk_ {A : Prop} (T : A) {tm tm' : List TV} {hp hp' : List TB} (fl : List (Option Nat)) (hok : renOk fl = true) (hB : RB fl hp hp' fl) (hT : A → RNs fl tm tm':=by (intro T;(repeat (first|exact RNs.nil|refine RNs.cons .junk ?_|refine RNs.cons (.keep rfl rfl) ?_|refine RNs.cons (.lsl rfl rfl) ?_|refine RNs.cons (.lsl rfl (by simp only [List.length_set])) ?_|refine RNs.cons (.lptr rfl) ?_|refine RNs.cons (.nil rfl) ?_|refine RNs.cons .nl ?_|refine RNs.cons (.keep (by simp only [T]) rfl) ?_|refine RNs.cons (.tuple' ?_) ?_|refine RNs.cons (.agg' ?_) ?_)))) : Wk ⟨tm,hp⟩ ⟨tm',hp'⟩:=Wk.ren fl hok hB (hT T)
theorem ifs {α : Type} {b : Bool} {x y r : Option α} (h : (if b = true then x else y) = r) : (b = true ∧ x = r) ∨ (b = false ∧ y = r):=by cases b<;>simp_all
theorem bs {α β : Type} {x : Option α} {f : α → Option β} {r : β} (h : x.bind f = some r) : ∃ a,x = some a ∧ f a = some r:=Option.bind_eq_some_iff.1 h
theorem gx {α : Type} {xs : List α} {i : Int} {a : α} (f : α → List TV) (h : getI xs i = some a) : tidx (xs.map f) i = some (f a) ∧ (0 ≤ i ∧ i < xs.length) ∧ xs[i.toNat]? = some a:=And.intro (tidx_map (f:=f) h) (And.intro (getI_lt h) (getI_at h))
theorem lv {A : Prop} (T : A) {b : Bool} {G : Prop} (hr : some b = some true) (h : A → b = true → G:=by (intro T hb;first|(cases hb;done)|((first|refine ⟨.inl rfl,?_⟩|refine ⟨.inr rfl,?_⟩);first|(simp only [tresAll,tres,z1,hb,Option.map_some]<;>exact rfl)|(simp only [T] at hb;simp only [tresAll,tres,z1,hb,Option.map_some]<;>exact rfl)))) : G:=h T (Option.some.inj hr)
theorem vw {A : Prop} {α : Type} {a b : α} (T : A) (h : A → a = b:=by (intro T;simp only [view,z1,z3,List.toList_toArray,tml,tmlc,List.length_set,Nat.reduceEqDiff,if_false]<;>rfl)) : a = b:=h T
end Go.Rex
