/- An executor of the program's functions on trees of values,proved sound. -/
import Derived.Test.YtdlghpacmamnfaaRexG3
import Derived.Lib.MakeNoZero
import Derived.Laws.Externs
import Derived.RangeFuncNested
set_option linter.unusedSimpArgs false
set_option linter.unusedVariables false
set_option linter.defProp false
namespace Go.Rex
open Go.RowKit
def Fw(ro:Option Nat):Fence:={ Fence.wide with round:=ro }
def Good(B lo:Nat)(D:Nat→Prop)(m:NMap)(h:List Blk)(w:World)(v:Value)(h':List Blk):Ending→World→Prop:=fun e w' =>
 ∃ v' m',e = .returned v'∧Post B lo D m h w m' h' w'∧VR (Dx D h.length h'.length) m' v v'
structure CtxOk(P:Program)(C:Ctx):Prop where
 call:∀ {f:FuncId} {args:List Value} {h:List Blk} {v:Value} {h':List Blk} {wr:Option Nat},C.call f args h=some (v,h',wr) →
  ∀ {B lo:Nat} {D:Nat→Prop} {m:NMap} {w:World} {args':List Value},Rel B lo D m h w→lo≤h.length→WrOk lo wr→VRs D m args args'→Calls P f ⟨args'⟩ w (Good B lo D m h w v h')
 round:∀ {l:Nat} {args:List Value} {h:List Blk} {v:Value} {h':List Blk} {wr:Option Nat},C.round l args h=some (v,h',wr) →
  ∀ {B lo:Nat} {D:Nat→Prop} {m:NMap} {w:World} {args':List Value},Rel B lo D m h w→lo≤h.length→WrOk lo wr→D l→VRs D m args args' →
   ∃ fn tmps assign body,(Instr.yield (m l).block ⟨args'⟩).run P w = .ok (.round (m l).block fn tmps assign body) w∧∀ n,RoundIn Fence.wide n P (m l).block fn tmps assign body w (Good B lo D m h w v h')
theorem yN{B:Nat}{w:World}{D:Nat→Prop}{m:NMap}{g:Nat}{a:Act}(hg:Gl B D m w)(h:g<NG):VR D m (.pointer (some ⟨g,0,none⟩)) (a.eval (.global g)):=by
 obtain⟨h1,h2,h3⟩:=hg.nm g h
 have:=VR.ptr (m:=m) g 0 h1
 rw[h2,h3] at this
 exact this
theorem vR{B:Nat}{w:World}{D:Nat→Prop}{m:NMap}{tm:List Value}{a:Act}(hg:Gl B D m w)(hA:VRs D m tm a.tmps.toList){x:Operand}(hx:fL x=true):VR D m (ev tm x) (a.eval x):=by
 cases x with
 | tmp t =>
  simp only[ev,iE,Act.eval]
  have:=hA.getD t (VR.undef (D:=D) (m:=m))
  have e:a.tmps.getD t undef=a.tmps.toList[t]?.getD undef:=by simp[Array.getD_eq_getD_getElem?]
  rw[e]
  exact this
 | const v=>exact VR.of_clean depth v hx
 | global g=>exact yN hg (by simpa [fL] using hx)
 | func f=>exact .func f [] [] [] [] rfl (fun i v v' h=>by simp at h) rfl (fun i v v' h=>by simp at h)
theorem tV{B:Nat}{w:World}{D:Nat→Prop}{m:NMap}{tm:List Value}{a:Act}(hg:Gl B D m w)(hA:VRs D m tm a.tmps.toList){o:Oper}(ho:oB o=true):∀ x∈o.op.operands,VR D m (ev tm x) (a.eval x):=fun x hx =>
 vR hg hA (a8.1 ho x (by simpa using hx))
theorem oL{D:Nat→Prop}{m:NMap}{tm:List Value}{a:Act}(hA:VRs D m tm a.tmps.toList)(dst:Option Tmp){v v':Value}(hv:VR D m v v'):VRs D m (aN tm dst v) (a.put dst v').tmps.toList:=by
 cases dst with
 | none=>exact hA
 | some d=>simp only[aN,Act.put,Array.toList_setIfInBounds];exact hA.set d hv
theorem fS(a:Act)(dst:Option Tmp)(v:Value):(a.put dst v).defers=a.defers:=by cases dst<;>rfl
theorem wZ{D:Nat→Prop}{m:NMap}{tm:List Value}{a:Act}{ops:Array Oper}{o:Oper}(hA:VRs D m tm a.tmps.toList):Region.wanted o (yielded ops a.tmps)=Region.wanted o (yielded ops ⟨tm⟩):=by
 have key:∀ j,yielded ops a.tmps j=yielded ops ⟨tm⟩ j:=by
  intro j
  unfold yielded
  cases hd:((ops[j]?).bind (·.dst):Option Tmp) with
  | none=>rfl
  | some d =>
   simp only[Option.bind_some]
   have e1:(⟨tm⟩:Array Value)[d]?=tm[d]?:=by simp
   have e2:a.tmps[d]?=a.tmps.toList[d]?:=by simp
   rw[e1,e2]
   cases hv:tm[d]? with
   | none =>
    have:a.tmps.toList[d]?=none:=by
     rw[e8] at hv ⊢
     rw[hA.len];exact hv
    rw[this]
   | some v =>
    obtain⟨v',hv',hr⟩:=hA.at hv
    rw[hv']
    cases hr<;>rfl
 unfold Region.wanted
 cases o.guard with
 | none=>rfl
 | some p=>simp only[key]
theorem WrOk.min{lo:Nat}{a b:Option Nat}(h:WrOk lo (wmin a b)):WrOk lo a∧WrOk lo b:=by
 cases a with
 | none=>exact⟨fun n h=>(by cases h),by simpa [wmin] using h⟩
 | some x =>
  cases b with
  | none=>exact⟨by simpa [wmin] using h,fun n h=>(by cases h)⟩
  | some y =>
   have:=h (Min.min x y) rfl
   exact⟨fun n hn=>by cases hn;omega,fun n hn=>by cases hn;omega⟩
theorem rH{wr:Option Nat}{k:Nat}(h:wge wr k=true):WrOk k wr:=by
 intro n hn
 subst hn
 simpa [wge] using h
section
variable {P:Program} {C:Ctx} {ro:Option Nat} {n:Nat} {Q:Exit→Act→World→Prop}
def Bt(ro:Option Nat)(n:Nat)(P:Program)(Q:Exit→Act→World→Prop)(o:Oper)(a:Act)(B lo:Nat)(D:Nat→Prop)(m:NMap)(h:List Blk)(w:World)(v:Value)(h':List Blk):Prop:=
 ∀ next:Act→World→Prop,(∀ v' w' m',Post B lo D m h w m' h' w'→VR (Dx D h.length h'.length) m' v v'→next (a.put o.dst v') w')→Oper.wpIn (Fw ro) n P o a w next Q
theorem StepN.opIn{B lo:Nat}{D:Nat→Prop}{m:NMap}{h h':List Blk}{w:World}{o:Oper}{a:Act}{v:Value}(hd:∀ c,o.op ≠ .defer c)(hs:StepN P B lo D m h w (execOp a.eval o) v h'):Bt ro n P Q o a B lo D m h w v h':=by
 intro next hnext
 obtain⟨r,v',w',m',h1,h2,h3,h4⟩:=hs
 refine⟨fun _ _=>trivial,?_⟩
 show o.uponIn (Fw ro) n P a next Q ((o.semAt ro a.eval).run P w)
 rw[Oper.semAt_eq _ _ _ hd,h1]
 rcases h2 with rfl|⟨rfl,rfl⟩
 ·exact hnext v' w' m' h3 h4
 ·exact hnext undef w' m' h3 h4
theorem look_esc : Extern.allGenericRows.lookup "internal/abi.NoEscape" = none ∧ Extern.allTypedRows.lookup "internal/abi.NoEscape" = none ∧ Extern.allRows.lookup "internal/abi.NoEscape" = some Extern.AbiNoEscape.same := ⟨by kernel_rfl, by kernel_rfl, by kernel_rfl⟩
theorem look_zero : Extern.allGenericRows.lookup "internal/bytealg.MakeNoZero" = none ∧ Extern.allTypedRows.lookup "internal/bytealg.MakeNoZero" = some Extern.BytealgMakeNoZero.makeNoZero := ⟨by kernel_rfl, by kernel_rfl⟩
theorem yL {fd : Func} (h : fd.name = "internal/abi.NoEscape") : Extern.find fd = some Extern.AbiNoEscape.same := by
 unfold Extern.find
 simp only[h,look_esc.1,look_esc.2.1,look_esc.2.2]
 rfl
theorem wR {fd : Func} (h : fd.name = "internal/bytealg.MakeNoZero") : Extern.find fd = some (Extern.BytealgMakeNoZero.makeNoZero fd.params fd.resultTypes) := by
 unfold Extern.find
 simp only[h,look_zero.1,look_zero.2]
 rfl
theorem look_arch : (Extern.allGenericRows.lookup "math.archTrunc" = none ∧ Extern.allTypedRows.lookup "math.archTrunc" = none ∧ Extern.allRows.lookup "math.archTrunc" = some (Extern.MathFloor.toIntegral "math.archTrunc" .zero)) ∧ (Extern.allGenericRows.lookup "math.archFloor" = none ∧ Extern.allTypedRows.lookup "math.archFloor" = none ∧ Extern.allRows.lookup "math.archFloor" = some (Extern.MathFloor.toIntegral "math.archFloor" .down)) ∧ (Extern.allGenericRows.lookup "math.archCeil" = none ∧ Extern.allTypedRows.lookup "math.archCeil" = none ∧ Extern.allRows.lookup "math.archCeil" = some (Extern.MathFloor.toIntegral "math.archCeil" .up)) := ⟨⟨by kernel_rfl, by kernel_rfl, by kernel_rfl⟩, ⟨by kernel_rfl, by kernel_rfl, by kernel_rfl⟩, ⟨by kernel_rfl, by kernel_rfl, by kernel_rfl⟩⟩
theorem wQ {fd : Func} (h : fd.name = "math.archTrunc" ∨ fd.name = "math.archFloor" ∨ fd.name = "math.archCeil") : ∃ n way, Extern.find fd = some (Extern.MathFloor.toIntegral n way) ∧ (fd.name == "runtime.NumGoroutine") = false := by
 rcases h with h|h|h
 ·refine ⟨"math.archTrunc", .zero, ?_, by rw [h]; kernel_rfl⟩
  unfold Extern.find
  simp only[h,look_arch.1.1,look_arch.1.2.1,look_arch.1.2.2]
  rfl
 ·refine ⟨"math.archFloor", .down, ?_, by rw [h]; kernel_rfl⟩
  unfold Extern.find
  simp only[h,look_arch.2.1.1,look_arch.2.1.2.1,look_arch.2.1.2.2]
  rfl
 ·refine ⟨"math.archCeil", .up, ?_, by rw [h]; kernel_rfl⟩
  unfold Extern.find
  simp only[h,look_arch.2.2.1,look_arch.2.2.2.1,look_arch.2.2.2.2]
  rfl
theorem wY(s:Bool)(t:Nat):eE .f64 (FloatKind.f64.encode (.nan s (FloatKind.f64.format.quiet t)))=true:=by
 show decide (Ieee.double.infRung<(Ieee.double.word s (Ieee.double.infRung+(t ||| 2^51)%2^52))%2^63)=true
 have h1:(t ||| 2^51)%2^52=(t%2^52) ||| 2^51:=by rw[Nat.or_mod_two_pow]
 have h2:2^51≤(t ||| 2^51)%2^52:=by rw[h1];exact Nat.right_le_or
 have h3:(t ||| 2^51)%2^52<2^52:=Nat.mod_lt _ (by decide)
 generalize (t ||| 2^51)%2^52=q at h2 h3 ⊢
 have e1:Ieee.double.infRung=9218868437227405312:=rfl
 have e2:Ieee.double.signWeight=9223372036854775808:=rfl
 refine decide_eq_true ?_
 unfold Ieee.Format.word
 rw[e1,e2]
 cases s
 ·simp only[Bool.false_eq_true,if_false]
  rw[j2 (by omega)]
  omega
 ·simp only[if_true]
  rw[show 9223372036854775808+(9218868437227405312+q)=(9218868437227405312+q)+2^63*1 by omega,Nat.add_mul_mod_self_left,j2 (by omega)]
  omega
theorem xR{P:Program}{n:String}{way:Ieee.Toward}{b:Nat}(hb:eE .f64 b=true)(w:World):∃ r w',(Extern.MathFloor.toIntegral n way #[.float .f64 b]).run P w = .ok (.float .f64 r) w'∧Still w w'∧eE .f64 r=true:=by
 obtain⟨s,t,e⟩:=gJ hb
 have e:FloatKind.f64.decode b = .nan s t:=e
 have hdef:Extern.MathFloor.toIntegral n way #[.float .f64 b]=(match FloatKind.f64.decode b with
  | .nan s t =>
   if FloatKind.f64.format.quiet t=t then pure (.float .f64 b) else do
   let kept ← choose (.extern "math.Floor,Ceil,Trunc,RoundToEven.signallingNaN kept" 2)
   pure (.float .f64 (if kept==1 then b else FloatKind.f64.encode (.nan s (FloatKind.f64.format.quiet t))))
  | d=>pure (.float .f64 (FloatKind.f64.encode (d.integral way)))):=rfl
 rw[hdef,e]
 simp only
 split
 ·exact⟨b,w,rfl,Still.refl w,hb⟩
 ·have hq : (Question.extern "math.Floor,Ceil,Trunc,RoundToEven.signallingNaN kept" 2).forced = false := by kernel_rfl
  refine ⟨if (Question.extern "math.Floor,Ceil,Trunc,RoundToEven.signallingNaN kept" 2).cut (w.tape w.drawn (.extern "math.Floor,Ceil,Trunc,RoundToEven.signallingNaN kept" 2)) == 1 then b else FloatKind.f64.encode (.nan s (FloatKind.f64.format.quiet t)), w.drew, ?_, Still.drew w, ?_⟩
  ·simp only[Sem.run_bind,run_choose_drew,hq,Result.andThen_ok,Sem.run_pure]
   rfl
  ·split
   ·exact hb
   ·exact wY s t
theorem kY:∀(n t:Nat) (acc:Array Value),(∀ v∈acc.toList,∃ k,v = .int .u8 k)→∀ v∈(Extern.BytealgMakeNoZero.digits n t acc).toList,∃ k,v = .int .u8 k
 | 0,_,_,h=>h
 | n+1,t,acc,h=>by
  rw[Extern.BytealgMakeNoZero.digits]
  refine kY n _ _ fun v hv=>?_
  simp only[Array.toList_push,List.mem_append,List.mem_singleton] at hv
  rcases hv with hv|rfl
  ·exact h v hv
  ·exact⟨_,rfl⟩
theorem yZ{P:Program}(w:World)(ps:Array TypeId)(t e:TypeId)(ht:P.underlying t=some (.slice e))(n:Nat)(hn:n≤281474976710656) :
 ∃ cs:Array Value,(Extern.BytealgMakeNoZero.makeNoZero ps #[t] #[.int .i64 n]).run P w = .ok (.slice (some ⟨w.heap.size,0,none⟩) n cs.size) (w.drew.drew.alloc (.cells cs e))∧n≤cs.size∧∀ v∈cs.toList,∃ k,v = .int .u8 k:=by
 have hdef : Extern.BytealgMakeNoZero.makeNoZero ps #[t] #[.int .i64 n] =
     (do
      let .slice elem ← underlying t | stuck "bytealg.MakeNoZero: slice type expected"
      if (n : Int) < 0 || (n : Int) > 2 ^ 48 then runtimePanic (.error "makeslice: len out of range")
      let cap ← choose (.appendCap (n:Int).toNat 0 elem)
      askRoom cap
      let bytes ← choose (.extern "internal/bytealg.MakeNoZero.bytes" 0)
      let a ← newRow elem (Extern.BytealgMakeNoZero.digits cap bytes #[])
      pure (.slice (some a) (n:Int).toNat cap)):=rfl
 refine ⟨Extern.BytealgMakeNoZero.digits (grownCap w n 0 e) ((Question.extern "internal/bytealg.MakeNoZero.bytes" 0).cut (w.tape (w.drawn + 1) (.extern "internal/bytealg.MakeNoZero.bytes" 0))) #[], ?_, ?_, kY _ _ _ (fun v hv => by simp at hv)⟩
 ·rw[hdef]
  have h1:¬(n:Int)<0:=by omega
  have h2:¬(281474976710656:Int)<(n:Int):=by omega
  simp[run_underlying ht,h1,h2,Question.forced,newRow,Go.Lib.size_digits,grownCap]
 ·rw[Go.Lib.size_digits]
  simpa using grownCap_ge w n 0 e
theorem uJ{P:Program}{B lo:Nat}{D:Nat→Prop}{m:NMap}{h h':List Blk}{w:World}(hr:Rel B lo D m h w)(hlo:lo≤h.length){g:FuncId}{fd:Func}{xs ys:List Value}{v:Value}{wr:Option Nat}{s:Sem Next}
 (ha:VRs D m xs ys) (hfd:P.funcs[g]?=some fd) (hb0:fd.body=none) (hv:Aa P fd xs h=some (v,h',wr)) (hs:∀ r w',(callFunc g ⟨ys⟩).run P w = .ok r w'→s.run P w = .ok r w'):StepN P B lo D m h w s v h':=by
 unfold Aa at hv
 split at hv
 ·rename_i x
  obtain⟨x',rfl,hx⟩:∃ x',ys=[x']∧VR D m x x':=by
   obtain⟨x',h1,h2⟩:=ha.at (i:=0) (v:=x) rfl
   have:=ha.len
   match ys,this,h1 with
   | [y],_,h1=>exact⟨y,rfl,by simp at h1;rw[h1];exact h2⟩
  split at hv
  ·rename_i hn
   unfold Aj at hn
   simp only[Bool.and_eq_true,beq_iff_eq,Option.isNone_iff_eq_none] at hn
   obtain⟨rfl,rfl,rfl⟩:x=v∧h=h'∧none=wr:=by simpa using hv
   refine⟨.value x',x',w,m,hs _ _ ?_,.inl rfl,Post.refl hr,by rw[Dx.refl];exact hx⟩
   rw[run_callFunc_extern hfd (by rw[hn.1];kernel_rfl) (by rw[hb0];rfl) hn.2 (yL hn.1)]
   have h6:=Go.Lib.run_noEscape (P:=P) w x'
   rw[h6]
   rfl
  ·split at hv
   ·rename_i hn
    unfold zA at hn
    simp only[Bool.and_eq_true,beq_iff_eq,Option.isNone_iff_eq_none] at hn
    split at hv
    ·rename_i n
     cases hx
     split at hv
     ·rename_i t ht
      have hrt:fd.resultTypes=#[t]:=Array.ext' ht
      split at hv
      ·rename_i e hu
       split at hv
       ·rename_i hc
        obtain⟨rfl,rfl,rfl⟩:_=v∧_=h'∧none=wr:=by simpa using hv
        obtain⟨k,rfl⟩:∃ k:Nat,n=(k:Int):=⟨n.toNat,by omega⟩
        obtain⟨cs,h1,h2,h3⟩:=yZ (P:=P) w fd.params t e hu k (by omega)
        have hrd:=hr.frame (w':=w.drew.drew) (((Below.refl _ _).drew).drew)
        have hvr:VRs D m (List.replicate k ubyte) (cs.toList.take k):=⟨by simp;omega,fun i v v' hv hv'=>by
         rw[List.getElem?_replicate] at hv
         split at hv
         ·cases hv
          obtain⟨q,rfl⟩:=h3 v' (List.mem_of_mem_take (b6 hv'))
          exact .byte q
         ·cases hv⟩
        have hp:=(Post.frame hr (w':=w.drew.drew) (((Below.refl _ _).drew).drew)).trans (by rw[Dx.refl];exact hrd.pushRoomT hlo 1 hvr (cs.toList.drop k) e (fun h=>by cases h))
        rw[List.take_append_drop] at hp
        refine⟨.value (.slice (some ⟨w.heap.size,0,none⟩) k cs.size),_,_,_,hs _ _ ?_,.inl rfl,hp,?_⟩
        ·rw[run_callFunc_extern hfd (by rw[hn.1];kernel_rfl) (by rw[hb0];rfl) hn.2 (wR hn.1),hrt]
         rw[h1]
         rfl
        ·have := iU (D := D) (h := h) (h' := h ++ [Blk.tcells e 1 (List.replicate k ubyte)]) (m := m) (i := ⟨w.drew.drew.heap.size, 0, (List.replicate k ubyte).length + (cs.toList.drop k).length, 1⟩) (l := k) (c := k) (c' := cs.size) (by simp) (a9 _) h2 (by
           simp only[List.length_replicate,List.length_drop,Array.length_toList]
           omega) rfl
         simpa using this
       ·cases hv
      ·cases hv
     ·cases hv
    ·cases hv
   ·split at hv
    ·rename_i hn
     unfold Am at hn
     simp only[Bool.and_eq_true,Bool.or_eq_true,beq_iff_eq,Option.isNone_iff_eq_none] at hn
     split at hv
     ·rename_i b
      split at hv
      ·rename_i hnb
       obtain⟨rfl,rfl,rfl⟩:Value.float .f64 b=v∧h=h'∧none=wr:=by simpa using hv
       cases hx with
       | float _ _ b' hb =>
       have hnb':eE .f64 b'=true:=by
        rcases hb with rfl|hb
        ·exact hnb
        ·exact hb.2
       obtain⟨n,way,hf,hng⟩:=wQ hn.1
       obtain⟨r,w',h1,h2,h3⟩:=xR (P:=P) (n:=n) (way:=way) hnb' w
       refine⟨.value (.float .f64 r),.float .f64 r,w',m,hs _ _ ?_,.inl rfl,Post.frame hr (h2.below _),.float _ _ _ (.inr ⟨hnb,h3⟩)⟩
       rw[run_callFunc_extern hfd hng (by rw[hb0];rfl) hn.2 hf]
       have h6:(Extern.MathFloor.toIntegral n way ⟨[Value.float .f64 b']⟩).run P w = .ok (.float .f64 r) w':=h1
       rw[h6]
       rfl
      ·cases hv
     ·cases hv
    ·cases hv
 ·cases hv
theorem iN{ρ:Operand→Value}{o:Oper}{h:List Blk}{r:Value×List Blk×Option Nat}(hv:hop P ρ o h=some r):∀ c,o.op ≠ .defer c:=by
 intro c hc
 unfold hop at hv
 rw[hc] at hv
 cases hv
theorem iS{ρ:Operand→Value}{o:Oper}{v:Value}(hv:pop P ρ o=some v):∀ c,o.op ≠ .defer c:=by
 intro c hc
 unfold pop at hv
 have hn:sF P ρ o=none:=by unfold sF;rw[hc]
 rw[hn] at hv
 replace hv:pop0 P ρ o=some v:=by
  split at hv
  ·rename_i e;rw[e,a6 hv]
  ·cases hv
 unfold pop0 at hv
 rw[hc] at hv
 simp only[eU,hc] at hv
 split at hv
 ·have : prun P (execOp ρ o) = none ∨ ∃ d, prun P (execOp ρ o) = some (.defer d) := by
    unfold execOp
    rw[hc]
    simp only[]
    unfold resolve
    cases c.callee with
    | builtin b=>exact .inr ⟨_,rfl⟩
    | invoke x nm=>exact .inr ⟨_,rfl⟩
    | value f =>
     simp only[]
     unfold Deferred.ofValue
     cases ρ f<;>first|exact .inl rfl|exact .inr ⟨_,rfl⟩
  rcases this with h|⟨d,h⟩<;>rw[h] at hv<;>cases hv
 ·cases hv
theorem xop_in'(hC:CtxOk P C){B lo:Nat}{D:Nat→Prop}{m:NMap}{h h':List Blk}{w:World}{o:Oper}{a:Act}{tm:List Value}{v:Value}{wr:Option Nat}(hr:Rel B lo D m h w)(hlo:lo≤h.length)
 (hρ:∀ x∈o.op.operands,VR D m (ev tm x) (a.eval x)) (hv:xop C P (ev tm) o h=some (v,h',wr)) (hw:WrOk lo wr):Bt ro n P Q o a B lo D m h w v h':=by
 unfold xop at hv
 split at hv
 ·rename_i r hh
  obtain rfl:=a6 hv
  exact (wS hr hlo hρ hh hw).opIn (iN hh)
 ·split at hv
  ·rename_i c hc
   have hd:∀ c',o.op ≠ .defer c':=fun c' e=>by rw[hc] at e;cases e
   rw[hc] at hρ
   simp only[Op.operands,Call.operands] at hρ
   unfold xcall at hv
   split at hv
   ·rename_i f hf
    rw[hf] at hρ
    have h1:=hρ f (by simp)
    have h2:=rV (xs:=c.args) (ρ:=ev tm) (ρ':=a.eval) (D:=D) (m:=m) fun x hx=>hρ x (by simp[hx])
    rw[Array.toList_map,Array.toList_map] at h2
    split at hv
    ·rename_i fn first captured hfv
     rw[hfv] at h1
     split at hv
     ·rename_i g
      obtain⟨first',captured',hfi,hca,e1⟩:∃ first' captured',VRs D m first first'∧VRs D m captured captured'∧a.eval f = .func (.func g) ⟨first'⟩ ⟨captured'⟩:=by
       generalize a.eval f=y at *
       cases h1
       exact⟨_,_,⟨by assumption,by assumption⟩,⟨by assumption,by assumption⟩,rfl⟩
      have hargs:VRs D m (first++(c.args.toList.map (ev tm)++captured)) (first'++(c.args.toList.map a.eval++captured')):=hfi.append (h2.append hca)
      have harr:(⟨first'⟩++c.args.map a.eval++⟨captured'⟩:Array Value)=⟨first'++(c.args.toList.map a.eval++captured')⟩:=Array.ext' (by simp)
      have hrun:∀ w,(execOp a.eval o).run P w=(callFunc g ⟨first'++(c.args.toList.map a.eval++captured')⟩).run P w:=by
       intro w
       simp only[execOp,hc,resolve,hf,e1,Deferred.ofValue,Sem.run_bind,Sem.run_pure,Result.andThen_ok,invoke]
       rw[harr]
      split at hv
      ·rename_i fd hfd
       split at hv
       ·rename_i body hbody
        split at hv
        ·rename_i hname
         intro next hnext
         refine⟨fun _ _=>trivial,?_⟩
         show o.uponIn (Fw ro) n P a next Q ((o.semAt ro a.eval).run P w)
         rw[Oper.semAt_eq _ _ _ hd,hrun]
         have hcf:(callFunc g ⟨first'++(c.args.toList.map a.eval++captured')⟩).run P w = .ok (.enter g ⟨first'++(c.args.toList.map a.eval++captured')⟩) w:=by
          unfold callFunc
          simp only[Sem.run_bind,run_program,Result.andThen_ok,hfd,hname,Bool.false_eq_true,if_false,hbody]
          rfl
         rw[hcf]
         refine⟨(fun h=>(by cases h)),?_⟩
         have:=callsIn_wide (n:=n-1).2 (hC.call hv hr hlo hw hargs)
         refine CallsIn.mono (F:=Fw ro) (by exact this) ?_
         rintro e w' ⟨v',m',rfl,hp,hvr⟩
         exact hnext v' w' m' hp hvr
        ·cases hv
       ·rename_i hbody
        unfold zH at hv
        split at hv
        ·rename_i v0 hx
         obtain⟨rfl,rfl,rfl⟩:v0=v∧h=h'∧none=wr:=by simpa using hv
         unfold Cd at hx
         split at hx
         ·rename_i hcl
          have heq:first'++(c.args.toList.map a.eval++captured')=first++(c.args.toList.map (ev tm)++captured):=
           hargs.eq_of fun u hu u' hur=>hur.eq_fixed (by have:=a8.1 hcl u hu;exact this)
          split at hx
          ·rename_i v1 hp
           split at hx
           ·rename_i hcv
            obtain rfl:=a6 hx
            exact StepN.opIn hd ⟨.value v1,v1,w,m,by rw[hrun,heq];exact cH hp w,.inl rfl,Post.refl hr,VR.of_clean depth _ hcv⟩
           ·cases hx
          ·cases hx
         ·cases hx
        ·rename_i hx
         generalize first++(c.args.toList.map (ev tm)++captured)=xs at hv hargs
         generalize first'++(c.args.toList.map a.eval++captured')=ys at hrun hargs
         exact StepN.opIn hd (uJ hr hlo hargs hfd hbody hv (fun r w' h5=>by rw[hrun];exact h5))
      ·cases hv
     ·rename_i l
      obtain⟨hD,rfl,rfl,e1⟩:D l∧first=[]∧captured=[]∧a.eval f = .func (.yield (m l).block) #[] #[]:=by
       generalize a.eval f=y at *
       cases h1
       exact⟨by assumption,rfl,rfl,rfl⟩
      obtain⟨fn,tmps,assign,body,hy,hround⟩:=hC.round hv hr hlo hw hD h2
      intro next hnext
      refine⟨fun _ _=>trivial,?_⟩
      show o.uponIn (Fw ro) n P a next Q ((o.semAt ro a.eval).run P w)
      rw[Oper.semAt_eq _ _ _ hd]
      have hrun:(execOp a.eval o).run P w = .ok (.round (m l).block fn tmps assign body) w:=by
       simp only[execOp,hc,resolve,hf,e1,Deferred.ofValue,Sem.run_bind,Sem.run_pure,Result.andThen_ok,invoke]
       rw[show (#[]++c.args.map a.eval:Array Value)=⟨c.args.toList.map a.eval⟩ from Array.ext' (by simp)]
       exact hy
      rw[hrun]
      refine⟨(fun h=>(by cases h)),?_⟩
      refine RoundIn.mono (F:=Fw ro) (by exact hround (n-1)) ?_
      rintro e w' ⟨v',m',rfl,hp,hvr⟩
      exact hnext v' w' m' hp hvr
     ·cases hv
    ·cases hv
   ·cases hv
  ·cases hv
theorem Ax(hC:CtxOk P C){B lo:Nat}{D:Nat→Prop}{m:NMap}{h h':List Blk}{w:World}{o:Oper}{a:Act}{tm:List Value}{v:Value}{wr:Option Nat}(hr:Rel B lo D m h w)(hlo:lo≤h.length)
 (hA:VRs D m tm a.tmps.toList) (ho:oB o=true) (hv:xop C P (ev tm) o h=some (v,h',wr)) (hw:WrOk lo wr):Bt ro n P Q o a B lo D m h w v h':=
 xop_in' hC hr hlo (tV hr.gl hA ho) hv hw
theorem rU(hC:CtxOk P C){ops:Array Oper}:∀(l:List Oper) (k:Nat),ops.toList.drop k=l→l.all oB=true→∀ {B lo:Nat} {D:Nat→Prop} {m:NMap} {h h':List Blk} {w:World} {a:Act} {tm tm':List Value} {wr:Option Nat},
 Rel B lo D m h w→lo≤h.length→VRs D m tm a.tmps.toList→bL C P ops l tm h=some (tm',h',wr)→WrOk lo wr →
 (∀ a' w' m',Post B lo D m h w m' h' w'→VRs (Dx D h.length h'.length) m' tm' a'.tmps.toList→a'.defers=a.defers→Q .normal a' w')→wpOpsIn (Fw ro) n P ops Q (List.range' k l.length) a w:=by
 intro l
 induction l with
 | nil =>
  intro k _ _ B lo D m h h' w a tm tm' wr hr _ hA hv _ hQ
  obtain⟨rfl,rfl,rfl⟩:tm=tm'∧h=h'∧none=wr:=by simpa [bL] using hv
  exact hQ a w m (Post.refl hr) (by rw[Dx.refl];exact hA) rfl
 | cons o rest ih =>
  intro k hk hall B lo D m h h' w a tm tm' wr hr hlo hA hv hw hQ
  simp only[List.all_cons,Bool.and_eq_true] at hall
  have hok:ops[k]?=some o:=by
   have:ops.toList[k]?=some o:=by rw[← List.head?_drop,hk];rfl
   simpa using this
  have hk':ops.toList.drop (k+1)=rest:=by rw[← List.tail_drop,hk];rfl
  simp only[List.length_cons,List.range'_succ,wpOpsIn,hok]
  rw[wZ hA]
  simp only[bL] at hv
  split at hv
  ·rename_i hwant
   rw[b8 hwant]
   split at hv
   ·rename_i v hp
    have hs:=(lX (tV hr.gl hA hall.1) hp).step hr
    refine StepN.opIn (iS hp) hs _ fun v' w' m' hpost hvr=>?_
    have hrel:=hpost.rel
    have e:Dx D h.length h.length=D:=Dx.refl
    rw[e] at hrel hvr
    refine ih (k+1) hk' hall.2 hrel hlo (oL (hA.mono (fun _ h=>h) hpost.agree) o.dst hvr) hv hw fun a' w2 m2 hp2 hA2 hd2=>?_
    refine hQ a' w2 m2 (hpost.trans (by rw[e];exact hp2)) hA2 (by rw[hd2,fS])
   ·split at hv
    ·rename_i v h1 w1 hx
     cases hrest:bL C P ops rest (aN tm o.dst v) h1 with
     | none=>rw[hrest] at hv;cases hv
     | some r =>
      obtain⟨tm2,h2,w2⟩:=r
      rw[hrest] at hv
      obtain⟨rfl,rfl,rfl⟩:tm2=tm'∧h2=h'∧wmin w1 w2=wr:=by simpa using hv
      obtain⟨hw1,hw2⟩:=hw.min
      refine Ax hC hr hlo hA hall.1 hx hw1 _ fun v' w' m' hpost hvr=>?_
      refine ih (k+1) hk' hall.2 hpost.rel (e6 hlo hpost.grow) (oL (hpost.vrs hA) o.dst hvr) hrest hw2 fun a' w3 m2 hp2 hA2 hd2=>?_
      refine hQ a' w3 m2 (hpost.trans hp2) ?_ (by rw[hd2,fS])
      rwa [Dx.trans hpost.grow hp2.grow] at hA2
    ·cases hv
  ·rename_i hwant
   rw[d5 hwant]
   refine⟨fun _ _=>trivial,?_⟩
   refine ih (k+1) hk' hall.2 hr hlo (oL hA o.dst VR.undef) hv hw fun a' w2 m2 hp2 hA2 hd2=>?_
   exact hQ a' w2 m2 hp2 hA2 (by rw[hd2,fS])
end
end Go.Rex
namespace Go.Rex
open Go.RowKit
structure DRs(D:Nat→Prop)(m:NMap)(df:List Nat)(ds:List Deferred):Prop where
 eq:ds=df.map fun n=>{ target:=.collected (m n).block,args:=#[] }
 dom:∀ n∈df,D n
structure AR(D:Nat→Prop)(m:NMap)(a:AS)(a':Act):Prop where
 tm:VRs D m a.tm a'.tmps.toList
 df:DRs D m a.df a'.defers
theorem DRs.mono{D D':Nat→Prop}{m m':NMap}{df:List Nat}{ds:List Deferred}(h:DRs D m df ds)(hD:∀ n,D n→D' n)(hm:∀ n,D n→m' n=m n):DRs D' m' df ds:=
 ⟨by rw[h.eq];exact List.map_congr_left fun n hn=>by rw[hm n (h.dom n hn)],fun n hn=>hD n (h.dom n hn)⟩
theorem Post.drs{B lo:Nat}{D:Nat→Prop}{m m₁:NMap}{h h₁:List Blk}{w w₁:World}(p:Post B lo D m h w m₁ h₁ w₁){df:List Nat}{ds:List Deferred}(hd:DRs D m df ds):DRs (Dx D h.length h₁.length) m₁ df ds:=
 hd.mono (fun _ h=>.inl h) p.agree
def RoR(D:Nat→Prop)(m:NMap)(ro ro':Option Nat):Prop:=
 match ro with
 | none=>ro'=none
 | some l=>D l∧ro'=some (m l).block
theorem Post.ror{B lo:Nat}{D:Nat→Prop}{m m₁:NMap}{h h₁:List Blk}{w w₁:World}(p:Post B lo D m h w m₁ h₁ w₁){ro ro':Option Nat}(hr:RoR D m ro ro'):RoR (Dx D h.length h₁.length) m₁ ro ro':=by
 cases ro with
 | none=>exact hr
 | some l=>exact⟨.inl hr.1,by rw[p.agree l hr.1];exact hr.2⟩
def ExQ(B lo:Nat)(D:Nat→Prop)(m:NMap)(h:List Blk)(w:World)(e:Exit)(a:AS)(h':List Blk):Exit→Act→World→Prop:=fun e' a' w' =>
 e'=e∧∃ m',Post B lo D m h w m' h' w'∧AR (Dx D h.length h'.length) m' a a'
theorem Rel.pushDfr{B lo:Nat}{D:Nat→Prop}{m:NMap}{h:List Blk}{w:World}(hr:Rel B lo D m h w)(hlo:lo≤h.length) :
 Post B lo D m h w (upd m h.length ⟨w.heap.size,0,0,0⟩) (h++[.dfr]) (w.alloc (.deferred (some []))):=
 hr.push _ _ _ rfl hlo (by show (w.alloc _).heap[_]?=_;rw[aA];exact World.alloc_heap_new w _) trivial
section
variable {P:Program} {C:Ctx} {ro ro':Option Nat} {n:Nat}
theorem nQ(hC:CtxOk P C){B lo:Nat}{D:Nat→Prop}{m:NMap}{h h':List Blk}{w:World}{g:Operand}{ps:Array Tmp}{assign body:Code}{a a':AS}{act:Act}{e:Exit}{wr:Option Nat}
 (hr:Rel B lo D m h w) (hlo:lo≤h.length) (hA:AR D m a act) (hro:RoR D m ro ro') (hv:eT C P ro g ps assign body a h=some (e,a',h',wr)) (hw:WrOk lo wr) :
 (Code.rangeFunc g ps assign body).wpIn (Fw ro') n P (ExQ B lo D m h w e a' h') act w:=by
 unfold eT at hv
 split at hv
 ·rename_i hg
  split at hv
  ·rename_i fn first captured hfv
   split at hv
   ·rename_i gf
    split at hv
    ·rename_i fd hfd
     split at hv
     ·rename_i hcond
      obtain⟨hbody,hname⟩:=hcond
      have h1:=vR hr.gl hA.tm hg
      rw[hfv] at h1
      obtain⟨first',captured',hfi,hca,e1⟩:∃ first' captured',VRs D m first first'∧VRs D m captured captured'∧act.eval g = .func (.func gf) ⟨first'⟩ ⟨captured'⟩:=by
       generalize act.eval g=y at *
       cases h1
       exact⟨_,_,⟨by assumption,by assumption⟩,⟨by assumption,by assumption⟩,rfl⟩
      split at hv
      ·cases hv
      ·rename_i h1 d mark hst
       split at hv
       ·rename_i v0 h2 w2 hcall
        refine wpIn_rangeFunc fun fn _=>?_
        obtain ⟨m1, w1, wfin, realMark, hp1, hD1, hent, hreal, hhn, hmk⟩ : ∃ (m1 : NMap) (w1 wfin : World) (realMark : List Deferred), Post B lo D m h w m1 h1 w1 ∧ Dx D h.length h1.length d ∧
            (Instr.enterLoop fn act.tmps ps assign body ro').run P w = .ok (w1.heap.size,realMark) wfin ∧
            wfin=w1.alloc (.loop { state:=.ready,pending:=none,fn,tmps:=act.tmps,params:=ps,assign,body,defers:=(m1 d).block })∧h.length≤h1.length∧DRs (Dx D h.length h1.length) m1 mark realMark:=by
         unfold jZ at hst
         cases ro with
         | none =>
          obtain⟨rfl,rfl,rfl⟩:h++[Blk.dfr]=h1∧h.length=d∧[h.length]=mark:=by simpa using hst
          have hro':ro'=none:=hro
          subst hro'
          refine⟨_,_,_,[{ target:=.collected w.heap.size,args:=#[] }],hr.pushDfr hlo,.inr (by simp),?_,rfl,by simp,⟨?_,fun k hk=>?_⟩⟩
          ·rw[run_enterLoop_outer,aA]
           simp only[World.size_alloc]
          ·rw[List.map_singleton,aA]
          ·obtain rfl:k=h.length:=by simpa using hk
           exact .inr (by simp)
         | some l =>
          obtain⟨hDl,hro'⟩:=hro
          subst hro'
          simp only at hst
          split at hst
          ·rename_i st pend tmps0 ps0 as0 bd0 d0 hl
           obtain⟨rfl,rfl,rfl⟩:h=h1∧d0=d∧[]=mark:=by simpa using hst
           obtain⟨hd,fn0,tmps',hh,_⟩:=hr.ok l _ hDl hl
           refine⟨m,w,_,[],Post.refl hr,.inl hd,?_,rfl,a9 _,⟨rfl,fun k hk=>by simp at hk⟩⟩
           rw[run_enterLoop_inner hh]
          ·cases hst
        have hr1:=hp1.rel
        have hp2:=hr1.push (.loop { state:=.ready,pending:=none,fn,tmps:=act.tmps,params:=ps,assign,body,defers:=(m1 d).block }) (.loop .ready none a.tm ps assign body d) ⟨w1.heap.size,0,0,0⟩ rfl (e6 hlo hhn)
         ⟨.inl hD1,fn,act.tmps.toList,by
          rw[aA,dT (by have:=hr1.dom d hD1;omega)]
          exact World.alloc_heap_new w1 _,((hp1.vrs hA.tm).mono (fun _ h=>.inl h) fun k hk=>dT (by have:=hr1.dom k hk;omega))⟩ trivial
        rw[← hreal] at hp2
        have hr2:=hp2.rel
        have hp12:=hp1.trans hp2
        have hlen:(h1++[Blk.loop LoopState.ready none a.tm ps assign body d]).length=h1.length+1:=by simp
        have hDl:Dx (Dx D h.length h1.length) h1.length (h1++[Blk.loop LoopState.ready none a.tm ps assign body d]).length h1.length:=.inr (by simp)
        have hlb:(upd m1 h1.length ⟨w1.heap.size,0,0,0⟩ h1.length).block=w1.heap.size:=by rw[aA]
        have hargs : VRs (Dx (Dx D h.length h1.length) h1.length (h1 ++ [Blk.loop LoopState.ready none a.tm ps assign body d]).length) (upd m1 h1.length ⟨w1.heap.size, 0, 0, 0⟩)
            (first++([.func (.yield h1.length) #[] #[]]++captured)) (first'++([.func (.yield w1.heap.size) #[] #[]]++captured')):=by
         refine (hp2.vrs (hp1.vrs hfi)).append (VRs.append (VRs.cons ?_ VRs.nil) (hp2.vrs (hp1.vrs hca)))
         have:=VR.yield (D:=Dx (Dx D h.length h1.length) h1.length (h1++[Blk.loop LoopState.ready none a.tm ps assign body d]).length) (m:=upd m1 h1.length ⟨w1.heap.size,0,0,0⟩) h1.length hDl
         rwa [hlb] at this
        have harr:(⟨first'⟩++#[.func (.yield w1.heap.size) #[] #[]]++⟨captured'⟩:Array Value)=⟨first'++([.func (.yield w1.heap.size) #[] #[]]++captured')⟩:=Array.ext' (by simp)
        refine⟨w1.heap.size,realMark,wfin,{ target:=.fn (.func gf) ⟨captured'⟩,args:=⟨first'⟩++#[.func (.yield w1.heap.size) #[] #[]] },wfin,gf,⟨first'++([.func (.yield w1.heap.size) #[] #[]]++captured')⟩,wfin,hent,?_,fun _ _=>trivial,?_,(fun h=>(by cases h)),?_⟩
        ·have evc:∀ v,act.eval (.const v)=v:=fun _=>rfl
         simp only[resolve,rangeCall,e1,Deferred.ofValue,List.map_toArray,List.map_cons,List.map_nil,evc,Sem.run_pure]
        ·simp only[invoke]
         rw[harr]
         unfold callFunc
         obtain⟨bd,hbd⟩:=Option.isSome_iff_exists.1 hbody
         simp only[Sem.run_bind,run_program,Result.andThen_ok,hfd,hname,Bool.false_eq_true,if_false,hbd]
         rfl
        ·have hwr2 : WrOk lo w2 := by
           unfold lA at hv
           repeat' split at hv
           all_goals first
            | (cases hv;done)
            | (have : w2 = wr := by (injection hv with hv; injection hv with _ hv; injection hv with _ hv; injection hv with _ hv)
               rw[this];exact hw)
         have hc:=callsIn_wide (n:=n-1).2 (hC.call hcall hr2 (by rw[hlen];omega) hwr2 hargs)
         refine CallsIn.mono (F:=Fw ro') (by exact hc) ?_
         rintro e3 w3 ⟨v3,m3,rfl,hp3,_⟩
         have hr3:=hp3.rel
         unfold lA at hv
         split at hv
         ·rename_i st pend t3 p3 as3 b3 d3 hl3
          have hDl3:Dx (Dx (Dx D h.length h1.length) h1.length (h1++[Blk.loop LoopState.ready none a.tm ps assign body d]).length) (h1++[Blk.loop LoopState.ready none a.tm ps assign body d]).length h2.length h1.length:=.inl hDl
          have hm3:(m3 h1.length).block=w1.heap.size:=by rw[hp3.agree _ hDl,hlb]
          obtain⟨_,fn3,tmps3,hh3,_⟩:=hr3.ok h1.length _ hDl3 hl3
          rw[hm3] at hh3
          split at hv
          ·cases hv
          ·rename_i hbusy
           have hend:=run_endLoop (P:=P) hh3 (by simpa using hbusy)
           have hp4:=hr3.put hDl3 (by omega) hl3 (by simp) (.loop { state:=.exhausted,pending:=pend,fn:=fn3,tmps:=⟨tmps3⟩,params:=p3,assign:=as3,body:=b3,defers:=(m3 d3).block }) .dead trivial trivial
           rw[hm3] at hp4
           have hpost:=(hp12.trans (by rw[← Dx.trans hp1.grow hp2.grow];exact hp3)).trans (by rw[← Dx.trans (e6 hp1.grow hp2.grow) hp3.grow,← Dx.trans hp1.grow hp2.grow];exact hp4)
           have hAR:∀ ds,act.defers=ds→AR (Dx D h.length (h2.set h1.length .dead).length) m3 ⟨a.tm,mark++a.df⟩ { tmps:=act.tmps,defers:=realMark++ds }:=by
            rintro ds rfl
            have hmark:=(hp4.drs (hp3.drs (hp2.drs hmk)))
            have hold:=hpost.drs hA.df
            have hsub:∀ k,Dx (Dx (Dx (Dx D h.length h1.length) h1.length (h1++[Blk.loop LoopState.ready none a.tm ps assign body d]).length) (h1++[Blk.loop LoopState.ready none a.tm ps assign body d]).length h2.length) h2.length (h2.set h1.length .dead).length k→Dx D h.length (h2.set h1.length .dead).length k:=by
             intro k hk
             rwa [Dx.trans hp1.grow hp2.grow,Dx.trans (e6 hp1.grow hp2.grow) hp3.grow,Dx.trans (e6 (e6 hp1.grow hp2.grow) hp3.grow) hp4.grow] at hk
            have hmark:=hmark.mono hsub (fun _ _=>rfl)
            refine⟨hpost.vrs hA.tm,⟨by rw[hmark.eq,hold.eq,List.map_append],fun k hk=>?_⟩⟩
            rcases List.mem_append.1 hk with hk|hk
            ·exact hmark.dom k hk
            ·exact hold.dom k hk
           refine⟨pend,_,hend,?_⟩
           split at hv
           ·obtain⟨rfl,rfl,rfl,rfl⟩:Exit.normal=e∧_=a'∧_=h'∧w2=wr:=by simpa using hv
            exact⟨rfl,m3,hpost,hAR _ rfl⟩
           ·rename_i c
            split at hv
            ·obtain⟨rfl,rfl,rfl,rfl⟩:Exit.ret=e∧_=a'∧_=h'∧w2=wr:=by simpa using hv
             exact wpIn_ret ⟨rfl,m3,hpost,hAR _ rfl⟩
            ·rename_i id
             obtain⟨rfl,rfl,rfl,rfl⟩:Exit.exit id=e∧_=a'∧_=h'∧w2=wr:=by simpa using hv
             exact wpIn_exit ⟨rfl,m3,hpost,hAR _ rfl⟩
            ·cases hv
         ·cases hv
       ·cases hv
     ·cases hv
    ·cases hv
   ·cases hv
  ·cases hv
 ·cases hv
end
end Go.Rex
namespace Go.Rex
open Go.RowKit
def gR(P:Program)(C:Ctx):Prop:=
 ∀ {id:Nat} {ops:Array Oper} {tm tm':List Value} {h h':List Blk} {wr:Option Nat},cG C P ops tm h=some (tm',h',wr) →
  ∀ {ro':Option Nat} {n B lo:Nat} {D:Nat→Prop} {m:NMap} {w:World} {a:Act} {Q:Exit→Act→World→Prop},Rel B lo D m h w→lo≤h.length→VRs D m tm a.tmps.toList→WrOk lo wr →
   (∀ a' w' m',Post B lo D m h w m' h' w'→VRs (Dx D h.length h'.length) m' tm' a'.tmps.toList→a'.defers=a.defers→Q .normal a' w')→(Code.region id ops true).wpIn (Fw ro') n P Q a w
section
variable {P:Program} {C:Ctx} {ro:Option Nat}
theorem tC{F:Fence}{n:Nat}{P:Program}{c:Code}{Q Q':Exit→Act→World→Prop}(hq:∀ e a w,Q e a w→Q' e a w):∀ {m:Nat} {a:Act} {w:World},Code.roundsIn F n P c Q m a w→Code.roundsIn F n P c Q' m a w:=by
 intro m
 induction m with
 | zero=>intro a w h;exact h
 | succ m ih =>
  intro a w h
  rw[roundsIn_succ] at h ⊢
  refine wpIn_mono h fun e a w h=>?_
  cases e<;>first|exact ih h|exact hq _ _ _ h
theorem ExQ.then{B lo:Nat}{D:Nat→Prop}{m m1:NMap}{h h1 h2:List Blk}{w w1:World}{e:Exit}{a2:AS}(hp:Post B lo D m h w m1 h1 w1){e':Exit}{a':Act}{w':World}
 (hq:ExQ B lo (Dx D h.length h1.length) m1 h1 w1 e a2 h2 e' a' w'):ExQ B lo D m h w e a2 h2 e' a' w':=by
 obtain⟨he,m2,hp2,hA2⟩:=hq
 rw[Dx.trans hp.grow hp2.grow] at hA2
 exact⟨he,m2,hp.trans hp2,hA2⟩
theorem jW(hC:CtxOk P C)(hDraw:gR P C):∀(k:Nat) (c:Code) (a:AS) (h:List Blk) (e:Exit) (a':AS) (h':List Blk) (wr:Option Nat),exec C P ro k c a h=some (e,a',h',wr) →
 ∀ {ro':Option Nat} {n B lo:Nat} {D:Nat→Prop} {m:NMap} {w:World} {act:Act},Rel B lo D m h w→lo≤h.length→WrOk lo wr→AR D m a act→RoR D m ro ro'→c.wpIn (Fw ro') n P (ExQ B lo D m h w e a' h') act w:=by
 intro k
 induction k using Nat.strongRecOn with
 | _ k ih =>
 cases k with
 | zero=>intro c a h e a' h' wr hv;simp[exec] at hv
 | succ k =>
 intro c a h e a' h' wr hv ro' n B lo D m w act hr hlo hw hA hro
 have refl:ExQ B lo D m h w .normal a h .normal act w:=⟨rfl,m,Post.refl hr,by rw[Dx.refl];exact hA⟩
 cases c with
 | skip =>
  obtain⟨rfl,rfl,rfl,rfl⟩:Exit.normal=e∧a=a'∧h=h'∧none=wr:=by simpa [exec] using hv
  exact wpIn_skip refl
 | label l =>
  obtain⟨rfl,rfl,rfl,rfl⟩:Exit.normal=e∧a=a'∧h=h'∧none=wr:=by simpa [exec] using hv
  exact wpIn_label refl
 | exit id =>
  obtain⟨rfl,rfl,rfl,rfl⟩:Exit.exit id=e∧a=a'∧h=h'∧none=wr:=by simpa [exec] using hv
  exact wpIn_exit ⟨rfl,m,Post.refl hr,by rw[Dx.refl];exact hA⟩
 | ret =>
  obtain⟨rfl,rfl,rfl,rfl⟩:Exit.ret=e∧a=a'∧h=h'∧none=wr:=by simpa [exec] using hv
  exact wpIn_ret ⟨rfl,m,Post.refl hr,by rw[Dx.refl];exact hA⟩
 | seq x y =>
  simp only[exec] at hv
  cases hx:exec C P ro k x a h with
  | none=>rw[hx] at hv;cases hv
  | some r =>
   obtain⟨e1,a1,h1,w1⟩:=r
   rw[hx] at hv
   have hother:e1 ≠ .normal→e1=e∧a1=a'∧h1=h'∧w1=wr:=by
    intro hne
    cases e1<;>first|(exact absurd rfl hne)|simpa using hv
   cases e1 with
   | normal =>
    simp only at hv
    cases hy:exec C P ro k y a1 h1 with
    | none=>rw[hy] at hv;cases hv
    | some r =>
     obtain⟨e2,a2,h2,w2⟩:=r
     rw[hy] at hv
     obtain⟨rfl,rfl,rfl,rfl⟩:e2=e∧a2=a'∧h2=h'∧wmin w1 w2=wr:=by simpa using hv
     obtain⟨hw1,hw2⟩:=hw.min
     refine wpIn_seq (wpIn_mono (ih k (by omega) x a h _ a1 h1 w1 hx hr hlo hw1 hA hro) ?_)
     rintro e' act' w' ⟨rfl,m1,hp1,hA1⟩
     exact wpIn_mono (ih k (by omega) y a1 h1 _ a2 h2 w2 hy hp1.rel (e6 hlo hp1.grow) hw2 hA1 (hp1.ror hro)) fun e'' a'' w'' hq=>hq.then hp1
   | _ =>
    obtain⟨rfl,rfl,rfl,rfl⟩:=hother (by simp)
    refine wpIn_seq (wpIn_mono (ih k (by omega) x a h _ _ _ _ hx hr hlo hw hA hro) ?_)
    rintro e' act' w' hq
    obtain⟨rfl,hq'⟩:=hq
    exact⟨rfl,hq'⟩
 | cond c x y =>
  simp only[exec] at hv
  split at hv
  ·rename_i hc
   split at hv
   ·rename_i t ht
    have h1:=vR hr.gl hA.tm hc
    rw[ht] at h1
    have h2:act.eval c = .bool t:=by
     generalize act.eval c=z at *
     cases h1;rfl
    refine wpIn_cond h2 ?_
    cases t with
    | true=>exact ih k (by omega) x a h _ _ _ _ hv hr hlo hw hA hro
    | false=>exact ih k (by omega) y a h _ _ _ _ hv hr hlo hw hA hro
   ·cases hv
  ·cases hv
 | block id b =>
  simp only[exec] at hv
  cases hx:exec C P ro k b a h with
  | none=>rw[hx] at hv;cases hv
  | some r =>
   obtain⟨e1,a1,h1,w1⟩:=r
   rw[hx] at hv
   refine wpIn_block ?_
   cases e1 with
   | exit id' =>
    simp only at hv
    split at hv
    ·rename_i hid
     obtain⟨rfl,rfl,rfl,rfl⟩:Exit.normal=e∧a1=a'∧h1=h'∧w1=wr:=by simpa using hv
     refine wpIn_mono (ih k (by omega) b a h _ _ _ _ hx hr hlo hw hA hro) ?_
     rintro e' act' w' ⟨rfl,hq'⟩
     simp only[Exit.inBlock,hid,if_true]
     exact⟨rfl,hq'⟩
    ·rename_i hid
     obtain⟨rfl,rfl,rfl,rfl⟩:Exit.exit id'=e∧a1=a'∧h1=h'∧w1=wr:=by simpa using hv
     refine wpIn_mono (ih k (by omega) b a h _ _ _ _ hx hr hlo hw hA hro) ?_
     rintro e' act' w' ⟨rfl,hq'⟩
     simp only[Exit.inBlock,hid,if_false]
     exact⟨rfl,hq'⟩
   | _ =>
    obtain⟨rfl,rfl,rfl,rfl⟩:_=e∧a1=a'∧h1=h'∧w1=wr:=by simpa using hv
    refine wpIn_mono (ih k (by omega) b a h _ _ _ _ hx hr hlo hw hA hro) ?_
    rintro e' act' w' ⟨rfl,hq'⟩
    exact⟨rfl,hq'⟩
 | loop b =>
  refine wpIn_loop_rounds (k+1) ?_
  have key : ∀ j, j ≤ k + 1 → ∀ (a : AS) (h : List Blk) (wr : Option Nat), exec C P ro j (.loop b) a h = some (e, a', h', wr) → ∀ {D : Nat → Prop} {m : NMap} {w : World} {act : Act}, Rel B lo D m h w → lo ≤ h.length → WrOk lo wr → AR D m a act → RoR D m ro ro' →
      Code.roundsIn (Fw ro') n P b (ExQ B lo D m h w e a' h') j act w:=by
   intro j
   induction j with
   | zero=>intro _ a h wr hv;simp[exec] at hv
   | succ j ihj =>
    intro hj a h wr hv D m w act hr hlo hw hA hro
    rw[roundsIn_succ]
    simp only[exec] at hv
    cases hx:exec C P ro j b a h with
    | none=>rw[hx] at hv;cases hv
    | some r =>
     obtain⟨e1,a1,h1,w1⟩:=r
     rw[hx] at hv
     have hother:e1 ≠ .normal→e1=e∧a1=a'∧h1=h'∧w1=wr:=by
      intro hne
      cases e1<;>first|(exact absurd rfl hne)|simpa using hv
     cases e1 with
     | normal =>
      simp only at hv
      cases hy:exec C P ro j (.loop b) a1 h1 with
      | none=>rw[hy] at hv;cases hv
      | some r =>
       obtain⟨e2,a2,h2,w2⟩:=r
       rw[hy] at hv
       obtain⟨rfl,rfl,rfl,rfl⟩:e2=e∧a2=a'∧h2=h'∧wmin w1 w2=wr:=by simpa using hv
       obtain⟨hw1,hw2⟩:=hw.min
       refine wpIn_mono (ih j (by omega) b a h _ a1 h1 w1 hx hr hlo hw1 hA hro) ?_
       rintro e' act' w' ⟨rfl,m1,hp1,hA1⟩
       have:=ihj (by omega) a1 h1 w2 hy hp1.rel (e6 hlo hp1.grow) hw2 hA1 (hp1.ror hro)
       exact tC (fun e'' a'' w'' hq=>hq.then hp1) this
     | _ =>
      obtain⟨rfl,rfl,rfl,rfl⟩:=hother (by simp)
      refine wpIn_mono (ih j (by omega) b a h _ _ _ _ hx hr hlo hw hA hro) ?_
      rintro e' act' w' hq
      obtain⟨rfl,hq'⟩:=hq
      exact⟨rfl,hq'⟩
  exact key (k+1) (a9 _) a h wr hv hr hlo hw hA hro
 | region id ops draw =>
  cases draw with
  | true =>
   simp only[exec] at hv
   cases hx:cG C P ops a.tm h with
   | none=>rw[hx] at hv;cases hv
   | some r =>
    obtain⟨tm1,h1,w1⟩:=r
    rw[hx] at hv
    obtain⟨rfl,rfl,rfl,rfl⟩:Exit.normal=e∧(⟨tm1,a.df⟩:AS)=a'∧h1=h'∧w1=wr:=by simpa [mH] using hv
    exact hDraw hx hr hlo hA.tm hw fun act' w' m' hp hA' hd=>⟨rfl,m',hp,hA',by rw[hd];exact hp.drs hA.df⟩
  | false =>
   simp only[exec] at hv
   split at hv
   ·rename_i hreg
    cases hx:bL C P ops ops.toList a.tm h with
    | none=>rw[hx] at hv;cases hv
    | some r =>
     obtain⟨tm1,h1,w1⟩:=r
     rw[hx] at hv
     obtain⟨rfl,rfl,rfl,rfl⟩:Exit.normal=e∧(⟨tm1,a.df⟩:AS)=a'∧h1=h'∧w1=wr:=by simpa [mH] using hv
     refine wpIn_region ?_
     have:=rU (ro:=ro') (n:=n) (Q:=ExQ B lo D m h w .normal ⟨tm1,a.df⟩ h1) hC ops.toList 0 rfl hreg hr hlo hA.tm hx hw fun act' w' m' hp hA' hd=>⟨rfl,m',hp,hA',by rw[hd];exact hp.drs hA.df⟩
     rwa [Array.length_toList,← List.range_eq_range'] at this
   ·cases hv
 | rangeFunc g ps assign body =>
  simp only[exec] at hv
  exact nQ hC hr hlo hA hro hv hw
 | _=>simp[exec] at hv
end
end Go.Rex
namespace Go.Rex
open Go.RowKit
section
variable {P:Program} {C:Ctx}
theorem uZ{B lo:Nat}{D:Nat→Prop}{m:NMap}{h:List Blk}{w:World}{tm:List Value}{a:Act}{r:ResultVar}{v:Value}(hr:Rel B lo D m h w)(hA:VRs D m tm a.tmps.toList)(hv:xG P h tm r=some v) :
 ∃ v',(match r with|.tmp t=>pure (a.tmps.getD t undef)|.cell x t=>do loadVar t (← asAddr (a.tmps.getD x undef)):Sem Value).run P w = .ok v' w∧VR D m v v':=by
 have getv:∀ t,VR D m (nth tm t) (a.tmps.getD t undef):=fun t=>vR (x:=.tmp t) hr.gl hA rfl
 cases r with
 | tmp t =>
  obtain rfl:=a6 hv
  exact⟨_,rfl,getv t⟩
 | cell x t =>
  simp only[xG] at hv
  split at hv
  ·rename_i n o hx
   have h1:=getv x
   rw[hx] at h1
   obtain⟨hD,h2⟩:D n∧a.tmps.getD x undef = .pointer (some ⟨(m n).block,(m n).off+o,none⟩):=by
    generalize a.tmps.getD x undef=y at *
    cases h1;exact⟨by assumption,rfl⟩
   obtain⟨v',h3,h4⟩:=mQ (P:=P) hr hD hv
   refine⟨v',?_,h4⟩
   simp only[h2,asAddr,Sem.run_bind,Sem.run_pure,Result.andThen_ok,h3]
  ·cases hv
theorem kN{B lo:Nat}{D:Nat→Prop}{m:NMap}{h:List Blk}{w:World}{tm:List Value}{a:Act}(hr:Rel B lo D m h w)(hA:VRs D m tm a.tmps.toList):∀(rs:List ResultVar) (vs:List Value),fC P h tm rs=some vs→∀ acc,
 ∃ vs',(List.mapM.loop (fun r:ResultVar=>(match r with|.tmp t=>pure (a.tmps.getD t undef)|.cell x t=>do loadVar t (← asAddr (a.tmps.getD x undef)):Sem Value)) rs acc).run P w = .ok (acc.reverse++vs') w∧VRs D m vs vs'
 | [],vs,hv,acc=>by
  obtain rfl:[]=vs:=by simpa [fC] using hv
  exact⟨[],by simp[List.mapM.loop],VRs.nil⟩
 | r::rs,vs,hv,acc=>by
  simp only[fC] at hv
  split at hv
  ·rename_i v h1
   cases h2:fC P h tm rs with
   | none=>rw[h2] at hv;cases hv
   | some vs0 =>
    rw[h2] at hv
    obtain rfl:v::vs0=vs:=by simpa using hv
    obtain⟨v',h3,h4⟩:=uZ hr hA h1
    obtain⟨vs',h5,h6⟩:=kN hr hA rs vs0 h2 (v'::acc)
    refine⟨v'::vs',?_,VRs.cons h4 h6⟩
    simp only[List.mapM.loop,Sem.run_bind,h3,Result.andThen_ok,h5]
    simp
  ·cases hv
theorem pJ{B lo:Nat}{D:Nat→Prop}{m:NMap}{h:List Blk}{w:World}{tm:List Value}{a:Act}{fd:Func}{vs:List Value}(hr:Rel B lo D m h w)(hA:VRs D m tm a.tmps.toList)(hv:fC P h tm fd.results.toList=some vs) :
 ∃ v',(results fd a.tmps).run P w = .ok v' w∧VR D m (bR vs) v':=by
 obtain⟨vs',h1,h2⟩:=kN hr hA _ _ hv []
 have hm:(fd.results.mapM fun r:ResultVar=>(match r with|.tmp t=>pure (a.tmps.getD t undef)|.cell x t=>do loadVar t (← asAddr (a.tmps.getD x undef)):Sem Value)).run P w = .ok ⟨vs'⟩ w:=by
  rw[Array.mapM_eq_mapM_toList]
  simp only[List.mapM,Sem.run_map,h1,Result.andThen_ok,List.reverse_nil,List.nil_append]
 refine⟨if h:(⟨vs'⟩:Array Value).size=1 then (⟨vs'⟩:Array Value)[0] else .tuple ⟨vs'⟩,?_,?_⟩
 ·have he : results fd a.tmps = (do
      let vs ← (fd.results.mapM fun r:ResultVar=>(match r with|.tmp t=>pure (a.tmps.getD t undef)|.cell x t=>do loadVar t (← asAddr (a.tmps.getD x undef)):Sem Value))
      pure (if h:vs.size=1 then vs[0] else .tuple vs)):=rfl
  rw[he]
  simp only[Sem.run_bind]
  rw[hm]
  rfl
 ·cases vs with
  | nil =>
   obtain rfl:vs'=[]:=by have:=h2.len;simpa using this
   exact .tuple' h2
  | cons x xs =>
   cases xs with
   | nil =>
    obtain⟨x',rfl⟩:∃ x',vs'=[x']:=by
     have:=h2.len
     match vs',this with
     | [y],_=>exact⟨y,rfl⟩
    exact h2.at' 0 _ _ rfl rfl
   | cons y ys =>
    rw[dif_neg (by have:=h2.len;simp at this ⊢;omega)]
    exact .tuple' h2
theorem kX{F:Fence}{n:Nat}{fd:Func}{R:Ending→World→Prop}:∀(df:List Nat) {B lo:Nat} {D:Nat→Prop} {m:NMap} {h h':List Blk} {w:World} {tm:List Value} {a:Act} {wr:Option Nat} {vs:List Value},
 Rel B lo D m h w→VRs D m tm a.tmps.toList→DRs D m df a.defers→aK df h=some (h',wr)→WrOk lo wr→fC P h' tm fd.results.toList=some vs →
 (∀ v' w',Post B lo D m h w m h' w'→VR D m (bR vs) v'→R (.returned v') w')→LeavesInM F n P fd a.tmps R a.defers .returning w
 | [],B,lo,D,m,h,h',w,tm,a,wr,vs,hr,hA,hd,ht,hw,hres,hR=>by
  obtain⟨rfl,rfl⟩:h=h'∧none=wr:=by simpa [aK] using ht
  rw[hd.eq]
  obtain⟨v',h1,h2⟩:=pJ hr hA hres
  exact⟨v',h1,hR v' w (Post.refl hr) h2⟩
 | x::df,B,lo,D,m,h,h',w,tm,a,wr,vs,hr,hA,hd,ht,hw,hres,hR=>by
  simp only[aK] at ht
  split at ht
  ·rename_i hx
   cases h2:aK df (h.set x .dead) with
   | none=>rw[h2] at ht;cases ht
   | some r =>
    obtain⟨h3,w3⟩:=r
    rw[h2] at ht
    obtain⟨rfl,rfl⟩:h3=h'∧wmin (some x) w3=wr:=by simpa using ht
    obtain⟨hw1,hw2⟩:=hw.min
    have hD:=hd.dom x (by simp)
    have hblk:w.heap[(m x).block]?=some (.deferred (some [])):=hr.ok x _ hD hx
    have hp:=hr.put hD (hw1 x rfl) hx (by simp) (.deferred none) .dead trivial trivial
    have hrel:=hp.rel
    have e:Dx D h.length (h.set x Blk.dead).length=D:=by rw[i8];exact Dx.refl
    rw[e] at hrel
    have hdrest:DRs D m df (df.map fun n=>{ target:=.collected (m n).block,args:=#[] }):=⟨rfl,fun n hn=>hd.dom n (g8 _ hn)⟩
    rw[hd.eq,List.map_cons]
    refine⟨by simp,.inl ⟨(m x).block,w.putObj (m x).block (.deferred none),rfl,run_takeDeferred hblk,?_⟩⟩
    refine kX (a:={ tmps:=a.tmps,defers:=df.map fun n=>{ target:=.collected (m n).block,args:=#[] } }) df hrel hA hdrest h2 hw2 hres fun v' w' hp' hv'=>hR v' w' ?_ hv'
    exact hp.trans (by rw[e];exact hp')
  ·cases ht
theorem iW:∀(df:List Nat) (h h':List Blk) (wr:Option Nat),aK df h=some (h',wr)→h'.length=h.length
 | [],h,h',wr,ht=>by
  obtain⟨rfl,rfl⟩:h=h'∧none=wr:=by simpa [aK] using ht
  rfl
 | x::df,h,h',wr,ht=>by
  simp only[aK] at ht
  split at ht
  ·cases h2:aK df (h.set x .dead) with
   | none=>rw[h2] at ht;cases ht
   | some r =>
    obtain⟨h3,w3⟩:=r
    rw[h2] at ht
    obtain⟨rfl,rfl⟩:h3=h'∧wmin (some x) w3=wr:=by simpa using ht
    rw[iW df _ _ _ h2];simp
  ·cases ht
theorem rT{F:Fence}{n:Nat}{fd:Func}{B lo:Nat}{D:Nat→Prop}{m m1:NMap}{h h1 h2:List Blk}{w w1:World}{a1:AS}{act:Act}{w2:Option Nat}{vs:List Value}{R:Ending→World→Prop}
 (hp:Post B lo D m h w m1 h1 w1) (hA:AR (Dx D h.length h1.length) m1 a1 act) (ht:aK a1.df h1=some (h2,w2)) (hw:WrOk lo w2) (hres:fC P h2 a1.tm fd.results.toList=some vs)
 (hR:∀ v' m' w',Post B lo D m h w m' h2 w'→VR (Dx D h.length h2.length) m' (bR vs) v'→R (.returned v') w'):LeavesInM F n P fd act.tmps R act.defers .returning w1:=by
 have hl:=iW _ _ _ _ ht
 refine kX a1.df hp.rel hA.tm hA.df ht hw hres fun v' w' hp2 hv=>hR v' m1 w' (hp.trans hp2) ?_
 rw[hl];exact hv
theorem fZ(hC:CtxOk P C)(hDraw:gR P C){k:Nat}{f:FuncId}{args:List Value}{h:List Blk}{v:Value}{h':List Blk}{wr:Option Nat}(hv:cC C P k f args h=some (v,h',wr)){B lo:Nat}{D:Nat→Prop}{m:NMap}{w:World}{args':List Value}
 (hr:Rel B lo D m h w) (hlo:lo≤h.length) (hw:WrOk lo wr) (hargs:VRs D m args args'):Calls P f ⟨args'⟩ w (Good B lo D m h w v h'):=by
 unfold cC at hv
 split at hv
 ·cases hv
 ·rename_i fd hfd
  split at hv
  ·cases hv
  ·rename_i c hc
   split at hv
   ·rename_i e a1 h1 w1 hx
    have hA0:∀ {B lo:Nat},AR D m ⟨args++List.replicate (fd.ntmps-args.length) undef,[]⟩ { tmps:=⟨args'⟩++Array.replicate (fd.ntmps-(⟨args'⟩:Array Value).size) undef,defers:=[] }:=fun {_ _}=>by
     refine⟨?_,⟨rfl,fun n hn=>by simp at hn⟩⟩
     have:(⟨args'⟩:Array Value).size=args.length:=hargs.len
     rw[this]
     simp only[Array.toList_append,Array.toList_replicate]
     exact hargs.append (VRs.replicate VR.undef _)
    have main:(e = .normal∨e = .ret)→cW P fd h.length h a1 h1 w1=some (v,h',wr)→Calls P f ⟨args'⟩ w (Good B lo D m h w v h'):=by
     intro he hend
     unfold cW at hend
     split at hend
     ·rename_i h2 w2 ht
      split at hend
      ·rename_i vs hres
       have go:∀(B' lo':Nat),Rel B' lo' D m h w→lo'≤h.length→WrOk lo' (wmin w1 w2)→Calls P f ⟨args'⟩ w (fun e w'=>∃ v' m',e = .returned v'∧Post B' lo' D m h w m' h2 w'∧VR (Dx D h.length h2.length) m' (bR vs) v'):=by
        intro B' lo' hr' hlo' hw'
        obtain⟨hw1,hw2⟩:=hw'.min
        refine (callsIn_wide (n:=10)).1 (callsIn_of_wp_marks hfd hc trivial ?_ rfl)
        refine wpIn_mono (F:=Fence.wide) (jW (ro':=none) hC hDraw k c _ h e a1 h1 w1 hx hr' hlo' hw1 (hA0 (B:=B') (lo:=lo')) rfl) ?_
        rintro e' act' w' ⟨rfl,m1,hp,hA1⟩
        have:=rT (P:=P) (F:=Fence.wide) (n:=10) (fd:=fd) (R:=fun e w'=>∃ v' m',e = .returned v'∧Post B' lo' D m h w m' h2 w'∧VR (Dx D h.length h2.length) m' (bR vs) v') hp hA1 ht hw2 hres fun v' m' w' hp2 hv2=>⟨v',m',rfl,hp2,hv2⟩
        rcases he with rfl|rfl<;>exact this
       split at hend
       ·rename_i hcl
        split at hend
        ·rename_i hge
         obtain⟨rfl,rfl,rfl⟩:bR vs=v∧h=h'∧none=wr:=by simpa using hend
         refine (go w.heap.size h.length (hr.still h.length (a9 _)) (a9 _) (rH hge)).mono ?_
         rintro e' w' ⟨v',m',rfl,hp,hvr⟩
         exact⟨v',m,rfl,Post.frame hr hp.below,VR.shift depth _ _ hcl hvr⟩
        ·obtain⟨rfl,rfl,rfl⟩:bR vs=v∧h2=h'∧wmin w1 w2=wr:=by simpa using hend
         exact go B lo hr hlo hw
       ·split at hend
        ·rename_i hge
         obtain⟨rfl,rfl,rfl⟩:bR vs=v∧h2=h'∧none=wr:=by simpa using hend
         exact go B lo hr hlo fun n hn=>e6 hlo (rH hge n hn)
        ·obtain⟨rfl,rfl,rfl⟩:bR vs=v∧h2=h'∧wmin w1 w2=wr:=by simpa using hend
         exact go B lo hr hlo hw
      ·cases hend
     ·cases hend
    split at hv
    ·exact main (.inl rfl) hv
    ·exact main (.inr rfl) hv
    ·cases hv
   ·cases hv
theorem nJ{D:Nat→Prop}{m:NMap}:∀(ps:List Tmp) (vs vs' tm:List Value) (tm':Array Value),VRs D m vs vs'→VRs D m tm tm'.toList →
 VRs D m (lD ps vs tm) ((ps.zip vs').foldl (fun tmps (x:Tmp×Value)=>tmps.setIfInBounds x.1 x.2) tm').toList
 | [],vs,vs',tm,tm',hv,ht=>by cases vs<;>exact ht
 | p::ps,[],vs',tm,tm',hv,ht=>by
  obtain rfl:vs'=[]:=by have:=hv.len;simpa using this
  exact ht
 | p::ps,v::vs,vs',tm,tm',hv,ht=>by
  obtain⟨v',rest,rfl⟩:∃ v' rest,vs'=v'::rest:=by
   have h1:=hv.len
   cases vs' with
   | nil=>simp at h1
   | cons a b=>exact⟨a,b,rfl⟩
  have hx:VR D m v v':=hv.at' 0 _ _ rfl rfl
  have hs:VRs D m vs rest:=⟨by have:=hv.len;simpa using this,fun i x x' h h'=>hv.at' (i+1) _ _ (by simpa using h) (by simpa using h')⟩
  simp only[lD,List.zip_cons_cons,List.foldl_cons]
  refine nJ ps vs rest _ _ hs ?_
  simp only[Array.toList_setIfInBounds]
  exact ht.set p hx
theorem iQ(hC:CtxOk P C)(hDraw:gR P C){k:Nat}{l:Nat}{args:List Value}{h:List Blk}{v:Value}{h':List Blk}{wr:Option Nat}(hv:gG C P k l args h=some (v,h',wr)){B lo:Nat}{D:Nat→Prop}{m:NMap}{w:World}{args':List Value}
 (hr:Rel B lo D m h w) (hlo:lo≤h.length) (hw:WrOk lo wr) (hD:D l) (hargs:VRs D m args args') :
 ∃ fn tmps assign body,(Instr.yield (m l).block ⟨args'⟩).run P w = .ok (.round (m l).block fn tmps assign body) w∧∀ n,RoundIn Fence.wide n P (m l).block fn tmps assign body w (Good B lo D m h w v h'):=by
 unfold gG at hv
 split at hv
 ·rename_i st pend tmps ps assign body d hl
  split at hv
  ·rename_i hcond
   obtain⟨rfl,hlen⟩:=hcond
   obtain⟨hDd,fn,tmps',hh,htm⟩:=hr.ok l _ hD hl
   have hy:=run_yield (P:=P) (args:=⟨args'⟩) hh (by show args'.length=ps.size;rw[hargs.len,hlen])
   refine⟨fn,_,assign,body,hy,fun n=>?_⟩
   split at hv
   ·rename_i e a1 h1 w1 hx
    split at hv
    ·split at hv
     ·rename_i st1 pend1 t1 p1 as1 bd1 d1 hl1
      split at hv
      ·rename_i hst1
       subst hst1
       split at hv
       ·rename_i e2 a2 h2 w2 hx2
        have hv2:∃ jump,fJ l jump h2 (wmin w1 w2)=some (v,h',wr)∧((e2 = .normal∧jump=none)∨(e2 = .ret∧jump=some .ret)∨(∃ id,e2 = .exit id∧jump=some (.exit id))):=by
         split at hv
         ·exact⟨_,hv,.inl ⟨rfl,rfl⟩⟩
         ·exact⟨_,hv,.inr (.inl ⟨rfl,rfl⟩)⟩
         ·exact⟨_,hv,.inr (.inr ⟨_,rfl,rfl⟩)⟩
         ·cases hv
        clear hv
        obtain⟨jump,hend,hjump⟩:=hv2
        unfold fJ at hend
        split at hend
        ·rename_i st3 pend3 t3 p3 as3 b3 d3 hl3
         obtain⟨rfl,rfl,rfl⟩:Value.bool jump.isNone=v∧_=h'∧wmin (some l) (wmin w1 w2)=wr:=by simpa using hend
         obtain⟨hwl,hw12⟩:=hw.min
         obtain⟨hw1,hw2⟩:=hw12.min
         have hlol:=hwl l rfl
         have hA0:AR D m ⟨lD ps.toList args tmps,[]⟩ { tmps:=(ps.zip ⟨args'⟩).foldl (fun tmps (x:Tmp×Value)=>tmps.setIfInBounds x.1 x.2) ⟨tmps'⟩,defers:=[] }:=by
          refine⟨?_,⟨rfl,fun n hn=>by simp at hn⟩⟩
          have:=nJ (D:=D) (m:=m) ps.toList args args' tmps ⟨tmps'⟩ hargs htm
          have e:(ps.zip (⟨args'⟩:Array Value)).foldl (fun tmps (x:Tmp×Value)=>tmps.setIfInBounds x.1 x.2) (⟨tmps'⟩:Array Value)=(ps.toList.zip args').foldl (fun tmps (x:Tmp×Value)=>tmps.setIfInBounds x.1 x.2) ⟨tmps'⟩:=by
           rw[← Array.foldl_toList];simp
          rw[e];exact this
         refine roundIn_of_wpIn (F:=Fence.wide) trivial ?_
         have hro:RoR D m (some l) (some (m l).block):=⟨hD,rfl⟩
         refine wpIn_mono (F:=Fence.wide.inRound (m l).block) (jW (ro':=some (m l).block) hC hDraw k assign _ h _ a1 h1 w1 hx hr hlo hw1 hA0 hro) ?_
         rintro e' act1 W1 ⟨rfl,m1,hp1,hA1⟩
         have hr1:=hp1.rel
         have hD1:Dx D h.length h1.length l:=.inl hD
         have hm1:=hp1.agree l hD
         obtain⟨hDd1,fn1,tmps1,hh1,htm1⟩:=hr1.ok l _ hD1 hl1
         have hb:=run_beginRound (P:=P) hh1 rfl
         rw[hm1] at hb hh1
         refine⟨_,hb,?_⟩
         have hput:=hr1.put hD1 hlol hl1 (by simp) (.loop { state:=.busy,pending:=pend1,fn:=fn1,tmps:=⟨tmps1⟩,params:=p1,assign:=as1,body:=bd1,defers:=(m1 d1).block }) (.loop .busy pend1 t1 p1 as1 bd1 d1)
          ⟨hDd1,fn1,tmps1,World.putObj_heap_same (by rw[hm1];exact (Array.getElem?_eq_some_iff.1 hh1).1),htm1⟩ trivial
         rw[hm1] at hput
         have hp2:=hp1.trans hput
         have hA2:AR (Dx (Dx D h.length h1.length) h1.length (h1.set l (.loop .busy pend1 t1 p1 as1 bd1 d1)).length) m1 a1 act1:=⟨hput.vrs hA1.tm,hput.drs hA1.df⟩
         have hro2:=hput.ror (hp1.ror hro)
         refine wpIn_mono (F:=Fence.wide.inRound (m l).block) (jW (ro':=some (m l).block) hC hDraw k body a1 _ e2 a2 h2 w2 hx2 hput.rel (by simp;exact e6 hlo hp1.grow) hw2 hA2 hro2) ?_
         rintro e3 act3 W3 ⟨rfl,m3,hp3,hA3⟩
         have hp4:=hp2.trans (by rw[← Dx.trans hp1.grow hput.grow];exact hp3)
         have hr3:=hp4.rel
         have hD3:Dx D h.length h2.length l:=.inl hD
         have hm3:=hp4.agree l hD
         obtain⟨hDd3,fn3,tmps3,hh3,htm3⟩:=hr3.ok l _ hD3 hl3
         rw[hm3] at hh3
         have hfin:∃ v' w',(Instr.endRound (m l).block jump).run P W3 = .ok v' w'∧Good B lo D m h w (.bool jump.isNone) (h2.set l (.loop (if jump.isNone then .ready else .done) jump t3 p3 as3 b3 d3)) (.returned v') w':=by
          have he:=run_endRound (P:=P) jump hh3
          have hput3:=hr3.put hD3 hlol hl3 (by simp) (.loop { state:=if jump.isNone then .ready else .done,pending:=jump,fn:=fn3,tmps:=⟨tmps3⟩,params:=p3,assign:=as3,body:=b3,defers:=(m3 d3).block })
           (.loop (if jump.isNone then .ready else .done) jump t3 p3 as3 b3 d3) ⟨hDd3,fn3,tmps3,World.putObj_heap_same (by rw[hm3];exact (Array.getElem?_eq_some_iff.1 hh3).1),htm3⟩ trivial
          rw[hm3] at hput3
          exact⟨_,_,he,_,m3,rfl,hp4.trans hput3,.bool _⟩
         rcases hjump with⟨rfl,rfl⟩|⟨rfl,rfl⟩|⟨id,rfl,rfl⟩<;>exact hfin
        ·cases hend
       ·cases hv
      ·cases hv
     ·cases hv
    ·cases hv
   ·cases hv
  ·cases hv
 ·cases hv
theorem oF(hDraw:∀ C,CtxOk P C→gR P C)(k:Nat):∀ d,CtxOk P (ctx P k d)
 | 0=>⟨fun h=>by simp[ctx] at h,fun h=>by simp[ctx] at h⟩
 | d+1=>⟨fun h=>fZ (oF hDraw k d) (hDraw _ (oF hDraw k d)) h,fun h=>iQ (oF hDraw k d) (hDraw _ (oF hDraw k d)) h⟩
end
end Go.Rex
namespace Go.Rex
open Go.RowKit
theorem jA:∀(l:List Nat) (n:Nat),aC l n=l[n]?.getD 0
 | [],n=>by simp[aC]
 | v::l,0=>by simp[aC]
 | v::l,n+1=>by simp[aC,jA l n]
theorem oN:∀(l:List Oper) (acc:List Nat),∃ r,masks l acc=acc++r∧r.length=l.length∧∀ j o,l[j]?=some o→r[j]?=some (waits (acc++r.take j) o.after.toList)
 | [],acc=>⟨[],by simp[masks],rfl,fun j o h=>by simp at h⟩
 | o::l,acc=>by
  obtain⟨r,h1,h2,h3⟩:=oN l (acc++[waits acc o.after.toList])
  refine⟨waits acc o.after.toList::r,?_,by simp[h2],fun j o' hj=>?_⟩
  ·simp only[masks];rw[h1];simp
  ·cases j with
   | zero=>simp at hj;subst hj;simp
   | succ j =>
    simp only[List.getElem?_cons_succ] at hj
    have:=h3 j o' hj
    simp only[List.getElem?_cons_succ,this,List.take_succ_cons]
    simp
theorem eN{ms:List Nat}:∀(es:List Edge) (j:Nat),(waits ms es).testBit j=true↔∃ e∈es,Region.binds .any e=true∧(e.on=j∨(aC ms e.on).testBit j=true)
 | [],j=>by simp[waits]
 | e::es,j=>by
  simp only[waits]
  split
  ·rename_i hb
   simp only[Nat.testBit_or,Bool.or_eq_true,eN es j,Nat.testBit_two_pow,decide_eq_true_eq,List.mem_cons]
   constructor
   ·rintro (⟨x,hx,h1,h2⟩|h)
    ·exact⟨x,.inr hx,h1,h2⟩
    ·exact⟨e,.inl rfl,hb,h⟩
   ·rintro⟨x,rfl|hx,h1,h2⟩
    ·exact .inr h2
    ·exact .inl ⟨x,hx,h1,h2⟩
  ·rename_i hb
   rw[eN es j]
   constructor
   ·rintro⟨x,hx,h1,h2⟩;exact⟨x,g8 _ hx,h1,h2⟩
   ·rintro⟨x,hx,h1,h2⟩
    rcases i6.1 hx with rfl|hx
    ·exact absurd h1 hb
    ·exact⟨x,hx,h1,h2⟩
theorem lB:∀(l:List Oper) (k d i:Nat),(d,i)∈dsts l k↔∃ j o,i=k+j∧l[j]?=some o∧o.dst=some d
 | [],k,d,i=>by simp[dsts]
 | o::l,k,d,i=>by
  have ih:=lB l (k+1) d i
  have shift:(∃ j o',i=k+j∧(o::l)[j]?=some o'∧o'.dst=some d)↔(i=k∧o.dst=some d)∨∃ j o',i=k+1+j∧l[j]?=some o'∧o'.dst=some d:=by
   constructor
   ·rintro⟨j,o',h1,h2,h3⟩
    cases j with
    | zero=>simp at h2;subst h2;exact .inl ⟨h1,h3⟩
    | succ j=>exact .inr ⟨j,o',by omega,by simpa using h2,h3⟩
   ·rintro (⟨h1,h2⟩|⟨j,o',h1,h2,h3⟩)
    ·exact⟨0,o,h1,by simp,h2⟩
    ·exact⟨j+1,o',by omega,by simpa using h2,h3⟩
  rw[shift]
  simp only[dsts]
  split
  ·rename_i d' hd
   rw[i6,ih,hd]
   simp only[Prod.mk.injEq,Option.some.injEq]
   constructor
   ·rintro (⟨rfl,rfl⟩|h)
    ·exact .inl ⟨rfl,rfl⟩
    ·exact .inr h
   ·rintro (⟨rfl,rfl⟩|h)
    ·exact .inl ⟨rfl,rfl⟩
    ·exact .inr h
  ·rename_i hd
   rw[ih,hd]
   simp
theorem mL:∀(l:List (Nat×Nat)),rK l=true→∀ d i j,(d,i)∈l→(d,j)∈l→i=j
 | [],_,d,i,j,h,_=>by simp at h
 | (d',k)::l,hn,d,i,j,hi,hj=>by
  simp only[rK,Bool.and_eq_true,List.all_eq_true] at hn
  obtain⟨h1,h2⟩:=hn
  rcases i6.1 hi with h3|h3<;>rcases i6.1 hj with h4|h4
  ·cases h3;cases h4;rfl
  ·cases h3;have:=h1 _ h4;simp at this
  ·cases h4;have:=h1 _ h3;simp at this
  ·exact mL l h2 d i j h3 h4
theorem mU{ops:Array Oper}{ms:List Nat}{ds:List (Nat×Nat)}:∀(l:List Oper) (k:Nat),rA ops ms ds l k=true→∀ j o,l[j]?=some o→oB o=true∧aC ms (k+j)<2^(k+j)∧∀ t∈o.looksAt ops,uC ms (aC ms (k+j)) (k+j) t ds=true
 | [],k,_,j,o,h=>by simp at h
 | x::l,k,hk,j,o,h=>by
  simp only[rA,Bool.and_eq_true,decide_eq_true_eq,List.all_eq_true] at hk
  obtain⟨h1,h2,h3,h4⟩:=hk
  cases j with
  | zero=>simp at h;subst h;exact⟨h1,h2,h3⟩
  | succ j =>
   have:=mU l (k+1) h4 j o (by simpa using h)
   rwa [show k+(j+1)=k+1+j by omega]
structure RegF(ops:Array Oper)(ms:List Nat):Prop where
 ok:∀(i:Nat) (o:Oper),ops[i]?=some o→oB o=true
 lt:∀ i j,(aC ms i).testBit j=true→j<i
 wait:∀(i:Nat) (o:Oper),ops[i]?=some o→∀ j,(aC ms i).testBit j=true↔∃ e∈o.after,Region.binds .any e=true∧(e.on=j∨(aC ms e.on).testBit j=true)
 uniq:∀(i j:Nat) (o p:Oper) (d:Tmp),ops[i]?=some o→ops[j]?=some p→o.dst=some d→p.dst=some d→i=j
 look:∀(i:Nat) (o:Oper) (t:Tmp),ops[i]?=some o→t∈o.looksAt ops→∀(j:Nat) (p:Oper),ops[j]?=some p→p.dst=some t→j=i∨(aC ms i).testBit j=true∨(aC ms j).testBit i=true
 none:∀(i:Nat),ops[i]?=none→aC ms i=0
theorem jS{ops:Array Oper}(h:kM ops=true):RegF ops (masks ops.toList []):=by
 simp only[kM,Bool.and_eq_true] at h
 obtain⟨h1,h2⟩:=h
 obtain⟨r,e1,e2,e3⟩:=oN ops.toList []
 simp only[List.nil_append] at e1 e3
 rw[e1] at h2 ⊢
 have each:=mU _ _ h2
 have nth_lt:∀ i j,(aC r i).testBit j=true→j<i:=by
  intro i j hj
  cases ho:ops.toList[i]? with
  | none =>
   have:r[i]?=none:=by
    rw[e8] at ho ⊢
    omega
   rw[jA,this] at hj
   simp at hj
  | some o =>
   have h3:=(each i o ho).2.1
   rw[g6] at h3
   rcases d4 j i with h'|h'
   ·exact h'
   ·have:(aC r i).testBit j=false:=Nat.testBit_lt_two_pow (d7 h3 (Nat.pow_le_pow_right (by omega) h'))
    rw[this] at hj;cases hj
 have wait:∀(i:Nat) (o:Oper),ops[i]?=some o→∀ j,(aC r i).testBit j=true↔∃ e∈o.after,Region.binds .any e=true∧(e.on=j∨(aC r e.on).testBit j=true):=by
  intro i o ho j
  have h3:=e3 i o (by simpa using ho)
  have h4:aC r i=waits (r.take i) o.after.toList:=by rw[jA,h3];rfl
  have hon:∀ e∈o.after,Region.binds .any e=true→e.on<i:=fun e he hb=>by
   refine nth_lt i e.on ?_
   rw[h4,eN]
   exact⟨e,by simpa using he,hb,.inl rfl⟩
  have htk:∀ k,k<i→aC (r.take i) k=aC r k:=fun k hk=>by rw[jA,jA,i0,b8 hk]
  rw[h4,eN]
  constructor
  ·rintro⟨e,he,hb,hx⟩
   have he':e∈o.after:=by simpa using he
   exact⟨e,he',hb,by rwa [htk _ (hon e he' hb)] at hx⟩
  ·rintro⟨e,he,hb,hx⟩
   exact⟨e,by simpa using he,hb,by rwa [htk _ (hon e he hb)]⟩
 refine⟨fun i o ho=>(each i o (by simpa using ho)).1,nth_lt,wait,?_,?_,?_⟩
 ·intro i j o p d ho hp hd hd'
  refine mL _ h1 d i j ?_ ?_
  ·rw[lB];exact⟨i,o,by simp,by simpa using ho,hd⟩
  ·rw[lB];exact⟨j,p,by simp,by simpa using hp,hd'⟩
 ·intro i o t ho ht j p hp hd
  have h3:=(each i o (by simpa using ho)).2.2 t ht
  rw[g6] at h3
  unfold uC at h3
  have:=a8.1 h3 (t,j) (by rw[lB];exact⟨j,p,by simp,by simpa using hp,hd⟩)
  simp only[bne_self_eq_false,Bool.false_or,Bool.or_eq_true,beq_iff_eq] at this
  rcases this with (h|h)|h
  ·exact .inl h
  ·exact .inr (.inl h)
  ·exact .inr (.inr h)
 ·intro i hi
  have:r[i]?=none:=by
   have:ops.toList[i]?=none:=by simpa using hi
   rw[e8] at this ⊢
   omega
  rw[jA,this];rfl
theorem qM{ops:Array Oper}(h:kA ops=true):RegF ops (masks ops.toList []):=by
 simp only[kA,Bool.and_eq_true] at h
 exact jS h.1
theorem qD{ops:Array Oper}(h:oG ops=true):RegF ops (masks ops.toList []):=by
 simp only[oG,Bool.and_eq_true] at h
 exact jS h.1
theorem RegF.trans{ops:Array Oper}{ms:List Nat}(F:RegF ops ms):∀(i j k:Nat),(aC ms i).testBit j=true→(aC ms j).testBit k=true→(aC ms i).testBit k=true:=by
 intro i
 induction i using Nat.strongRecOn with
 | _ i ih =>
 intro j k hj hk
 cases ho:ops[i]? with
 | none=>rw[F.none i ho] at hj;simp at hj
 | some o =>
  obtain⟨e,he,hb,hx⟩:=(F.wait i o ho j).1 hj
  refine (F.wait i o ho k).2 ⟨e,he,hb,.inr ?_⟩
  rcases hx with rfl|hx
  ·exact hk
  ·have:e.on<i:=F.lt i e.on ((F.wait i o ho e.on).2 ⟨e,he,hb,.inl rfl⟩)
   exact ih e.on this j k hx hk
theorem newH_some'{r:Option (Value×List Blk)}{v:Value}{h1:List Blk}{w1:Option Nat}(h:lG r=some (v,h1,w1)):r=some (v,h1)∧w1=none:=by
 unfold lG at h
 cases r with
 | none=>cases h
 | some p=>obtain⟨a,b⟩:=p;simp at h;obtain⟨rfl,rfl,rfl⟩:=h;exact⟨rfl,rfl⟩
theorem uW{P:Program}{ρ:Operand→Value}{o:Oper}{h h1:List Blk}{v:Value}{w1:Option Nat}(ht:touch ρ o=some .mk)(hv:hop P ρ o h=some (v,h1,w1)) :
 w1=none∧∃ nb,h1=h++nb∧∀ h2:List Blk,h2.length=h.length→hop P ρ o h2=some (v,h2++nb,none):=by
 obtain⟨dst,op,ty,pos,after,guard⟩:=o
 cases op<;>simp only[touch] at ht<;>simp only[hop] at hv ⊢
 case alloc e =>
  split at hv
  ·rename_i i hi
   split at hv
   ·rename_i z hz
    split at hv
    ·rename_i hc
     obtain⟨rfl,rfl,rfl⟩:_=v∧_=h1∧none=w1:=by simpa using hv
     exact⟨rfl,_,rfl,fun h2 hl=>by simp[hc,hl]⟩
    ·cases hv
   ·cases hv
  ·cases hv
 case box e x =>
  obtain⟨rfl,rfl,rfl⟩:_=v∧_=h1∧none=w1:=by simpa using hv
  exact⟨rfl,_,rfl,fun h2 hl=>by simp[hl]⟩
 case buildSlice t n ps =>
  obtain⟨hv2,rfl⟩:=newH_some' hv
  clear hv
  have hv:=hv2
  refine⟨rfl,?_⟩
  unfold cF at hv ⊢
  split at hv
  ·rename_i e he
   split at hv
   ·rename_i hc
    split at hv
    ·rename_i z hz
     cases hf:Instr.fill (fun i=>some (i*P.cellsOf e,P.cellsOf e)) (dC z (n*P.cellsOf e)) (bK ρ ps).toList with
     | none=>rw[hf] at hv;cases hv
     | some c =>
      rw[hf] at hv
      simp only[Option.bind_some] at hv
      split at hv
      ·rename_i hsz
       obtain⟨rfl,rfl⟩:_=v∧_=h1:=by simpa using hv
       refine⟨_,rfl,fun h2 hl=>?_⟩
       simp[hc,hsz,hl,lG]
      ·cases hv
    ·cases hv
   ·cases hv
  ·cases hv
 case makeSlice t l c =>
  obtain⟨hv2,rfl⟩:=newH_some' hv
  clear hv
  have hv:=hv2
  refine⟨rfl,?_⟩
  unfold eH at hv ⊢
  split at hv
  ·split at hv
   ·split at hv
    ·rename_i hc
     split at hv
     ·obtain⟨rfl,rfl⟩:_=v∧_=h1:=by simpa using hv
      refine⟨_,rfl,fun h2 hl=>?_⟩
      clear hv hv2
      simp_all [lG]
     ·cases hv
    ·cases hv
   ·cases hv
  ·cases hv
 case makeMap t r =>
  cases r with
  | some _=>cases hv
  | none =>
   obtain⟨rfl,rfl,rfl⟩:_=v∧_=h1∧none=w1:=by simpa using hv
   exact⟨rfl,_,rfl,fun h2 hl=>by simp[hl]⟩
 case binOp op t x y u =>
  cases hl:jY P op t (ρ x) (ρ y) with
  | none=>rw[hl] at hv;cases hv
  | some v0 =>
   rw[hl] at hv
   obtain⟨rfl,rfl,rfl⟩:v0=v∧h=h1∧none=w1:=by simpa using hv
   exact⟨rfl,[],by simp,fun h2 _=>by simp⟩
 case lookup t x k ok =>
  split at ht
  ·cases ht
  ·rename_i hp
   cases hl:dB P t (ρ x) (ρ k) ok h with
   | none=>rw[hl] at hv;cases hv
   | some v0 =>
    rw[hl] at hv
    obtain⟨rfl,rfl,rfl⟩:v0=v∧h=h1∧none=w1:=by simpa using hv
    refine⟨rfl,[],by simp,fun h2 _=>?_⟩
    have:cV h2 (ρ x)=cV h (ρ x):=by
     unfold cV
     split
     ·rfl
     ·rename_i n hx;rw[hx] at hp;cases hp
     ·rfl
    have e:dB P t (ρ x) (ρ k) ok h2=dB P t (ρ x) (ρ k) ok h:=by unfold dB;rw[this]
    rw[e,hl];simp
 case load t a=>cases hp:aB (ρ a)<;>rw[hp] at ht<;>cases ht
 case slice t x lo hi mx=>cases hp:aB (ρ x)<;>rw[hp] at ht<;>cases ht
 case store t a x=>cases hp:aB (ρ a)<;>rw[hp] at ht<;>cases ht
 case mapUpdate t x k u=>cases hp:aB (ρ x)<;>rw[hp] at ht<;>cases ht
 case insert t x k u=>cases hp:aB (ρ x)<;>rw[hp] at ht<;>cases ht
 case call c => exfalso; repeat' (split at ht)
                all_goals (cases ht;done)
 all_goals (cases ht;done)
theorem eA{h h2:List Blk}{n o k:Nat}(he:h2[n]?=h[n]?):aL h2 n o k=aL h n o k:=by unfold aL;rw[he]
theorem xV{P:Program}{t:TypeId}{h h2:List Blk}{n o:Nat}(he:h2[n]?=h[n]?):gM P t h2 n o=gM P t h n o:=by unfold gM;simp only[eA he]
theorem uF{P:Program}{ρ:Operand→Value}{o:Oper}{h h1:List Blk}{v:Value}{w1:Option Nat}{n:Nat}(ht:touch ρ o=some (.rd n))(hv:hop P ρ o h=some (v,h1,w1)) :
 ∃ nb,h1=h++nb∧w1=none∧(∀ h2:List Blk,h2.length=h.length→h2[n]?=h[n]?→hop P ρ o h2=some (v,h2++nb,none))∧∃ x∈o.op.operands,aB (ρ x)=some n:=by
 obtain⟨dst,op,ty,pos,after,guard⟩:=o
 cases op<;>simp only[touch] at ht<;>simp only[hop,Op.operands] at hv ⊢
 case load t a =>
  split at hv
  ·rename_i n0 o0 ha
   rw[ha] at ht
   obtain rfl:n0=n:=by simpa [aB] using ht
   cases hl:gM P t h n0 o0 with
   | none=>rw[hl] at hv;cases hv
   | some v0 =>
    rw[hl] at hv
    obtain⟨rfl,rfl,rfl⟩:v0=v∧h=h1∧none=w1:=by simpa using hv
    refine⟨[],by simp,rfl,fun h2 _ he=>?_,a,by simp,by rw[ha];rfl⟩
    rw[xV he,hl];simp
  ·cases hv
 case slice t x lo hi mx =>
  cases mx with
  | some q =>
   cases hi with
   | none=>cases hv
   | some k =>
    simp only at hv ⊢
    cases hp:aB (ρ x) with
    | none=>rw[hp] at ht;cases ht
    | some n0 =>
    rw[hp] at ht
    obtain rfl:n0=n:=by simpa using ht
    cases hl:slice3V P t (ρ x) (lo.map ρ) (ρ k) (ρ q) h with
    | none=>rw[hl] at hv;cases hv
    | some v0 =>
     rw[hl] at hv
     obtain⟨rfl,rfl,rfl⟩:v0=v∧h=h1∧none=w1:=by simpa using hv
     refine⟨[],by simp,rfl,fun h2 _ he=>?_,x,by simp,hp⟩
     have:slice3V P t (ρ x) (lo.map ρ) (ρ k) (ρ q) h2=slice3V P t (ρ x) (lo.map ρ) (ρ k) (ρ q) h:=by
      unfold slice3V
      split
      ·rename_i hx
       rw[hx] at hp
       simp only[aB,Option.some.injEq] at hp
       subst hp
       rw[he]
      ·rfl
     rw[this,hl];simp
  | none =>
   simp only at hv ⊢
   cases hp:aB (ρ x) with
   | none=>rw[hp] at ht;cases ht
   | some n0 =>
   rw[hp] at ht
   obtain rfl:n0=n:=by simpa using ht
   have e1:∀ h2:List Blk,h2[n0]?=h[n0]?→hP P t (ρ x) (lo.map ρ) (hi.map ρ) h2=hP P t (ρ x) (lo.map ρ) (hi.map ρ) h:=by
    intro h2 he
    unfold hP
    split
    ·rfl
    ·rename_i hx
     rw[hx] at hp
     simp only[aB,Option.some.injEq] at hp
     subst hp
     rw[he]
    ·rename_i hx
     rw[hx] at hp
     simp only[aB,Option.some.injEq] at hp
     subst hp
     rw[he]
    ·rfl
   have e2:∀ h2:List Blk,h2[n0]?=h[n0]?→iV P t (ρ x) (lo.map ρ) (hi.map ρ) h2=iV P t (ρ x) (lo.map ρ) (hi.map ρ) h:=by
    intro h2 he
    unfold iV
    split
    ·rename_i hx
     rw[hx] at hp
     simp only[aB,Option.some.injEq] at hp
     subst hp
     rw[he]
    ·rfl
   cases hl:hP P t (ρ x) (lo.map ρ) (hi.map ρ) h with
   | none =>
    rw[hl] at hv
    simp only at hv
    cases hl':iV P t (ρ x) (lo.map ρ) (hi.map ρ) h with
    | none=>rw[hl'] at hv;cases hv
    | some v0 =>
     rw[hl'] at hv
     obtain⟨rfl,rfl,rfl⟩:v0=v∧h=h1∧none=w1:=by simpa using hv
     refine⟨[],by simp,rfl,fun h2 _ he=>?_,x,by simp,hp⟩
     rw[e1 h2 he,hl,e2 h2 he,hl'];simp
   | some v0 =>
    rw[hl] at hv
    obtain⟨rfl,rfl,rfl⟩:v0=v∧h=h1∧none=w1:=by simpa using hv
    refine⟨[],by simp,rfl,fun h2 _ he=>?_,x,by simp,hp⟩
    rw[e1 h2 he,hl];simp
 case lookup t x k ok =>
  split at ht
  ·rename_i n0 hp
   obtain rfl:n0=n:=by simpa using ht
   cases hl:dB P t (ρ x) (ρ k) ok h with
   | none=>rw[hl] at hv;cases hv
   | some v0 =>
    rw[hl] at hv
    obtain⟨rfl,rfl,rfl⟩:v0=v∧h=h1∧none=w1:=by simpa using hv
    refine⟨[],by simp,rfl,fun h2 _ he=>?_,x,by simp,hp⟩
    have:cV h2 (ρ x)=cV h (ρ x):=by
     unfold cV
     split
     ·rfl
     ·rename_i n hx
      rw[hx] at hp
      simp only[aB,Option.some.injEq] at hp
      subst hp
      rw[he]
     ·rfl
    have e:dB P t (ρ x) (ρ k) ok h2=dB P t (ρ x) (ρ k) ok h:=by unfold dB;rw[this]
    rw[e,hl];simp
  ·cases ht
 case store t a x=>cases hp:aB (ρ a)<;>rw[hp] at ht<;>cases ht
 case mapUpdate t x k u=>cases hp:aB (ρ x)<;>rw[hp] at ht<;>cases ht
 case insert t x k u=>cases hp:aB (ρ x)<;>rw[hp] at ht<;>cases ht
 case call c =>
  cases hc:c.callee with
  | value f=>rw[hc] at ht;cases ht
  | invoke x k=>rw[hc] at ht;cases ht
  | builtin b =>
   rw[hc] at ht
   simp only at ht
   by_cases hb:b = .append
   ·rw[b8 hb] at ht
    split at ht
    ·rename_i x y hxy
     split at ht
     ·rename_i n2 off l c2 hy
      split at ht
      ·rename_i hx
       obtain rfl:n2=n:=by simpa using ht
       simp only[bhop,hc,if_pos hb,hxy,hx,hy,jV] at hv ⊢
       unfold cQ at hv ⊢
       split at hv
       ·cases hv
       rename_i st h0
       split at hv
       ·rename_i e hu
        split at hv
        ·cases hv
        rename_i i hi
        split at hv
        ·rename_i hn
         simp only[eS] at hv ⊢
         cases hr:aL h n2 off ((l+1)*i.size) with
         | none=>rw[hr] at hv;cases hv
         | some cs =>
          rw[hr] at hv
          simp only[Option.map_some] at hv
          rw[d5 (by omega)] at hv
          split at hv
          ·rename_i hcond
           obtain⟨rfl,rfl,rfl⟩:_=v∧_=h1∧none=w1:=by simpa using hv
           refine⟨_,rfl,rfl,fun h2 hl he=>?_,y,by (have hm:y∈c.args:=(by rw[← Array.mem_toList_iff,hxy];simp));simp[Call.operands,hm],by rw[hy];rfl⟩
           rw[eA he,hr]
           simp only[Option.map_some,hn,if_true]
           rw[d5 (by omega),b8 hcond,hl]
          ·cases hv
        ·simp[fX] at hv
       ·cases hv
      ·split at ht<;>cases ht
      ·cases ht
     ·cases ht
    ·cases ht
   ·rw[d5 hb] at ht;cases ht
 all_goals (cases ht;done)
theorem fF{P:Program}{t:TypeId}{x k v:Value}{h h':List Blk}{n:Nat}(hv:bA P t x k v h=some (h',n)) :
 x = .map (some n)∧(∃ b0,h[n]?=some b0∧b0 ≠ .dead)∧∃ b,h'=h.set n b∧∀ h2:List Blk,h2[n]?=h[n]?→bA P t x k v h2=some (h2.set n b,n):=by
 unfold bA at hv
 split at hv
 ·rename_i kt et hm
  split at hv
  ·rename_i hc
   split at hv
   ·rename_i n0
    split at hv
    ·rename_i es clock hn
     split at hv
     ·rename_i hchk
      split at hv
      ·rename_i i v0 hf
       split at hv
       ·rename_i k2 hst
        obtain⟨rfl,rfl⟩:_=h'∧n0=n:=by simpa using hv
        refine⟨rfl,⟨_,hn,by simp⟩,_,rfl,fun h2 he=>?_⟩
        simp only[bA,hm,hc,he,hn,hchk,hf,hst,and_self,if_true]
       ·cases hv
      ·rename_i hf
       obtain⟨rfl,rfl⟩:_=h'∧n0=n:=by simpa using hv
       refine⟨rfl,⟨_,hn,by simp⟩,_,rfl,fun h2 he=>?_⟩
       simp only[bA,hm,hc,he,hn,hchk,hf,and_self,if_true]
      ·cases hv
     ·cases hv
    ·cases hv
   ·cases hv
  ·cases hv
 ·cases hv
theorem tJ{P:Program}{t:TypeId}{v:Value}{h h':List Blk}{n o:Nat}(hv:dJ P t h n o v=some h') :
 (∃ b0,h[n]?=some b0∧b0 ≠ .dead)∧∃ b,h'=h.set n b∧∀ h2:List Blk,h2[n]?=h[n]?→dJ P t h2 n o v=some (h2.set n b):=by
 unfold dJ at hv
 split at hv
 ·rename_i i hi
  split at hv
  ·rename_i hs
   unfold aS at hv
   split at hv
   ·rename_i es c hn
    split at hv
    ·rename_i hc
     obtain rfl:=a6 hv
     refine⟨⟨_,hn,by simp⟩,_,rfl,fun h2 he=>?_⟩
     simp only[dJ,hi,hs,if_true,aS,he,hn,hc]
     simp
    ·cases hv
   ·rename_i t es c hn
    split at hv
    ·rename_i hc
     obtain rfl:=a6 hv
     refine⟨⟨_,hn,by simp⟩,_,rfl,fun h2 he=>?_⟩
     simp only[dJ,hi,hs,if_true,aS,he,hn,hc]
     simp
    ·cases hv
   ·cases hv
  ·cases hv
 ·cases hv
theorem uR{P:Program}{ρ:Operand→Value}{o:Oper}{h h1:List Blk}{v:Value}{w1:Option Nat}{n:Nat}(ht:touch ρ o=some (.wr n))(hv:hop P ρ o h=some (v,h1,w1)) :
 w1=some n∧v=undef∧(∃ b0,h[n]?=some b0∧b0 ≠ .dead)∧(∃ b,h1=h.set n b∧∀ h2:List Blk,h2[n]?=h[n]?→hop P ρ o h2=some (undef,h2.set n b,some n))∧∃ x∈o.op.operands,aB (ρ x)=some n:=by
 obtain⟨dst,op,ty,pos,after,guard⟩:=o
 cases op<;>simp only[touch] at ht<;>simp only[hop,Op.operands] at hv ⊢
 case store t a x =>
  split at hv
  ·rename_i n0 o0 ha
   rw[ha] at ht
   obtain rfl:n0=n:=by simpa [aB] using ht
   cases hst:dJ P t h n0 o0 (ρ x) with
   | none=>rw[hst] at hv;cases hv
   | some h' =>
    rw[hst] at hv
    obtain⟨rfl,rfl,rfl⟩:undef=v∧h'=h1∧some n0=w1:=by simpa using hv
    obtain⟨hb,b,rfl,hh⟩:=tJ hst
    refine⟨rfl,rfl,hb,⟨b,rfl,fun h2 he=>?_⟩,a,by simp,by rw[ha];rfl⟩
    rw[hh h2 he];rfl
  ·cases hv
 case mapUpdate t x k u =>
  cases hl:bA P t (ρ x) (ρ k) (ρ u) h with
  | none=>rw[hl] at hv;cases hv
  | some q =>
   obtain⟨h',n0⟩:=q
   rw[hl] at hv
   obtain⟨rfl,rfl,rfl⟩:undef=v∧h'=h1∧some n0=w1:=by simpa using hv
   obtain⟨hx,hb,b,rfl,hh⟩:=fF hl
   rw[hx] at ht
   obtain rfl:n0=n:=by simpa [aB] using ht
   refine⟨rfl,rfl,hb,⟨b,rfl,fun h2 he=>?_⟩,x,by simp,by rw[hx];rfl⟩
   rw[hh h2 he];rfl
 case insert t x k u =>
  cases hl:bA P t (ρ x) (ρ k) (ρ u) h with
  | none=>rw[hl] at hv;cases hv
  | some q =>
   obtain⟨h',n0⟩:=q
   rw[hl] at hv
   obtain⟨rfl,rfl,rfl⟩:undef=v∧h'=h1∧some n0=w1:=by simpa using hv
   obtain⟨hx,hb,b,rfl,hh⟩:=fF hl
   rw[hx] at ht
   obtain rfl:n0=n:=by simpa [aB] using ht
   refine⟨rfl,rfl,hb,⟨b,rfl,fun h2 he=>?_⟩,x,by simp,by rw[hx];rfl⟩
   rw[hh h2 he];rfl
 case load t a=>cases hp:aB (ρ a)<;>rw[hp] at ht<;>cases ht
 case slice t x lo hi mx=>cases hp:aB (ρ x)<;>rw[hp] at ht<;>cases ht
 case lookup t x k ok=>split at ht<;>cases ht
 case call c => exfalso; repeat' (split at ht)
                all_goals (cases ht;done)
 all_goals (cases ht;done)
theorem qF{P:Program}{ρ:Operand→Value}{o:Oper}{h h1:List Blk}{v:Value}{w1:Option Nat}{n n2:Nat}(ht:touch ρ o=some (.ap n n2))(hv:hop P ρ o h=some (v,h1,w1)) :
 w1=some n∧n≠n2∧(∃ b0,h[n]?=some b0∧b0 ≠ .dead)∧(∃ b nb,h1=h.set n b++nb∧(∀ h2:List Blk,h2.length=h.length→h2[n]?=h[n]?→h2[n2]?=h[n2]?→hop P ρ o h2=some (v,h2.set n b++nb,some n))) ∧
  (∃ x y at_ dst ty pos after guard,o={ dst:=dst,op:=.call { callee:=.builtin .append,args:=#[x,y],argTypes:=at_ },type:=ty,pos:=pos,after:=after,guard:=guard }∧aB (ρ x)=some n∧aB (ρ y)=some n2):=by
 obtain⟨dst,op,ty,pos,after,guard⟩:=o
 cases op<;>simp only[touch] at ht<;>simp only[hop] at hv ⊢
 case call c =>
  obtain⟨callee,args,argTypes⟩:=c
  cases callee with
  | value f=>cases ht
  | invoke x k=>cases ht
  | builtin b =>
   simp only at ht
   by_cases hb:b = .append
   ·subst hb
    rw[b8 rfl] at ht
    split at ht
    ·rename_i x y hxy
     have hargs:args=#[x,y]:=by cases args;simpa using hxy
     subst hargs
     split at ht
     ·rename_i n2' off l c2 hy
      split at ht
      ·cases ht
      ·rename_i n' o' len cap hx
       split at ht
       ·cases ht
       ·rename_i hne
        obtain⟨rfl,rfl⟩:n'=n∧n2'=n2:=by simpa using ht
        simp only[bhop,if_true,hx,hy,jV] at hv ⊢
        unfold cQ at hv ⊢
        split at hv
        ·cases hv
        rename_i st h0
        split at hv
        ·rename_i e hu
         split at hv
         ·cases hv
         rename_i i hi
         split at hv
         ·rename_i hn
          simp only[eS] at hv ⊢
          cases hr:aL h n2' off ((l+1)*i.size) with
          | none=>rw[hr] at hv;cases hv
          | some cs =>
           rw[hr] at hv
           simp only[Option.map_some] at hv
           rw[d5 (by omega)] at hv
           by_cases hroom:len+(l+1)≤cap
           ·rw[b8 hroom] at hv
            cases hw:aS h n' (o'+len*i.size) cs with
            | none=>rw[hw] at hv;cases hv
            | some h' =>
             rw[hw] at hv
             obtain⟨rfl,rfl,rfl⟩:_=v∧h'=h1∧some n'=w1:=by simpa using hv
             unfold aS at hw
             split at hw
             ·rename_i es c0 hc0
              split at hw
              ·rename_i hcc
               obtain rfl:=a6 hw
               refine⟨rfl,hne,⟨_,hc0,by simp⟩,⟨_,[],by rw[List.append_nil],fun h2 hl he he2=>?_⟩,x,y,_,_,_,_,_,_,rfl,by rw[hx];rfl,by rw[hy];rfl⟩
               rw[eA he2,hr]
               simp only[Option.map_some,hn,if_true]
               rw[d5 (by omega),b8 hroom]
               unfold aS
               rw[he,hc0]
               simp only[hcc,and_self,if_true,Option.map_some,List.append_nil]
              ·cases hw
             ·rename_i t0 es c0 hc0
              split at hw
              ·rename_i hcc
               obtain rfl:=a6 hw
               refine⟨rfl,hne,⟨_,hc0,by simp⟩,⟨_,[],by rw[List.append_nil],fun h2 hl he he2=>?_⟩,x,y,_,_,_,_,_,_,rfl,by rw[hx];rfl,by rw[hy];rfl⟩
               rw[eA he2,hr]
               simp only[Option.map_some,hn,if_true]
               rw[d5 (by omega),b8 hroom]
               unfold aS
               rw[he,hc0]
               simp only[hcc,and_self,if_true,Option.map_some,List.append_nil]
              ·cases hw
             ·cases hw
           ·rw[d5 hroom] at hv
            split at hv
            ·rename_i es c0 hc0
             split at hv
             ·rename_i hcc
              obtain⟨rfl,rfl,rfl⟩:_=v∧_=h1∧some n'=w1:=by simpa using hv
              refine⟨rfl,hne,⟨_,hc0,by simp⟩,⟨.dead,_,rfl,fun h2 hl he he2=>?_⟩,x,y,_,_,_,_,_,_,rfl,by rw[hx];rfl,by rw[hy];rfl⟩
              rw[eA he2,hr]
              simp only[Option.map_some,hn,if_true]
              rw[d5 (by omega),d5 hroom,he,hc0,hl]
              simp only
              rw[b8 hcc]
             ·cases hv
            ·cases hv
         ·simp[fX] at hv
        ·cases hv
      ·cases ht
     ·cases ht
    ·cases ht
   ·rw[d5 hb] at ht;cases ht
 case load t a=>cases hp:aB (ρ a)<;>rw[hp] at ht<;>cases ht
 case slice t x lo hi mx=>cases hp:aB (ρ x)<;>rw[hp] at ht<;>cases ht
 case lookup t x k ok=>split at ht<;>cases ht
 case store t a x=>cases hp:aB (ρ a)<;>rw[hp] at ht<;>cases ht
 case mapUpdate t x k u=>cases hp:aB (ρ x)<;>rw[hp] at ht<;>cases ht
 case insert t x k u=>cases hp:aB (ρ x)<;>rw[hp] at ht<;>cases ht
 all_goals (cases ht;done)
def Only(b:Nat)(w w':World):Prop:=w'.os=w.os∧w'.tape=w.tape∧w'.output=w.output∧w'.heap.size=w.heap.size∧∀ k,k≠b→w'.heap[k]?=w.heap[k]?
end Go.Rex
