/- An executor of the program's functions on trees of values,proved sound. -/
import Derived.Test.YtdlghpacmamnfaaRexG2
set_option linter.unusedSimpArgs false
set_option linter.unusedVariables false
set_option linter.defProp false
namespace Go.Rex
open Go.RowKit
def bK(ρ:Operand→Value)(ps:Array (Nat×Operand)):Array (Nat×Value):=ps.map fun (i,x)=>(i,ρ x)
def eU(P:Program)(ρ:Operand→Value)(o:Oper):Option Value:=
 match o.op with
 | .select _ _=>none
 | _ => if o.op.operands.toList.all (fun x => aR (ρ x)) = true then
     match prun P (execOp ρ o) with
     | some (.value v)=>if aP v=true then some v else none
     | _=>none
  else none
def vQ:Value→Bool
 | .pointer (some _)=>true
 | .func (.func _) _ _=>true
 | .func (.yield _) _ _=>true
 | _=>false
def uD(P:Program)(t:Option TypeId)(x:Value):Option Value:=
 match t with
 | none=>none
 | some t=>match P.underlying t,x with
  | some (.slice _),.slice _ n _=>some (.int .i64 n)
  | _,_=>none
def fR(P:Program)(ρ:Operand→Value)(o:Oper)(r:Option Value):Option Value:=
 match r with
 | some x=>some x
 | none=>eU P ρ o
def bpop(P:Program)(ρ:Operand→Value)(o:Oper)(c:Call):Option Value:=
 match c.callee with
 | .builtin b =>
  if b = .len then
   match c.args.toList with
   | [x]=>fR P ρ o (uD P c.argTypes[0]? (ρ x))
   | _=>none
  else eU P ρ o
 | _=>none
def bE(op:BinOp)(x y:Value):Option Value:=
 match x,y with
 | .int k a,.int k' b =>
  if k=k' then
   match op with
   | .add=>some (.int k (k.wrap (a+b)))
   | .sub=>some (.int k (k.wrap (a-b)))
   | .mul=>some (.int k (k.wrap (a*b)))
   | .lss=>some (.bool (decide (a<b)))
   | .leq=>some (.bool (decide (a≤b)))
   | .gtr=>some (.bool (decide (a>b)))
   | .geq=>some (.bool (decide (a≥b)))
   | .eql=>some (.bool (decide (a=b)))
   | .neq=>some (.bool (decide (a≠b)))
   | .quo=>if b=0 then none else some (.int k (k.wrap (a.tdiv b)))
   | .rem=>if b=0 then none else some (.int k (a.tmod b))
   | _=>none
  else none
 | _,_=>none
def tY(P:Program)(arr:TypeId)(x:Value):Option Value:=
 match P.underlying arr,x with
 | some (.array k _),.slice (some ⟨n,o,none⟩) len _=>if k≤len then some (.pointer (some ⟨n,o,none⟩)) else none
 | _,_=>none
theorem rD{P:Program}{D:Nat→Prop}{m:NMap}{arr:TypeId}{x x' v:Value}(hx:VR D m x x')(hv:tY P arr x=some v) :
 ∃ v',(∀ w,(Instr.arrayAt arr x').run P w = .ok v' w)∧VR D m v v':=by
 unfold tY at hv
 split at hv
 ·rename_i k e n o len c hu
  split at hv
  ·rename_i hk
   obtain rfl:=a6 hv
   cases hx with
   | slice _ _ _ _ c' hD hl hcc he =>
    refine⟨_,fun w=>?_,.ptr n o hD⟩
    simp only[Instr.arrayAt,Sem.run_bind,run_underlying hu,Result.andThen_ok]
    rw[d5 (by omega)]
    rfl
  ·cases hv
 ·cases hv
def pop0(P:Program)(ρ:Operand→Value)(o:Oper):Option Value:=
 match o.op with
 | .move x=>some (ρ x)
 | .assign x=>some (ρ x)
 | .pick c a b=>match ρ c with
  | .bool t=>some (if t then ρ a else ρ b)
  | _=>none
 | .nilCheck x=>if vQ (ρ x)=true then some (ρ x) else none
 | .build t ps=>jT P t (bK ρ ps)
 | .makeFunc fn first captured=>match fn with
  | .func f=>some (.func (.func f) (first.map ρ) (captured.map ρ))
  | _=>none
 | .extract t i=>match ρ t with
  | .tuple ⟨l⟩=>l[i]?
  | _=>none
 | .fieldAddr t x f=>gX P t (ρ x) f
 | .indexAddr t x ix=>gV P t (ρ x) (ρ ix)
 | .field t x f=>qS P t (ρ x) f
 | .index t x ix=>fR P ρ o (qZ P t (ρ x) (ρ ix))
 | .sliceToArrayPointer arr x=>tY P arr (ρ x)
 | .call c=>bpop P ρ o c
 | .binOp op _ x y _=>fR P ρ o (bE op (ρ x) (ρ y))
 | .alloc _=>none
 | .box _ _=>none
 | .buildSlice _ _ _=>none
 | .makeSlice _ _ _=>none
 | .load _ _=>none
 | .store _ _ _=>none
 | .makeMap _ _=>none
 | .lookup _ _ _ _=>none
 | .mapUpdate _ _ _ _=>none
 | .insert _ _ _ _=>none
 | _=>eU P ρ o
def qn:FloatKind→Nat
 | .f32=>0x7fc00000
 | .f64=>0x7ff8000000000000
def fcmp(op:BinOp)(k:FloatKind)(a b:Nat):Bool:=
 let c:=k.format.order a b
 match op with
 | .eql=>c==some .eq
 | .neq=>c != some .eq
 | .lss=>c==some .lt
 | .leq=>c==some .lt||c==some .eq
 | .gtr=>c==some .gt
 | _=>c==some .gt||c==some .eq
def farith0(op:BinOp)(k:FloatKind)(a b:Nat):Option Nat:=
 match op with
 | .add=>k.format.add a b
 | .sub=>k.format.sub a b
 | .mul=>k.format.mul a b
 | _=>k.format.div a b
def arN(op:BinOp)(k:FloatKind)(a b:Nat):Nat:=(farith0 op k a b).getD (qn k)
def f2f(s:FloatKind)(b:Nat)(d:FloatKind):Option Nat:=
 if s=d then some b else if eE s b=true then some (qn d) else match s.decode b with
 | .nan _ _=>none
 | .infinity sg=>some (d.encode (.infinity sg))
 | .number sg m e=>if (d.decode (d.encode (.number sg m e))).isInfinity=true then none else some (d.encode (.number sg m e))
def zT(op:BinOp)(x y:Value):Option Value:=
 match x,y with
 | .float k a, .float k' b => if k = k' then
     match op with
     | .add=>some (.float k (arN .add k a b))
     | .sub=>some (.float k (arN .sub k a b))
     | .mul=>some (.float k (arN .mul k a b))
     | .quo=>some (.float k (arN .quo k a b))
     | .eql=>some (.bool (fcmp .eql k a b))
     | .neq=>some (.bool (fcmp .neq k a b))
     | .lss=>some (.bool (fcmp .lss k a b))
     | .leq=>some (.bool (fcmp .leq k a b))
     | .gtr=>some (.bool (fcmp .gtr k a b))
     | .geq=>some (.bool (fcmp .geq k a b))
     | _=>none
  else none
 | .complex k a b, .complex k' c d => if k = k' then
     match op with
     | .add=>some (.complex k (arN .add k a c) (arN .add k b d))
     | .sub=>some (.complex k (arN .sub k a c) (arN .sub k b d))
     | .eql=>some (.bool (fcmp .eql k a c&&fcmp .eql k b d))
     | .neq=>some (.bool (!(fcmp .eql k a c&&fcmp .eql k b d)))
     | _=>none
  else none
 | _,_=>none
def Bu(P:Program)(src dst:TypeId)(x:Value):Option Value:=
 match x with
 | .float k b=>match P.underlying src,P.underlying dst with
  | some (.float _),some (.float kd)=>(f2f k b kd).map fun r=>.float kd r
  | _,_=>none
 | .complex k a b=>match P.underlying src,P.underlying dst with
  | some (.complex _),some (.complex kd)=>(f2f k a kd).bind fun r=>(f2f k b kd).map fun i=>.complex kd r i
  | _,_=>none
 | _=>none
def Ah(b:Builtin)(args:List Value):Option Value:=
 if b = .complex then match args with
  | [.float k x,.float k' y]=>if k=k' then some (.complex k x y) else none
  | _=>none
 else if b = .real then match args with
  | [.complex k x _]=>some (.float k x)
  | _=>none
 else if b = .imag then match args with
  | [.complex k _ y]=>some (.float k y)
  | _=>none
 else none
def Cf(op:UnOp)(x:Value):Option Value:=
 match op,x with
 | .neg,.float k b=>some (.float k (Op.negFloat k b))
 | .neg,.complex k a b=>some (.complex k (Op.negFloat k a) (Op.negFloat k b))
 | _,_=>none
def sF(P:Program)(ρ:Operand→Value)(o:Oper):Option Value:=
 match o.op with
 | .binOp op _ x y _=>zT op (ρ x) (ρ y)
 | .unOp op _ x=>Cf op (ρ x)
 | .convert src dst x=>Bu P src dst (ρ x)
 | .call c=>match c.callee with
  | .builtin b=>Ah b (c.args.toList.map ρ)
  | _=>none
 | _=>none
def pop(P:Program)(ρ:Operand→Value)(o:Oper):Option Value:=
 match pop0 P ρ o with
 | some v=>some v
 | none=>sF P ρ o
theorem uM{P:Program}{ρ:Operand→Value}{o:Oper}(h:sF P ρ o=none):pop P ρ o=pop0 P ρ o:=by
 unfold pop
 rw[h]
 cases pop0 P ρ o<;>rfl
theorem vW{P:Program}{ρ:Operand→Value}{o:Oper}{v:Value}(h:pop0 P ρ o=some v):pop P ρ o=some v:=by
 unfold pop
 rw[h]
def lG(r:Option (Value×List Blk)):AOut:=r.map fun (v,h)=>(v,h,none)
def iB(P:Program)(ts:Array TypeId)(x y:Value)(h:List Blk):AOut:=
 match cQ P ts x y h with
 | some r=>some r
 | none=>iZ P ts x y h
theorem vA{P:Program}{ts:Array TypeId}{x:Value}{a:Option Addr}{n c:Nat}{h:List Blk}:iZ P ts x (.slice a n c) h=none:=by
 unfold iZ
 repeat' split
 all_goals first|rfl|(cases ‹Value.slice a n c=Value.string _›)
theorem jV{P:Program}{ts:Array TypeId}{x:Value}{a:Option Addr}{n c:Nat}{h:List Blk}:iB P ts x (.slice a n c) h=cQ P ts x (.slice a n c) h:=by
 unfold iB
 split
 ·rename_i r hr;exact hr.symm
 ·rename_i hr;rw[vA,hr]
def iD(x:Value):Option Value:=
 match x with
 | .slice none _ _=>some (.pointer none)
 | .slice (some ⟨n,o,none⟩) _ (_+1)=>some (.pointer (some ⟨n,o,none⟩))
 | _=>none
theorem lW{P:Program}{D:Nat→Prop}{m:NMap}{x x' v:Value}(hx:VR D m x x')(hv:iD x=some v)(ts:Array TypeId)(ty:TypeId)(w:World):∃ v',(Builtin.unsafeSliceData_ ts ty #[x']).run P w = .ok v' w∧VR D m v v':=by
 unfold iD at hv
 split at hv
 ·obtain rfl:=a6 hv
  cases hx
  exact⟨_,Go.Lib.run_unsafeSliceData_nil w ts ty _ _,.nilPtr⟩
 ·obtain rfl:=a6 hv
  cases hx
  rename_i hD _ _ _
  exact⟨_,Go.Lib.run_unsafeSliceData_row w ts ty _ _ _ (by omega),.ptr _ _ hD⟩
 ·cases hv
def oR(P:Program)(ts:Array TypeId)(p l:Value)(h:List Blk):AOut:=
 match ts.toList,p,l with
 | [_,_],.pointer none,.int .i64 0=>some (.string .empty,h,none)
 | [pt,_],.pointer (some ⟨n,0,none⟩),.int .i64 k =>
  match h[n]?,P.underlying pt with
  | some (.tcells t _ cs),some (.pointer e) =>
   match eY (cs.take k.toNat) with
   | some bs=>if e=t∧P.cellsOf e=1∧0<k∧k≤9223372036854775807∧k.toNat≤cs.length then some (.string ⟨bs.toArray⟩,h.set n .dead,some n) else none
   | none=>none
  | _,_=>none
 | _,_,_=>none
theorem sD(w:World)(a:Addr)(n:Nat):(w.freeze a n).os=w.os∧(w.freeze a n).tape=w.tape∧(w.freeze a n).output=w.output∧(w.freeze a n).heap.size=w.heap.size∧∀ k,k≠a.block→(w.freeze a n).heap[k]?=w.heap[k]?:=by
 unfold World.freeze
 split
 ·exact⟨rfl,rfl,rfl,rfl,fun _ _=>rfl⟩
 ·refine⟨rfl,rfl,rfl,by simp,fun k hk=>?_⟩
  simp only[Array.getElem?_modify]
  rw[d5 (fun e=>hk e.symm)]
theorem qP{P:Program}{B lo:Nat}{D:Nat→Prop}{m:NMap}{h h':List Blk}{w:World}(hr:Rel B lo D m h w){ts:Array TypeId}{ty:TypeId}{p l p' l' v:Value}{wr:Option Nat}
 (hp:VR D m p p') (hl:VR D m l l') (hv:oR P ts p l h=some (v,h',wr)) (hw:WrOk lo wr):StepV P B lo D m h w (Builtin.unsafeString_ ts ty #[p',l']) v h':=by
 obtain⟨ts⟩:=ts
 unfold oR at hv
 simp only at hv
 split at hv
 ·obtain⟨rfl,rfl,rfl⟩:_=v∧h=h'∧none=wr:=by simpa using hv
  cases hp;cases hl
  exact StepV.pure hr (Go.Lib.run_unsafeString_none w _ _ ty none) (.string _)
 ·rename_i pt it n k
  cases hl
  split at hv
  ·rename_i t es cs e hb hu
   split at hv
   ·rename_i bs hbs
    split at hv
    ·rename_i hc
     obtain⟨rfl,c1,c2,c3,c4⟩:=hc
     obtain⟨rfl,rfl,rfl⟩:_=v∧_=h'∧some n=wr:=by simpa using hv
     cases hp
     rename_i hD
     have hln:lo≤n:=hw n rfl
     obtain⟨⟨a1,a2,kk,a3,a4,a5⟩,hcell⟩:=hr.ok n _ hD hb
     have hown:=hr.own n _ hD hln hb
     obtain⟨h1,h2⟩:=iX hbs
     have hlen:bs.length=k.toNat:=by rw[h1,List.length_take];omega
     obtain rfl:k=(bs.length:Int):=by omega
     have e0:(m n).off+0=0:=by omega
     have hext:cs.length≤(m n).ext:=hown.1
     have hrun:=Go.Lib.run_unsafeString_row (P:=P) w pt it ty e hu c1 (m n).block kk a3 bs (by intro e;rw[e] at c2;simp at c2) (by omega) (by omega) (fun j x hj=>by
      have hj':j<bs.length:=(a7.1 hj).1
      have h3:=h2 j hj'
      rw[i0,b8 (by omega)] at h3
      obtain⟨v',h4,h5⟩:=hcell j _ h3
      cases h5
      rw[a2,g6] at h4
      rw[bU,g6,h4]
      rw[b5 hj'] at hj
      rw[a6 hj])
     obtain⟨f1,f2,f3,f4,f5⟩:=sD w ⟨(m n).block,0,none⟩ bs.length
     refine⟨.string ⟨bs.toArray⟩,_,m,by rw[e0];exact hrun,hr.modify hD hln hb (by simp) f1 f2 f3 f4 f5 .dead trivial trivial,.string _⟩
    ·cases hv
   ·cases hv
  ·cases hv
 ·cases hv
def bhop(P:Program)(ρ:Operand→Value)(c:Call)(h:List Blk):AOut:=
 match c.callee with
 | .builtin b =>
  if b = .append then
   match c.args.toList with
   | [x,y]=>iB P c.argTypes (ρ x) (ρ y) h
   | _=>none
  else if b = .copy then
   match c.args.toList with
   | [x,y]=>tR P c.argTypes (ρ x) (ρ y) h
   | _=>none
  else if b = .unsafeSliceData then
   match c.args.toList with
   | [x]=>(iD (ρ x)).map fun v=>(v,h,none)
   | _=>none
  else if b = .unsafeString then
   match c.args.toList with
   | [x,y]=>oR P c.argTypes (ρ x) (ρ y) h
   | _=>none
  else none
 | _=>none
def bnd(x:Option Value)(d:Nat):Option Nat:=
 match x with
 | none=>some d
 | some (.int _ i)=>if 0≤i then some i.toNat else none
 | some _=>none
def hP(P:Program)(t:TypeId)(x:Value)(lo hi:Option Value)(h:List Blk):Option Value:=
 match P.underlying t,x with
 | some (.slice e),.slice (some ⟨_,_,some _⟩) 0 0 =>
  match bnd lo 0,bnd hi 0 with
  | some 0,some 0=>if (P.info? e).isSome=true then some vag else none
  | _,_=>none
 | some (.slice e),.slice (some ⟨n,o,none⟩) len c =>
  match h[n]? with
  | some (.cells es _) =>
   match bnd lo 0,bnd hi len with
   | some l,some k=>if (es=P.cellsOf e∨es=0)∧(P.info? e).isSome=true∧l≤k∧k≤c∧(l=0∨l<c) then some (.slice (some ⟨n,o+l*P.cellsOf e,none⟩) (k-l) (c-l))
    else if (es=P.cellsOf e∨es=0)∧(P.info? e).isSome=true∧l≤k∧k≤c∧l=c then some vag else none
   | _,_=>none
  | _=>none
 | some (.array len e),.pointer (some ⟨n,o,none⟩) =>
  match h[n]? with
  | some (.cells es _) =>
   match bnd lo 0,bnd hi len with
   | some l,some k=>if (P.info? e).isSome=true∧l≤k∧k≤len∧(l=0∨l<len) then some (.slice (some ⟨n,o+l*P.cellsOf e,none⟩) (k-l) (len-l)) else none
   | _,_=>none
  | _=>none
 | _,_=>none
def oZ(D:Nat→Prop)(m:NMap)(x x':Option Value):Prop:=match x,x' with
 | none,none=>True
 | some v,some v'=>VR D m v v'
 | _,_=>False
theorem cR{P:Program}{D:Nat→Prop}{m:NMap}{x x':Option Value}{d k cap:Nat}{code:BoundsCode}(hx:oZ D m x x')(hk:bnd x d=some k)(hc:k≤cap)(w:World) :
 (match x' with|some v=>Instr.sliceBound v cap code|none=>pure d:Sem Nat).run P w = .ok k w:=by
 cases x with
 | none =>
  cases x' with
  | none=>obtain rfl:=a6 hk;rfl
  | some v'=>exact hx.elim
 | some v =>
  cases x' with
  | none=>exact hx.elim
  | some v' =>
   have hx':VR D m v v':=hx
   cases v with
   | int ki i =>
    cases hx'
    simp only[bnd] at hk
    split at hk
    ·rename_i h0
     obtain rfl:=a6 hk
     simp only[Instr.sliceBound,asIntOf,Sem.run_bind,Sem.run_pure,Result.andThen_ok]
     rw[b8 ⟨h0,by omega⟩]
     rfl
    ·cases hk
   | _=>simp[bnd] at hk
theorem qE{P:Program}{B lo0:Nat}{D:Nat→Prop}{m:NMap}{h:List Blk}{w:World}(hr:Rel B lo0 D m h w){t:TypeId}{x x' v:Value}{lo lo' hi hi':Option Value}(hx:VR D m x x')(hl:oZ D m lo lo')(hh:oZ D m hi hi')
 (hv:hP P t x lo hi h=some v):∃ v',(∀ w,(Instr.sliceAt t x' lo' hi' none).run P w = .ok v' w)∧VR D m v v':=by
 unfold hP at hv
 split at hv
 ·rename_i e _ _ _ hu
  cases hx
  rename_i a' c'
  split at hv
  ·rename_i h1 h2
   split at hv
   ·rename_i hi
    obtain rfl:=a6 hv
    refine⟨.slice (some a') 0 c',fun w=>?_,.vague _ _⟩
    have r1:=fun code=>cR (P:=P) (cap:=c') (code:=code) hh h2 (by omega) w
    have r2:=fun code=>cR (P:=P) (cap:=0) (code:=code) hl h1 (a9 _) w
    have hsb:(Instr.sliceBounds true 0 c' lo' hi' none).run P w = .ok (0,0,c') w:=by
     unfold Instr.sliceBounds
     cases hi'<;>cases lo'<;>simp_all [Sem.run_bind,Sem.run_pure,Result.andThen_ok]
    have hadd:(if c'=0 then some a' else some (a'.add (0*P.cellsOf e)))=some a':=by
     simp[Addr.add]
    simp only[Instr.sliceAt,Instr.slice,Sem.run_bind,run_underlying hu,Result.andThen_ok,hsb,aF hi,Sem.run_pure,Option.map_some]
    rw[hadd]
    rfl
   ·cases hv
  ·cases hv
 ·rename_i e n o len c hu
  obtain⟨hD,c',hlc,hcc,he,rfl⟩:D n∧∃ c',len≤c∧c≤c'∧(((m n).es=0∨c'=c)∨o+c'*(m n).es≤(m n).ext)∧x' = .slice (some ⟨(m n).block,(m n).off+o,none⟩) len c':=by
   cases hx
   exact⟨by assumption,_,by assumption,by assumption,by assumption,rfl⟩
  split at hv
  ·rename_i es cs hb
   have hes:(m n).es=es:=(hr.ok n _ hD hb).1
   split at hv
   ·rename_i l k h1 h2
    split at hv
    ·rename_i hc
     obtain⟨c1,c2,c3,c4,c5⟩:=hc
     obtain rfl:=a6 hv
     refine⟨.slice (some ⟨(m n).block,(m n).off+o+l*P.cellsOf e,none⟩) (k-l) (c'-l),fun w=>?_,?_⟩
     ·have r1:=fun code=>cR (P:=P) (cap:=c') (code:=code) hh h2 (by omega) w
      have r2:=fun code=>cR (P:=P) (cap:=k) (code:=code) hl h1 c3 w
      have hadd:(if c'=l then some (⟨(m n).block,(m n).off+o,none⟩:Addr) else some ((⟨(m n).block,(m n).off+o,none⟩:Addr).add (l*P.cellsOf e)))=some ⟨(m n).block,(m n).off+o+l*P.cellsOf e,none⟩:=by
       rw[bU]
       rcases c5 with rfl|c5
       ·simp
       ·rw[d5 (by omega)]
      have hsb:(Instr.sliceBounds true len c' lo' hi' none).run P w = .ok (l,k,c') w:=by
       unfold Instr.sliceBounds
       cases hi'<;>cases lo'<;>simp_all [Sem.run_bind,Sem.run_pure,Result.andThen_ok]
      simp only[Instr.sliceAt,Instr.slice,Sem.run_bind,run_underlying hu,Result.andThen_ok,hsb,aF c2,Sem.run_pure,Option.map_some]
      rw[hadd]
     ·have := VR.slice (D := D) (m := m) n (o + l * P.cellsOf e) (k - l) (c - l) (c' - l) hD (by omega) (by omega) (by
        rw[hes] at he ⊢
        rcases he with (he|he)|he
        ·exact .inl (.inl he)
        ·exact .inl (.inr (by omega))
        rcases c1 with rfl|c1
        ·have:l*P.cellsOf e+(c'-l)*P.cellsOf e=c'*P.cellsOf e:=by rw[← Nat.add_mul];congr 1;omega
         exact .inr (by omega)
        ·exact .inl (.inl c1))
      rwa [← e7] at this
    ·split at hv
     ·rename_i hc
      obtain⟨c1,c2,c3,c4,c5⟩:=hc
      obtain rfl:=a6 hv
      subst c5
      obtain rfl:k=l:=by omega
      have r1:=fun code=>cR (P:=P) (cap:=c') (code:=code) hh h2 (by omega) w
      have r2:=fun code=>cR (P:=P) (cap:=k) (code:=code) hl h1 c3 w
      have hrun:∀ w,(Instr.sliceAt t (.slice (some ⟨(m n).block,(m n).off+o,none⟩) len c') lo' hi' none).run P w = .ok (.slice (if c'=k then some ⟨(m n).block,(m n).off+o,none⟩ else some ((⟨(m n).block,(m n).off+o,none⟩:Addr).add (k*P.cellsOf e))) 0 (c'-k)) w:=by
       intro w
       have r1:=fun code=>cR (P:=P) (cap:=c') (code:=code) hh h2 (by omega) w
       have r2:=fun code=>cR (P:=P) (cap:=k) (code:=code) hl h1 c3 w
       have hsb:(Instr.sliceBounds true len c' lo' hi' none).run P w = .ok (k,k,c') w:=by
        unfold Instr.sliceBounds
        cases hi'<;>cases lo'<;>simp_all [Sem.run_bind,Sem.run_pure,Result.andThen_ok]
       simp only[Instr.sliceAt,Instr.slice,Sem.run_bind,run_underlying hu,Result.andThen_ok,hsb,aF c2,Sem.run_pure,Option.map_some,Nat.sub_self]
      refine⟨_,hrun,?_⟩
      rw[bU]
      split
      ·exact .vague _ _
      ·exact .vague _ _
     ·cases hv
   ·cases hv
  ·cases hv
 ·rename_i len e n o hu
  obtain⟨hD,rfl⟩:D n∧x' = .pointer (some ⟨(m n).block,(m n).off+o,none⟩):=by
   cases hx
   exact⟨by assumption,rfl⟩
  split at hv
  ·rename_i es cs hb
   split at hv
   ·rename_i l k h1 h2
    split at hv
    ·rename_i hc
     obtain⟨c2,c3,c4,c5⟩:=hc
     obtain rfl:=a6 hv
     refine⟨.slice (some ⟨(m n).block,(m n).off+o+l*P.cellsOf e,none⟩) (k-l) (len-l),fun w=>?_,?_⟩
     ·have r1:=fun code=>cR (P:=P) (cap:=len) (code:=code) hh h2 c4 w
      have r2:=fun code=>cR (P:=P) (cap:=k) (code:=code) hl h1 c3 w
      have hadd:(if len=l then (⟨(m n).block,(m n).off+o,none⟩:Addr) else ((⟨(m n).block,(m n).off+o,none⟩:Addr).add (l*P.cellsOf e)))=⟨(m n).block,(m n).off+o+l*P.cellsOf e,none⟩:=by
       rw[bU]
       rcases c5 with rfl|c5
       ·simp
       ·rw[d5 (by omega)]
      have hsb:(Instr.sliceBounds false len len lo' hi' none).run P w = .ok (l,k,len) w:=by
       unfold Instr.sliceBounds
       cases hi'<;>cases lo'<;>simp_all [Sem.run_bind,Sem.run_pure,Result.andThen_ok]
      simp only[Instr.sliceAt,Instr.sureAddr,Sem.run_bind,run_underlying hu,Result.andThen_ok,hsb,aF c2,Sem.run_pure]
      rw[hadd]
     ·have:=VR.slice (D:=D) (m:=m) n (o+l*P.cellsOf e) (k-l) (len-l) (len-l) hD (by omega) (a9 _) (.inl (.inr rfl))
      rwa [← e7] at this
    ·cases hv
   ·cases hv
  ·cases hv
 ·cases hv
def slice3V(P:Program)(t:TypeId)(x:Value)(lo:Option Value)(hi mx:Value)(h:List Blk):Option Value:=
 match P.underlying t,x with
 | some (.slice e),.slice (some ⟨n,o,none⟩) _ c =>
  match h[n]? with
  | some (.cells _ _) =>
   match bnd lo 0,bnd (some hi) 0,bnd (some mx) 0 with
   | some l,some k,some q=>if (P.info? e).isSome=true∧l≤k∧k≤q∧q≤c∧(l=0∨l<q) then some (.slice (some ⟨n,o+l*P.cellsOf e,none⟩) (k-l) (q-l)) else none
   | _,_,_=>none
  | _=>none
 | _,_=>none
theorem oY{P:Program}{B lo0:Nat}{D:Nat→Prop}{m:NMap}{h:List Blk}{w:World}(_hr:Rel B lo0 D m h w){t:TypeId}{x x' v:Value}{lo lo':Option Value}{hi hi' mx mx':Value}(hx:VR D m x x')(hl:oZ D m lo lo')(hh:VR D m hi hi')(hm:VR D m mx mx')
 (hv:slice3V P t x lo hi mx h=some v):∃ v',(∀ w,(Instr.sliceAt t x' lo' (some hi') (some mx')).run P w = .ok v' w)∧VR D m v v':=by
 unfold slice3V at hv
 split at hv
 ·rename_i e n o len c hu
  obtain⟨hD,c',hlc,hcc,rfl⟩:D n∧∃ c',len≤c∧c≤c'∧x' = .slice (some ⟨(m n).block,(m n).off+o,none⟩) len c':=by
   cases hx
   exact⟨by assumption,_,by assumption,by assumption,rfl⟩
  split at hv
  ·split at hv
   ·rename_i l k q h1 h2 h3
    split at hv
    ·rename_i hc
     obtain⟨c2,c3,c4,c5,c6⟩:=hc
     obtain rfl:=a6 hv
     refine⟨.slice (some ⟨(m n).block,(m n).off+o+l*P.cellsOf e,none⟩) (k-l) (q-l),fun w=>?_,?_⟩
     ·have r3:=fun code=>cR (P:=P) (x':=some mx') (cap:=c') (code:=code) (show oZ D m (some mx) (some mx') from hm) h3 (by omega) w
      have r1:=fun code=>cR (P:=P) (x':=some hi') (cap:=q) (code:=code) (show oZ D m (some hi) (some hi') from hh) h2 (by omega) w
      have r2:=fun code=>cR (P:=P) (cap:=k) (code:=code) hl h1 c3 w
      have hadd:(if q=l then some (⟨(m n).block,(m n).off+o,none⟩:Addr) else some ((⟨(m n).block,(m n).off+o,none⟩:Addr).add (l*P.cellsOf e)))=some ⟨(m n).block,(m n).off+o+l*P.cellsOf e,none⟩:=by
       rw[bU]
       rcases c6 with rfl|c6
       ·simp
       ·rw[d5 (by omega)]
      have hsb:(Instr.sliceBounds true len c' lo' (some hi') (some mx')).run P w = .ok (l,k,q) w:=by
       unfold Instr.sliceBounds
       cases lo'<;>simp_all [Sem.run_bind,Sem.run_pure,Result.andThen_ok]
      simp only[Instr.sliceAt,Instr.slice,Sem.run_bind,run_underlying hu,Result.andThen_ok,hsb,aF c2,Sem.run_pure,Option.map_some]
      rw[hadd]
     ·have:=VR.slice (D:=D) (m:=m) n (o+l*P.cellsOf e) (k-l) (q-l) (q-l) hD (by omega) (a9 _) (.inl (.inr rfl))
      rwa [← e7] at this
    ·cases hv
   ·cases hv
  ·cases hv
 ·cases hv
def iV(P:Program)(t:TypeId)(x:Value)(lo hi:Option Value)(h:List Blk):Option Value:=
 match P.underlying t,x with
 | some (.slice e),.slice (some ⟨n,o,none⟩) len c =>
  match h[n]? with
  | some (.tcells _ es _) =>
   match bnd lo 0,bnd hi len with
   | some 0,some k=>if es=P.cellsOf e∧(P.info? e).isSome=true∧k≤c then some (.slice (some ⟨n,o,none⟩) k c) else none
   | _,_=>none
  | _=>none
 | _,_=>none
theorem qH{P:Program}{B lo0:Nat}{D:Nat→Prop}{m:NMap}{h:List Blk}{w:World}(hr:Rel B lo0 D m h w){t:TypeId}{x x' v:Value}{lo lo' hi hi':Option Value}(hx:VR D m x x')(hl:oZ D m lo lo')(hh:oZ D m hi hi')
 (hv:iV P t x lo hi h=some v):∃ v',(∀ w,(Instr.sliceAt t x' lo' hi' none).run P w = .ok v' w)∧VR D m v v':=by
 unfold iV at hv
 split at hv
 ·rename_i e n o len c hu
  obtain⟨hD,c',hlc,hcc,he,rfl⟩:D n∧∃ c',len≤c∧c≤c'∧(((m n).es=0∨c'=c)∨o+c'*(m n).es≤(m n).ext)∧x' = .slice (some ⟨(m n).block,(m n).off+o,none⟩) len c':=by
   cases hx
   exact⟨by assumption,_,by assumption,by assumption,by assumption,rfl⟩
  split at hv
  ·rename_i es cs hb
   split at hv
   ·rename_i k h1 h2
    split at hv
    ·rename_i hc
     obtain⟨c1,c2,c3⟩:=hc
     obtain rfl:=a6 hv
     refine⟨.slice (some ⟨(m n).block,(m n).off+o,none⟩) k c',fun w=>?_,.slice n o k c c' hD c3 hcc he⟩
     have r1:=fun code=>cR (P:=P) (cap:=c') (code:=code) hh h2 (by omega) w
     have r2:=fun code=>cR (P:=P) (cap:=k) (code:=code) hl h1 (f0 _) w
     have hadd:(if c'=0 then (some (⟨(m n).block,(m n).off+o,none⟩:Addr)) else some ((⟨(m n).block,(m n).off+o,none⟩:Addr).add (0*P.cellsOf e)))=some ⟨(m n).block,(m n).off+o,none⟩:=by
      simp[Addr.add]
     have hsb:(Instr.sliceBounds true len c' lo' hi' none).run P w = .ok (0,k,c') w:=by
      unfold Instr.sliceBounds
      cases hi'<;>cases lo'<;>simp_all [Sem.run_bind,Sem.run_pure,Result.andThen_ok]
     simp only[Instr.sliceAt,Instr.slice,Sem.run_bind,run_underlying hu,Result.andThen_ok,hsb,aF c2,Sem.run_pure,Option.map_some]
     rw[hadd]
     rfl
    ·cases hv
   ·cases hv
  ·cases hv
 ·cases hv
def jY(P:Program)(op:BinOp)(t:TypeId)(x y:Value):Option Value:=
 match P.underlying t with
 | some (.slice _)=>match x,y with
  | .slice (some _) _ _,.slice none _ _=>(match op with
   | .eql=>some (.bool false)
   | .neq=>some (.bool true)
   | _=>none)
  | _,_=>none
 | some (.pointer e)=>match P.info? e with
  | none=>none
  | some _=>match x,y with
   | .pointer (some ⟨_,_,none⟩),.pointer none=>(match op with
    | .eql=>some (.bool false)
    | .neq=>some (.bool true)
    | _=>none)
   | .pointer (some ⟨n,o,none⟩),.pointer (some ⟨n',o',none⟩)=>if n=n'∧o=o' then (match op with
    | .eql=>some (.bool true)
    | .neq=>some (.bool false)
    | _=>none) else none
   | _,_=>none
 | _=>none
theorem vE{P:Program}{op:BinOp}{t u:TypeId}{x y:Operand}{dst:Option Tmp}{ty:TypeId}{pos:String}{after:Array Edge}{guard:Option (Nat×Bool)}{ρ:Operand→Value}{v:Value}(hv:jY P op t (ρ x) (ρ y)=some v)(w:World) :
 (execOp ρ { dst:=dst,op:=.binOp op t x y u,type:=ty,pos:=pos,after:=after,guard:=guard }).run P w = .ok (.value v) w∧∃ b,v = .bool b:=by
 unfold jY at hv
 split at hv
 ·rename_i e hu
  split at hv
  ·rename_i a l c l' c' hx hy
   have hg:(eqGuard op t x y (.slice (some a) l c) (.slice none l' c')).run P w = .ok () w:=by
    unfold eqGuard
    split<;>rfl
   have he:(Op.equal t (.slice (some a) l c) (.slice none l' c')).run P w = .ok false w:=by
    unfold Op.equal Op.maxDepth Op.equalIn
    simp only[Sem.run_bind,run_underlying hu,Result.andThen_ok,Sem.run_pure]
   cases op<;>simp only[] at hv<;>first
    | (cases hv;done)
    | (obtain rfl := a6 hv
       refine⟨?_,_,rfl⟩
       simp only[execOp,hx,hy,Sem.run_bind,hg,Result.andThen_ok,binOp,he,Sem.run_pure,Bool.not_false])
  ·cases hv
 ·rename_i e hu
  split at hv
  ·cases hv
  rename_i j hj
  split at hv
  ·rename_i n o hx hy
   have hg:(eqGuard op t x y (.pointer (some ⟨n,o,none⟩)) (.pointer none)).run P w = .ok () w:=by
    unfold eqGuard
    split<;>rfl
   have he:(Op.equal t (.pointer (some ⟨n,o,none⟩)) (.pointer none)).run P w = .ok false w:=by
    unfold Op.equal Op.maxDepth Op.equalIn
    simp only[Sem.run_bind,run_underlying hu,Result.andThen_ok,Sem.run_pure]
   cases op<;>simp only[] at hv<;>first
    | (cases hv;done)
    | (obtain rfl := a6 hv
       refine⟨?_,_,rfl⟩
       simp only[execOp,hx,hy,Sem.run_bind,hg,Result.andThen_ok,binOp,he,Sem.run_pure,Bool.not_false])
  ·rename_i n o n' o' hx hy
   split at hv
   ·rename_i hc
    obtain⟨rfl,rfl⟩:=hc
    have hg:(eqGuard op t x y (.pointer (some ⟨n,o,none⟩)) (.pointer (some ⟨n,o,none⟩))).run P w = .ok () w:=by
     unfold eqGuard
     split<;>rfl
    have he:=Go.run_eql_ptr_same w ⟨n,o,none⟩ hu hj
    have hne:=Go.Lib.run_neq_ptr_same w ⟨n,o,none⟩ hu hj
    cases op<;>simp only[] at hv<;>first
     | (cases hv;done)
     | (obtain rfl := a6 hv
        refine⟨?_,_,rfl⟩
        simp only[execOp,hx,hy,Sem.run_bind,hg,Result.andThen_ok,he,hne,Sem.run_pure])
   ·cases hv
  ·cases hv
 ·cases hv
def rL(P:Program)(e:TypeId):Bool:=
 match P.underlying e with
 | some (.struct fields)=>match fields[0]? with
  | some f=>match P.underlying f.type with
   | some (.pointer u)=>u==e
   | _=>false
  | none=>false
 | _=>false
def rJ(P:Program)(e:TypeId)(c:List Value):Blk:=if rL P e=true then .tcells e 0 c else .cells (tK P e) c
def hop(P:Program)(ρ:Operand→Value)(o:Oper)(h:List Blk):AOut:=
 match o.op with
 | .alloc e=>match P.info? e with
  | some i=>match i.zero with
   | some z=>if aP z=true then some (.pointer (some ⟨h.length,0,none⟩),h++[rJ P e z.cells.toList],none) else none
   | none=>none
  | none=>none
 | .box e x=>some (.pointer (some ⟨h.length,0,none⟩),h++[.cells (tK P e) (ρ x).cells.toList],none)
 | .buildSlice t n ps=>lG (cF P t n (bK ρ ps) h)
 | .makeSlice t l c=>lG (eH P t (ρ l) (ρ c) h)
 | .load t a=>match ρ a with
  | .pointer (some ⟨n,o,none⟩)=>(gM P t h n o).map fun v=>(v,h,none)
  | _=>none
 | .store t a x=>match ρ a with
  | .pointer (some ⟨n,o,none⟩)=>(dJ P t h n o (ρ x)).map fun h'=>(undef,h',some n)
  | _=>none
 | .call c=>bhop P ρ c h
 | .slice t x lo hi mx=>match mx with
  | none=>match hP P t (ρ x) (lo.map ρ) (hi.map ρ) h with
   | some v=>some (v,h,none)
   | none=>(iV P t (ρ x) (lo.map ρ) (hi.map ρ) h).map fun v=>(v,h,none)
  | some q=>match hi with
   | some k=>(slice3V P t (ρ x) (lo.map ρ) (ρ k) (ρ q) h).map fun v=>(v,h,none)
   | none=>none
 | .binOp op t x y _=>(jY P op t (ρ x) (ρ y)).map fun v=>(v,h,none)
 | .makeMap _ r=>match r with
  | none=>some (.map (some h.length),h++[.map #[] 0],none)
  | some _=>none
 | .lookup t x k ok=>(dB P t (ρ x) (ρ k) ok h).map fun v=>(v,h,none)
 | .mapUpdate t x k v=>(bA P t (ρ x) (ρ k) (ρ v) h).map fun (h',n)=>(undef,h',some n)
 | .insert t x k v=>(bA P t (ρ x) (ρ k) (ρ v) h).map fun (h',n)=>(undef,h',some n)
 | .convert src dst x=>lG (tT P src dst (ρ x) h)
 | _=>none
def StepN(P:Program)(B lo:Nat)(D:Nat→Prop)(m:NMap)(h:List Blk)(w:World)(s:Sem Next)(v:Value)(h':List Blk):Prop:=
 ∃ r v' w' m',s.run P w = .ok r w'∧(r = .value v'∨(r = .skip∧v'=undef))∧Post B lo D m h w m' h' w'∧VR (Dx D h.length h'.length) m' v v'
theorem StepN.of{P:Program}{B lo:Nat}{D:Nat→Prop}{m:NMap}{h h':List Blk}{w:World}{s:Sem Value}{v:Value}(hs:StepV P B lo D m h w s v h'):StepN P B lo D m h w (do pure (.value (← s))) v h':=by
 obtain⟨v',w',m',h1,h2,h3⟩:=hs
 exact⟨.value v',v',w',m',by simp only[Sem.run_bind,h1,Result.andThen_ok,Sem.run_pure],.inl rfl,h2,h3⟩
def StepP(P:Program)(D:Nat→Prop)(m:NMap)(s:Sem Next)(v:Value):Prop:=∃ v',(∀ w,s.run P w = .ok (.value v') w)∧VR D m v v'
theorem StepP.of{P:Program}{D:Nat→Prop}{m:NMap}{s:Sem Value}{v:Value}(hs:∃ v',(∀ w,s.run P w = .ok v' w)∧VR D m v v'):StepP P D m (do pure (.value (← s))) v:=by
 obtain⟨v',h1,h2⟩:=hs
 exact⟨v',fun w=>by simp only[Sem.run_bind,h1,Result.andThen_ok,Sem.run_pure],h2⟩
theorem fK{P:Program}{D:Nat→Prop}{m:NMap}{ρ ρ':Operand→Value}{o:Oper}{v:Value}
 (hρ:∀ x∈o.op.operands,VR D m (ρ x) (ρ' x)) (hv:eU P ρ o=some v):StepP P D m (execOp ρ' o) v:=by
 unfold eU at hv
 split at hv
 ·cases hv
 ·rename_i hsel
  split at hv
  ·rename_i hc
   split at hv
   ·rename_i v0 hp
    split at hv
    ·rename_i hcv
     obtain rfl:=a6 hv
     have heq:execOp ρ' o=execOp ρ o:=execOp_congr o (fun cs b e=>hsel cs b e) (fun x hx=>by
      have:=a8.1 hc x (by simpa using hx)
      exact (hρ x hx).eq_fixed this)
     exact⟨v0,fun w=>by rw[heq];exact cH hp w,VR.of_clean depth _ hcv⟩
    ·cases hv
   ·cases hv
  ·cases hv
theorem lF{D:Nat→Prop}{m:NMap}{ρ ρ':Operand→Value}{ps:Array (Nat×Operand)}(h:∀ x∈(ps.toList.map (·.2)).toArray,VR D m (ρ x) (ρ' x)):PRs D m (bK ρ ps).toList (bK ρ' ps).toList:=by
 refine⟨by simp[bK],fun i p p' hp hp'=>?_⟩
 simp only[bK,Array.toList_map,List.getElem?_map] at hp hp'
 cases hq:ps.toList[i]? with
 | none=>rw[hq] at hp;cases hp
 | some q =>
  rw[hq] at hp hp'
  simp only[Option.map_some,Option.some.injEq] at hp hp'
  subst hp hp'
  exact⟨rfl,h _ (by simp only[List.mem_toArray,List.mem_map];exact⟨q,b6 hq,rfl⟩)⟩
theorem rV{D:Nat→Prop}{m:NMap}{ρ ρ':Operand→Value}{xs:Array Operand}(h:∀ x∈xs,VR D m (ρ x) (ρ' x)):VRs D m (xs.map ρ).toList (xs.map ρ').toList:=by
 refine⟨by simp,fun i v v' hv hv'=>?_⟩
 simp only[Array.toList_map,List.getElem?_map] at hv hv'
 cases hq:xs.toList[i]? with
 | none=>rw[hq] at hv;cases hv
 | some q =>
  rw[hq] at hv hv'
  simp only[Option.map_some,Option.some.injEq] at hv hv'
  subst hv hv'
  exact h q (by simpa using b6 hq)
theorem lZ{h':List Blk}{r:Option (Value×List Blk)}{v:Value}{wr:Option Nat}(hv:lG r=some (v,h',wr)):r=some (v,h')∧wr=none:=by
 cases r with
 | none=>cases hv
 | some x=>obtain⟨a,b⟩:=x;simp[lG] at hv;obtain⟨rfl,rfl,rfl⟩:=hv;exact⟨rfl,rfl⟩
theorem tU{P:Program}{op:BinOp}{t u:TypeId}{x y:Operand}{dst:Option Tmp}{ty:TypeId}{pos:String}{after:Array Edge}{guard:Option (Nat×Bool)}{ρ:Operand→Value}{v:Value}(hv:bE op (ρ x) (ρ y)=some v)(w:World) :
 (execOp ρ { dst:=dst,op:=.binOp op t x y u,type:=ty,pos:=pos,after:=after,guard:=guard }).run P w = .ok (.value v) w:=by
 unfold bE at hv
 split at hv
 ·rename_i k a k' b hx hy
  split at hv
  ·rename_i hk
   subst hk
   have hg:(eqGuard op t x y (.int k a) (.int k b)).run P w = .ok () w:=by
    unfold eqGuard
    split<;>rfl
   have key:∀ r:Value,(binOp op t (.int k a) (.int k b)).run P w = .ok r w→(execOp ρ { dst:=dst,op:=.binOp op t x y u,type:=ty,pos:=pos,after:=after,guard:=guard }).run P w = .ok (.value r) w:=by
    intro r hr
    simp only[execOp,hx,hy,Sem.run_bind,hg,Result.andThen_ok,hr,Sem.run_pure]
   apply key
   have neq:decide (a≠b)=(a != b):=by by_cases h:a=b<;>simp[h]
   have eql:decide (a=b)=(a==b):=by by_cases h:a=b<;>simp[h]
   cases op<;>simp only[] at hv<;>first
    | (cases hv;done)
    | (obtain rfl:=a6 hv;simp[binOp,Op.intArith,Op.intCmp,neq,eql];done)
    | (split at hv
       ·cases hv
       ·rename_i h0
        obtain rfl:=a6 hv
        simp[binOp,Op.intDiv,h0])
  ·cases hv
 ·cases hv
theorem uK{P:Program}{D:Nat→Prop}{m:NMap}{ρ ρ':Operand→Value}{o:Oper}{v:Value}
 (hρ:∀ x∈o.op.operands,VR D m (ρ x) (ρ' x)) (hv:pop0 P ρ o=some v):StepP P D m (execOp ρ' o) v:=by
 obtain⟨dst,op,ty,pos,after,guard⟩:=o
 simp only[Op.operands] at hρ
 cases op<;>simp only[pop0] at hv
 case move x =>
  obtain rfl:=a6 hv
  exact⟨_,fun w=>rfl,hρ x (by simp)⟩
 case assign x =>
  obtain rfl:=a6 hv
  exact⟨_,fun w=>rfl,hρ x (by simp)⟩
 case pick c a b =>
  split at hv
  ·rename_i t hc
   obtain rfl:=a6 hv
   have h1:=hρ c (by simp)
   have h2:=hρ a (by simp)
   have h3:=hρ b (by simp)
   rw[hc] at h1
   have h4:ρ' c = .bool t:=by
    generalize ρ' c=y at *
    cases h1;rfl
   refine⟨if t then ρ' a else ρ' b,fun w=>?_,by cases t<;>assumption⟩
   simp[execOp,h4,asBool]
  ·cases hv
 case nilCheck x =>
  split at hv
  ·rename_i hc
   obtain rfl:=a6 hv
   have h1:=hρ x (by simp)
   refine⟨ρ' x,fun w=>?_,h1⟩
   simp only[execOp]
   generalize ρ x=y at *
   generalize ρ' x=y' at *
   cases h1<;>first|(simp[vQ] at hc;done)|rfl
  ·cases hv
 case build t ps=>exact .of (rX (lF hρ) hv)
 case makeFunc fn first captured =>
  cases fn<;>simp only[] at hv<;>try (cases hv;done)
  rename_i f
  obtain rfl:=a6 hv
  have h1:=rV (xs:=first) (ρ:=ρ) (ρ':=ρ') (D:=D) (m:=m) fun x hx=>hρ x (by simp[hx])
  have h2:=rV (xs:=captured) (ρ:=ρ) (ρ':=ρ') (D:=D) (m:=m) fun x hx=>hρ x (by simp[hx])
  exact⟨_,fun w=>rfl,.func f _ _ _ _ h1.len h1.at' h2.len h2.at'⟩
 case extract t i =>
  split at hv
  ·rename_i l ht
   have h2:=hρ t (by simp)
   rw[ht] at h2
   obtain⟨l',hl,h3⟩:∃ l',VRs D m l l'∧ρ' t = .tuple ⟨l'⟩:=by
    generalize ρ' t=y at *
    cases h2;exact⟨_,⟨by assumption,by assumption⟩,rfl⟩
   obtain⟨v',h4,h5⟩:=hl.at hv
   refine .of ⟨v',fun w=>?_,h5⟩
   simp only[Instr.extract,h3]
   simp[h4]
  ·cases hv
 case fieldAddr t x f=>exact .of (mC (hρ x (by simp)) hv)
 case indexAddr t x ix=>exact .of (lU (hρ x (by simp)) (hρ ix (by simp)) hv)
 case binOp op t x y u =>
  unfold fR at hv
  split at hv
  ·rename_i r h1
   obtain rfl:=a6 hv
   have h2:=hρ x (by simp)
   have h3:=hρ y (by simp)
   obtain⟨k,a,k',b,hx,hy⟩:∃ k a k' b,ρ x = .int k a∧ρ y = .int k' b:=by
    unfold bE at h1
    split at h1
    ·rename_i k a k' b hx hy;exact⟨k,a,k',b,hx,hy⟩
    ·cases h1
   rw[hx] at h2;rw[hy] at h3
   have e2:ρ' x = .int k a:=by
    generalize ρ' x=z at *
    cases h2;rfl
   have e3:ρ' y = .int k' b:=by
    generalize ρ' y=z at *
    cases h3;rfl
   rw[hx,hy,← e2,← e3] at h1
   refine⟨r,fun w=>tU h1 w,?_⟩
   unfold bE at h1
   rw[e2,e3] at h1
   simp only at h1
   split at h1
   ·cases op <;> simp only [] at h1 <;> first
      | (cases h1;done)
      | (obtain rfl:=a6 h1;first|exact .int _ _|exact .bool _)
      | (split at h1
         ·cases h1
         ·obtain rfl:=a6 h1;exact .int _ _)
   ·cases h1
  ·exact fK (by simpa only[Op.operands] using hρ) hv
 case field t x f=>exact .of (qL (hρ x (by simp)) hv)
 case sliceToArrayPointer arr x=>exact .of (rD (hρ x (by simp)) hv)
 case index t x ix =>
  unfold fR at hv
  split at hv
  ·rename_i r hr'
   obtain rfl:=a6 hv
   exact .of (rZ (hρ x (by simp)) (hρ ix (by simp)) hr')
  ·exact fK (by simpa only[Op.operands] using hρ) hv
 case call c =>
  obtain⟨callee,args,argTypes⟩:=c
  unfold bpop at hv
  simp only at hv
  split at hv
  ·rename_i b
   split at hv
   ·rename_i hb
    subst hb
    split at hv
    ·rename_i a ha
     obtain rfl:args=#[a]:=Array.ext' ha
     unfold fR at hv
     split at hv
     ·rename_i r h1
      obtain rfl:=a6 hv
      have h2:=hρ a (by simp[Call.operands])
      unfold uD at h1
      split at h1
      ·cases h1
      ·rename_i t ht
       split at h1
       ·rename_i e ad n c hu hx
        obtain rfl:=a6 h1
        rw[hx] at h2
        obtain⟨x',c',h3⟩:∃ x' c',ρ' a = .slice x' n c':=by
         generalize ρ' a=y at *
         cases h2<;>exact⟨_,_,rfl⟩
        have ee:execOp ρ' { dst:=dst,op:=.call { callee:=.builtin .len,args:=#[a],argTypes:=argTypes },type:=ty,pos:=pos,after:=after,guard:=guard }=(do pure (.value (← Builtin.len_ argTypes ty #[ρ' a]))):=by
         simp only[execOp,resolve,invoke,List.map_toArray,List.map_cons,List.map_nil]
         rfl
        rw[ee]
        refine StepP.of (s:=Builtin.len_ argTypes ty #[ρ' a]) ⟨.int .i64 n,fun w=>?_,.int _ _⟩
        simp only[Builtin.len_,ht,h3,List.getElem?_toArray,List.getElem?_cons_zero,Sem.run_bind,run_underlying hu,Result.andThen_ok,Sem.run_pure]
        rfl
       ·cases h1
     ·exact fK (by simpa only[Op.operands] using hρ) hv
    ·cases hv
   ·exact fK (by simpa only[Op.operands] using hρ) hv
  ·cases hv
 all_goals first|(cases hv;done)|exact fK (by simpa only[Op.operands] using hρ) hv
def Still(w w':World):Prop:=∃ k,w'={ w with drawn:=k }
theorem Still.refl(w:World):Still w w:=⟨w.drawn,rfl⟩
theorem Still.trans{a b c:World}(h:Still a b)(g:Still b c):Still a c:=by
 obtain⟨_,rfl⟩:=h
 obtain⟨_,rfl⟩:=g
 exact⟨_,rfl⟩
theorem Still.drew(w:World):Still w w.drew:=⟨_,rfl⟩
theorem Still.below{w w':World}(h:Still w w')(B:Nat):Below B w w':=by
 obtain⟨_,rfl⟩:=h
 exact⟨rfl,rfl,rfl,a9 _,fun _ _=>rfl⟩
def StepQ(P:Program)(D:Nat→Prop)(m:NMap)(s:Sem Next)(v:Value):Prop:=∀ w,∃ v' w',s.run P w = .ok (.value v') w'∧Still w w'∧VR D m v v'
theorem StepP.q{P:Program}{D:Nat→Prop}{m:NMap}{s:Sem Next}{v:Value}(h:StepP P D m s v):StepQ P D m s v:=fun w=>by
 obtain⟨v',h1,h2⟩:=h
 exact⟨v',w,h1 w,Still.refl w,h2⟩
theorem StepQ.step{P:Program}{B lo:Nat}{D:Nat→Prop}{m:NMap}{h:List Blk}{w:World}{s:Sem Next}{v:Value}(hs:StepQ P D m s v)(hr:Rel B lo D m h w):StepN P B lo D m h w s v h:=by
 obtain⟨v',w',h1,h2,h3⟩:=hs w
 exact⟨.value v',v',w',m,h1,.inl rfl,Post.frame hr (h2.below _),by rw[Dx.refl];exact h3⟩
theorem yT(k:FloatKind):eE k (qn k)=true:=by cases k<;>decide
theorem Bf(k:FloatKind):k.format.binade≤k.format.infRung:=by cases k<;>decide
theorem gJ{k:FloatKind}{b:Nat}(h:eE k b=true):∃ s t,k.format.read b = .nan s t:=by
 have h:=of_decide_eq_true h
 have:=Bf k
 unfold Ieee.Format.read
 simp only
 rw[d5 (by omega),d5 (by omega),d5 (by omega)]
 exact⟨_,_,rfl⟩
theorem pW{k:FloatKind}{a b:Nat}(h:eE k a=true∨eE k b=true):k.format.order a b=none:=by
 unfold Ieee.Format.order
 rcases h with h|h
 ·obtain⟨s,t,e⟩:=gJ h
  rw[e]
  rfl
 ·obtain⟨s,t,e⟩:=gJ h
  rw[e]
  cases k.format.read a<;>rfl
theorem oC{op:BinOp}{k:FloatKind}{a b:Nat}(h:eE k a=true∨eE k b=true):farith0 op k a b=none:=by
 rcases h with h|h
 ·obtain⟨s,t,e⟩:=gJ h
  unfold farith0
  split<;>simp only[Ieee.Format.add,Ieee.Format.sub,Ieee.Format.mul,Ieee.Format.div,e]<;>rfl
 ·obtain⟨s,t,e⟩:=gJ h
  unfold farith0
  split<;>simp only[Ieee.Format.add,Ieee.Format.sub,Ieee.Format.mul,Ieee.Format.div,e]<;>cases k.format.read a<;>rfl
theorem FR.two{k:FloatKind}{a a' b b':Nat}(h:FR k a a')(g:FR k b b'):(a'=a∧b'=b)∨((eE k a=true∨eE k b=true)∧(eE k a'=true∨eE k b'=true)):=by
 rcases h with h|⟨h1,h2⟩
 ·rcases g with g|⟨g1,g2⟩
  ·exact .inl ⟨h,g⟩
  ·exact .inr ⟨.inr g1,.inr g2⟩
 ·exact .inr ⟨.inl h1,.inl h2⟩
theorem FR.fcmp{op:BinOp}{k:FloatKind}{a a' b b':Nat}(h:FR k a a')(g:FR k b b'):Rex.fcmp op k a' b'=Rex.fcmp op k a b:=by
 rcases h.two g with⟨rfl,rfl⟩|⟨h1,h2⟩
 ·rfl
 ·unfold Rex.fcmp
  rw[pW h1,pW h2]
theorem FR.arith{op:BinOp}{k:FloatKind}{a a' b b':Nat}(h:FR k a a')(g:FR k b b'):farith0 op k a' b'=farith0 op k a b:=by
 rcases h.two g with⟨rfl,rfl⟩|⟨h1,h2⟩
 ·rfl
 ·rw[oC h1,oC h2]
theorem tE(k:FloatKind)(b t:Nat):eE k ((Question.nanConv k b).cut t)=true:=by
 cases k
 ·refine decide_eq_true ?_
  show (Ieee.single.infRung)<((t%2)*2^31+0x7f800000+1+(t/2)%(2^23-1))%Ieee.single.signWeight
  rw[show Ieee.single.infRung=2139095040 from rfl,show Ieee.single.signWeight=2147483648 from rfl]
  have h1:(t/2)%(2^23-1)<2^23-1:=Nat.mod_lt _ (by decide)
  generalize (t/2)%(2^23-1)=q at h1 ⊢
  rw[show t%2*2^31+0x7f800000+1+q=(2139095041+q)+2147483648*(t%2) by omega,Nat.add_mul_mod_self_left,j2 (by omega)]
  omega
 ·refine decide_eq_true ?_
  show (Ieee.double.infRung)<((t%2)*2^63+0x7ff0000000000000+1+(t/2)%(2^52-1))%Ieee.double.signWeight
  rw[show Ieee.double.infRung=9218868437227405312 from rfl,show Ieee.double.signWeight=9223372036854775808 from rfl]
  have h1:(t/2)%(2^52-1)<2^52-1:=Nat.mod_lt _ (by decide)
  generalize (t/2)%(2^52-1)=q at h1 ⊢
  rw[show t%2*2^63+0x7ff0000000000000+1+q=(9218868437227405313+q)+9223372036854775808*(t%2) by omega,Nat.add_mul_mod_self_left,j2 (by omega)]
  omega
theorem yC(k:FloatKind)(x y t:Nat):eE k ((Question.nanBits k x y).cut t)=true:=by
 have:=tE k x t
 cases k<;>exact this
section
variable {P:Program}
theorem qQ{op:BinOp}(hop:op = .add∨op = .sub∨op = .mul∨op = .quo){k:FloatKind}{a b a' b':Nat}(ha:FR k a a')(hb:FR k b b')(w:World):∃ r w',(Op.floatArith op k a' b').run P w = .ok (.float k r) w'∧Still w w'∧FR k (arN op k a b) r:=by
 have hrun:(Op.floatArith op k a' b')=(match farith0 op k a' b' with|some r=>pure (.float k r)|none=>do pure (.float k (← choose (.nanBits k a' b'))):Sem Value):=by
  rcases hop with rfl|rfl|rfl|rfl<;>rfl
 rw[hrun,ha.arith hb]
 unfold arN
 cases farith0 op k a b with
 | some r=>exact⟨r,w,rfl,Still.refl w,.refl⟩
 | none =>
  have hq:(Question.nanBits k a' b').forced=false:=rfl
  refine⟨_,w.drew,?_,Still.drew w,.inr ⟨yT k,yC k a' b' (w.tape w.drawn (.nanBits k a' b'))⟩⟩
  simp only[Sem.run_bind,run_choose_drew,hq,Result.andThen_ok,Sem.run_pure]
  rfl
theorem yE{op:BinOp}(hop:op = .eql∨op = .neq∨op = .lss∨op = .leq∨op = .gtr∨op = .geq){k:FloatKind}{a b:Nat}(w:World):(Op.floatCmp op k a b).run P w = .ok (.bool (fcmp op k a b)) w:=by
 rcases hop with rfl|rfl|rfl|rfl|rfl|rfl<;>rfl
theorem sE{k kd:FloatKind}{b b' r:Nat}(hb:FR k b b')(hr:f2f k b kd=some r)(w:World):∃ r' w',(Conv.floatToFloat k b' kd).run P w = .ok (.float kd r') w'∧Still w w'∧FR kd r r':=by
 unfold f2f at hr
 unfold Conv.floatToFloat
 split at hr
 ·rename_i e
  obtain rfl:=a6 hr
  rw[b8 e]
  subst e
  exact⟨b',w,rfl,Still.refl w,hb⟩
 ·rename_i e
  rw[d5 e]
  split at hr
  ·rename_i hn
   obtain rfl:=a6 hr
   have hn':eE k b'=true:=by
    rcases hb with rfl|h
    ·exact hn
    ·exact h.2
   obtain⟨s,t,e2⟩:=gJ hn'
   have e3:k.decode b' = .nan s t:=e2
   rw[e3]
   have hq:(Question.nanConv kd b').forced=false:=rfl
   refine⟨_,w.drew,?_,Still.drew w,.inr ⟨yT kd,tE kd b' (w.tape w.drawn (.nanConv kd b'))⟩⟩
   simp only[Sem.run_bind,run_choose_drew,hq,Result.andThen_ok,Sem.run_pure]
   rfl
  ·rename_i hn
   obtain rfl:=hb.eq (by simpa using hn)
   split at hr
   ·cases hr
   ·rename_i hd;obtain rfl:=a6 hr;simp only[hd];exact⟨_,w,rfl,Still.refl w,.refl⟩
   ·rename_i hd
    simp only[hd]
    split at hr
    ·cases hr
    ·rename_i hi
     obtain rfl:=a6 hr
     rw[d5 hi]
     exact⟨_,w,rfl,Still.refl w,.refl⟩
theorem vP{k:FloatKind}{b:Nat}:eE k (Op.negFloat k b)=eE k b:=by
 unfold eE Op.negFloat Ieee.Format.signWeight
 rw[Nat.xor_mod_two_pow,Nat.mod_self,Nat.xor_zero]
theorem FR.neg{k:FloatKind}{b b':Nat}(h:FR k b b'):FR k (Op.negFloat k b) (Op.negFloat k b'):=by
 rcases h with rfl|⟨h1,h2⟩
 ·exact .refl
 ·exact .inr ⟨by rw[vP];exact h1,by rw[vP];exact h2⟩
theorem xY{D:Nat→Prop}{m:NMap}{op:BinOp}{t:TypeId}{x x' y y' v:Value}(hx:VR D m x x')(hy:VR D m y y')(hv:zT op x y=some v)(w:World):∃ v' w',(binOp op t x' y').run P w = .ok v' w'∧Still w w'∧VR D m v v':=by
 unfold zT at hv
 split at hv
 ·rename_i k a k' b
  cases hx with
  | float _ _ a' ha =>
  cases hy with
  | float _ _ b' hb =>
  split at hv
  ·rename_i hk
   subst hk
   have ar:∀ op,(op = .add∨op = .sub∨op = .mul∨op = .quo)→∃ v' w',(binOp op t (.float k a') (.float k b')).run P w = .ok v' w'∧Still w w'∧VR D m (.float k (arN op k a b)) v':=fun op hop=>by
    obtain⟨r,w',h1,h2,h3⟩:=qQ (P:=P) hop ha hb w
    refine⟨.float k r,w',?_,h2,.float _ _ _ h3⟩
    have:binOp op t (.float k a') (.float k b')=Op.floatArith op k a' b':=by
     rcases hop with rfl|rfl|rfl|rfl<;>simp[binOp]
    rw[this];exact h1
   have cm:∀ op,(op = .eql∨op = .neq∨op = .lss∨op = .leq∨op = .gtr∨op = .geq)→∃ v' w',(binOp op t (.float k a') (.float k b')).run P w = .ok v' w'∧Still w w'∧VR D m (.bool (fcmp op k a b)) v':=fun op hop=>by
    refine⟨.bool (fcmp op k a' b'),w,?_,Still.refl w,by rw[ha.fcmp hb];exact .bool _⟩
    have:binOp op t (.float k a') (.float k b')=Op.floatCmp op k a' b':=by
     rcases hop with rfl|rfl|rfl|rfl|rfl|rfl<;>simp[binOp]
    rw[this];exact yE hop w
   cases op<;>simp only[] at hv<;>first
    | (cases hv;done)
    | (obtain rfl:=a6 hv;first|exact ar _ (by simp)|exact cm _ (by simp))
  ·cases hv
 ·rename_i k a b k' c d
  cases hx with
  | complex _ _ _ a' b' ha hb =>
  cases hy with
  | complex _ _ _ c' d' hc hd =>
  split at hv
  ·rename_i hk
   subst hk
   have hbo:∀ op,op ≠ .shl→op ≠ .shr→binOp op t (.complex k a' b') (.complex k c' d')=Op.complexOp op k a' b' c' d':=fun op h1 h2=>by
    cases op<;>first|(exact absurd rfl h1)|(exact absurd rfl h2)|simp[binOp]
   have ar:∀ op,(op = .add∨op = .sub)→∃ v' w',(binOp op t (.complex k a' b') (.complex k c' d')).run P w = .ok v' w'∧Still w w'∧VR D m (.complex k (arN op k a c) (arN op k b d)) v':=fun op hop=>by
    have hop4:op = .add∨op = .sub∨op = .mul∨op = .quo:=by rcases hop with h|h<;>simp[h]
    obtain⟨r,w1,h1,h2,h3⟩:=qQ (P:=P) hop4 ha hc w
    obtain⟨i,w2,g1,g2,g3⟩:=qQ (P:=P) hop4 hb hd w1
    refine⟨.complex k r i,w2,?_,h2.trans g2,.complex _ _ _ _ _ h3 g3⟩
    rw[hbo op (by rcases hop with rfl|rfl<;>decide) (by rcases hop with rfl|rfl<;>decide)]
    have e1:(Op.Complex.arith op k a' c').run P w = .ok r w1:=by
     unfold Op.Complex.arith
     simp only[Sem.run_bind,h1,Result.andThen_ok,Sem.run_pure]
    have e2:(Op.Complex.arith op k b' d').run P w1 = .ok i w2:=by
     unfold Op.Complex.arith
     simp only[Sem.run_bind,g1,Result.andThen_ok,Sem.run_pure]
    rcases hop with rfl|rfl<;>simp only[Op.complexOp,Sem.run_bind,e1,e2,Result.andThen_ok,Sem.run_pure]
   have ce:∀ a b w,(Op.Complex.cmp .eql k a b).run P w = .ok (fcmp .eql k a b) w:=fun a b w=>rfl
   cases op<;>simp only[] at hv<;>first
    | (cases hv;done)
    | (obtain rfl:=a6 hv;exact ar _ (by simp))
    | (obtain rfl := a6 hv
       refine⟨_,w,?_,Still.refl w,.bool _⟩
       rw[hbo _ (by decide) (by decide)]
       simp only[Op.complexOp,Sem.run_bind,ce,Result.andThen_ok,Sem.run_pure]
       rw[ha.fcmp hc]
       cases fcmp .eql k a c
       ·simp[Sem.run_pure]
       ·simp only[Sem.run_bind,ce,Result.andThen_ok,Sem.run_pure,hb.fcmp hd,Bool.true_and,if_true])
  ·cases hv
 ·cases hv
end
theorem uU{P:Program}{D:Nat→Prop}{m:NMap}{ρ ρ':Operand→Value}{o:Oper}{v:Value}
 (hρ:∀ x∈o.op.operands,VR D m (ρ x) (ρ' x)) (hv:sF P ρ o=some v):StepQ P D m (execOp ρ' o) v:=by
 intro w
 obtain⟨dst,op,ty,pos,after,guard⟩:=o
 simp only[Op.operands] at hρ
 cases op<;>simp only[sF] at hv
 case binOp op t x y u =>
  have h1:=hρ x (by simp)
  have h2:=hρ y (by simp)
  obtain⟨v',w',h3,h4,h5⟩:=xY (P:=P) (t:=t) h1 h2 hv w
  have hg:(eqGuard op t x y (ρ' x) (ρ' y)).run P w = .ok () w:=by
   unfold zT at hv
   split at hv
   ·rename_i k a k' b hx hy
    rw[hx] at h1
    generalize ρ' x=p at *
    generalize ρ' y=q at *
    cases h1
    unfold eqGuard
    split<;>rfl
   ·rename_i k a b k' c d hx hy
    rw[hx] at h1
    generalize ρ' x=p at *
    generalize ρ' y=q at *
    cases h1
    unfold eqGuard
    split<;>rfl
   ·cases hv
  refine⟨v',w',?_,h4,h5⟩
  simp only[execOp,Sem.run_bind,hg,Result.andThen_ok,h3,Sem.run_pure]
 case unOp op t x =>
  have h1:=hρ x (by simp)
  unfold Cf at hv
  split at hv
  ·rename_i k b hx
   obtain rfl:=a6 hv
   rw[hx] at h1
   obtain⟨b',hb,e⟩:∃ b',FR k b b'∧ρ' x = .float k b':=by
    generalize ρ' x=p at *
    cases h1;exact⟨_,by assumption,rfl⟩
   refine⟨_,w,?_,Still.refl w,.float _ _ _ hb.neg⟩
   simp only[execOp,e,Op.unary,Sem.run_bind,Sem.run_pure,Result.andThen_ok]
  ·rename_i k a b hx
   obtain rfl:=a6 hv
   rw[hx] at h1
   obtain⟨a',b',ha,hb,e⟩:∃ a' b',FR k a a'∧FR k b b'∧ρ' x = .complex k a' b':=by
    generalize ρ' x=p at *
    cases h1;exact⟨_,_,by assumption,by assumption,rfl⟩
   refine⟨_,w,?_,Still.refl w,.complex _ _ _ _ _ ha.neg hb.neg⟩
   simp only[execOp,e,Op.unary,Sem.run_bind,Sem.run_pure,Result.andThen_ok]
  ·cases hv
 case convert src dst x =>
  have h1:=hρ x (by simp)
  unfold Bu at hv
  split at hv
  ·rename_i k b hx
   rw[hx] at h1
   obtain⟨b',hb,e⟩:∃ b',FR k b b'∧ρ' x = .float k b':=by
    generalize ρ' x=p at *
    cases h1;exact⟨_,by assumption,rfl⟩
   split at hv
   ·rename_i ks kd hs hd
    rw[b9] at hv
    obtain⟨r,hr,rfl⟩:=hv
    obtain⟨r',w',h3,h4,h5⟩:=sE (P:=P) hb hr w
    refine⟨_,w',?_,h4,.float _ _ _ h5⟩
    have hc:(convert src dst (.float k b')).run P w = .ok (.float kd r') w':=by
     unfold convert
     simp only[Sem.run_bind,run_underlying hs,run_underlying hd,Result.andThen_ok,h3]
    simp only[execOp,e,Sem.run_bind,hc,Result.andThen_ok,Sem.run_pure]
   ·cases hv
  ·rename_i k a b hx
   rw[hx] at h1
   obtain⟨a',b',ha,hb,e⟩:∃ a' b',FR k a a'∧FR k b b'∧ρ' x = .complex k a' b':=by
    generalize ρ' x=p at *
    cases h1;exact⟨_,_,by assumption,by assumption,rfl⟩
   split at hv
   ·rename_i ks kd hs hd
    rw[Option.bind_eq_some_iff] at hv
    obtain⟨r,hr,hv⟩:=hv
    rw[b9] at hv
    obtain⟨i,hi,rfl⟩:=hv
    obtain⟨r',w1,h3,h4,h5⟩:=sE (P:=P) ha hr w
    obtain⟨i',w2,g3,g4,g5⟩:=sE (P:=P) hb hi w1
    refine⟨_,w2,?_,h4.trans g4,.complex _ _ _ _ _ h5 g5⟩
    have hc:(convert src dst (.complex k a' b')).run P w = .ok (.complex kd r' i') w2:=by
     unfold convert
     simp only[Sem.run_bind,run_underlying hs,run_underlying hd,Result.andThen_ok,Conv.complexToComplex,h3,g3,Sem.run_pure]
    simp only[execOp,e,Sem.run_bind,hc,Result.andThen_ok,Sem.run_pure]
   ·cases hv
  ·cases hv
 case call c =>
  obtain⟨callee,args,argTypes⟩:=c
  cases callee<;>simp only[] at hv<;>try (cases hv;done)
  rename_i b
  unfold Ah at hv
  split at hv
  ·rename_i hb
   subst hb
   split at hv
   ·rename_i k x k' y hxy
    split at hv
    ·rename_i hk
     subst hk
     obtain rfl:=a6 hv
     obtain⟨p,q,hpq⟩:∃ p q,args.toList=[p,q]:=by
      have:=congrArg List.length hxy
      simp only[List.length_map,List.length_cons,List.length_nil] at this
      match h:args.toList,this with
      | [p,q],_=>exact⟨p,q,rfl⟩
     obtain rfl:args=#[p,q]:=Array.ext' hpq
     simp only[List.map_cons,List.map_nil,List.cons.injEq,and_true] at hxy
     have h1:=hρ p (by simp[Call.operands])
     have h2:=hρ q (by simp[Call.operands])
     rw[hxy.1] at h1
     rw[hxy.2] at h2
     obtain⟨x',hx,e1⟩:∃ x',FR k x x'∧ρ' p = .float k x':=by
      generalize ρ' p=p at *
      cases h1;exact⟨_,by assumption,rfl⟩
     obtain⟨y',hy,e2⟩:∃ y',FR k y y'∧ρ' q = .float k y':=by
      generalize ρ' q=p at *
      cases h2;exact⟨_,by assumption,rfl⟩
     refine⟨.complex k x' y',w,?_,Still.refl w,.complex _ _ _ _ _ hx hy⟩
     have ee:execOp ρ' { dst:=dst,op:=.call { callee:=.builtin .complex,args:=#[p,q],argTypes:=argTypes },type:=ty,pos:=pos,after:=after,guard:=guard }=(do pure (.value (← Builtin.complex_ argTypes ty #[ρ' p,ρ' q]))):=by
      simp only[execOp,resolve,invoke,List.map_toArray,List.map_cons,List.map_nil]
      rfl
     have hc:(Builtin.complex_ argTypes ty #[.float k x',.float k y']).run P w = .ok (.complex k x' y') w:=by
      show (if k = k then (pure (Value.complex k x' y') : Sem Value) else stuck "complex: parts of different kinds").run P w = _
      rw[b8 rfl]
      rfl
     rw[ee,e1,e2]
     simp only[Sem.run_bind,hc,Sem.run_pure,Result.andThen_ok]
    ·cases hv
   ·cases hv
  ·split at hv
   ·rename_i hb
    subst hb
    split at hv
    ·rename_i k x y hxy
     obtain rfl:=a6 hv
     obtain⟨p,hp⟩:∃ p,args.toList=[p]:=by
      have:=congrArg List.length hxy
      simp only[List.length_map,List.length_cons,List.length_nil] at this
      match h:args.toList,this with
      | [p],_=>exact⟨p,rfl⟩
     obtain rfl:args=#[p]:=Array.ext' hp
     simp only[List.map_cons,List.map_nil,List.cons.injEq,and_true] at hxy
     have h1:=hρ p (by simp[Call.operands])
     rw[hxy] at h1
     obtain⟨x',y',hx,e1⟩:∃ x' y',FR k x x'∧ρ' p = .complex k x' y':=by
      generalize ρ' p=p at *
      cases h1;exact⟨_,_,by assumption,rfl⟩
     refine⟨.float k x',w,?_,Still.refl w,.float _ _ _ hx⟩
     have ee:execOp ρ' { dst:=dst,op:=.call { callee:=.builtin .real,args:=#[p],argTypes:=argTypes },type:=ty,pos:=pos,after:=after,guard:=guard }=(do pure (.value (← Builtin.real_ argTypes ty #[ρ' p]))):=by
      simp only[execOp,resolve,invoke,List.map_toArray,List.map_cons,List.map_nil]
      rfl
     rw[ee,e1]
     rfl
    ·cases hv
   ·split at hv
    ·rename_i hb
     subst hb
     split at hv
     ·rename_i k x y hxy
      obtain rfl:=a6 hv
      obtain⟨p,hp⟩:∃ p,args.toList=[p]:=by
       have:=congrArg List.length hxy
       simp only[List.length_map,List.length_cons,List.length_nil] at this
       match h:args.toList,this with
       | [p],_=>exact⟨p,rfl⟩
      obtain rfl:args=#[p]:=Array.ext' hp
      simp only[List.map_cons,List.map_nil,List.cons.injEq,and_true] at hxy
      have h1:=hρ p (by simp[Call.operands])
      rw[hxy] at h1
      obtain⟨x',y',hy,e1⟩:∃ x' y',FR k y y'∧ρ' p = .complex k x' y':=by
       generalize ρ' p=p at *
       cases h1;exact⟨_,_,by assumption,rfl⟩
      refine⟨.float k y',w,?_,Still.refl w,.float _ _ _ hy⟩
      have ee:execOp ρ' { dst:=dst,op:=.call { callee:=.builtin .imag,args:=#[p],argTypes:=argTypes },type:=ty,pos:=pos,after:=after,guard:=guard }=(do pure (.value (← Builtin.imag_ argTypes ty #[ρ' p]))):=by
       simp only[execOp,resolve,invoke,List.map_toArray,List.map_cons,List.map_nil]
       rfl
      rw[ee,e1]
      rfl
     ·cases hv
    ·cases hv
 all_goals (cases hv;done)
theorem lX{P:Program}{D:Nat→Prop}{m:NMap}{ρ ρ':Operand→Value}{o:Oper}{v:Value}
 (hρ:∀ x∈o.op.operands,VR D m (ρ x) (ρ' x)) (hv:pop P ρ o=some v):StepQ P D m (execOp ρ' o) v:=by
 unfold pop at hv
 split at hv
 ·rename_i v0 h0
  obtain rfl:=a6 hv
  exact (uK hρ h0).q
 ·exact uU hρ hv
theorem wS{P:Program}{B lo:Nat}{D:Nat→Prop}{m:NMap}{h h':List Blk}{w:World}{ρ ρ':Operand→Value}{o:Oper}{v:Value}{wr:Option Nat}(hr:Rel B lo D m h w)(hlo:lo≤h.length)
 (hρ:∀ x∈o.op.operands,VR D m (ρ x) (ρ' x)) (hv:hop P ρ o h=some (v,h',wr)) (hw:WrOk lo wr):StepN P B lo D m h w (execOp ρ' o) v h':=by
 obtain⟨dst,op,ty,pos,after,guard⟩:=o
 simp only[Op.operands] at hρ
 cases op<;>simp only[hop] at hv
 case alloc e =>
  split at hv
  ·rename_i i hi
   split at hv
   ·rename_i z hz
    split at hv
    ·rename_i hc
     obtain⟨rfl,rfl,rfl⟩:_=v∧_=h'∧none=wr:=by simpa using hv
     have hstep:StepV P B lo D m h w (do pure (.pointer (some (← newVar e z)))) (.pointer (some ⟨h.length,0,none⟩)) (h++[rJ P e z.cells.toList]):=by
      unfold rJ
      split
      ·exact pD (P:=P) hr hlo e (VR.of_clean depth z hc)
      ·exact kQ (P:=P) hr hlo (tK P e) e (VR.of_clean depth z hc)
     obtain⟨v',w',m',h1,h2,h3⟩:=hstep
     refine StepN.of ⟨v',w',m',?_,h2,h3⟩
     simp only[Instr.alloc,Sem.run_bind,zeroValue,typeInfo,run_program,Result.andThen_ok,hi,hz,Sem.run_pure] at h1 ⊢
     exact h1
    ·cases hv
   ·cases hv
  ·cases hv
 case box e x =>
  obtain⟨rfl,rfl,rfl⟩:_=v∧_=h'∧none=wr:=by simpa using hv
  exact StepN.of (kQ (P:=P) hr hlo (tK P e) e (hρ x (by simp)))
 case convert src dst x =>
  obtain⟨h1,rfl⟩:=lZ hv
  exact StepN.of (tN hr hlo (hρ x (by simp)) h1)
 case buildSlice t n ps =>
  obtain⟨h1,rfl⟩:=lZ hv
  exact StepN.of (lE hr hlo (lF hρ) h1)
 case makeSlice t l c =>
  obtain⟨h1,rfl⟩:=lZ hv
  exact StepN.of (lK hr hlo (hρ l (by simp)) (hρ c (by simp)) h1)
 case load t a =>
  split at hv
  ·rename_i n o ha
   cases hl:gM P t h n o with
   | none=>rw[hl] at hv;cases hv
   | some v0 =>
    rw[hl] at hv
    obtain⟨rfl,rfl,rfl⟩:v0=v∧h=h'∧none=wr:=by simpa using hv
    have h2:=hρ a (by simp)
    rw[ha] at h2
    obtain⟨hD,h3⟩:D n∧ρ' a = .pointer (some ⟨(m n).block,(m n).off+o,none⟩):=by
     generalize ρ' a=y at *
     cases h2;exact⟨by assumption,rfl⟩
    obtain⟨v',h4,h5⟩:=mQ (P:=P) hr hD hl
    refine .of (.pure hr (v':=v') ?_ h5)
    simp only[Instr.loadAt,h3,Instr.sureAddr,Sem.run_bind,Sem.run_pure,Result.andThen_ok,h4]
  ·cases hv
 case store t a x =>
  split at hv
  ·rename_i n o ha
   cases hst:dJ P t h n o (ρ x) with
   | none=>rw[hst] at hv;cases hv
   | some h1 =>
    rw[hst] at hv
    obtain⟨rfl,rfl,rfl⟩:undef=v∧h1=h'∧some n=wr:=by simpa using hv
    have h2:=hρ a (by simp)
    rw[ha] at h2
    obtain⟨hD,h3⟩:D n∧ρ' a = .pointer (some ⟨(m n).block,(m n).off+o,none⟩):=by
     generalize ρ' a=y at *
     cases h2;exact⟨by assumption,rfl⟩
    obtain⟨w',h4,h5⟩:=rN (P:=P) hr hD (hw n rfl) hst (hρ x (by simp))
    refine⟨.skip,undef,w',m,?_,.inr ⟨rfl,rfl⟩,h5,VR.undef⟩
    simp only[execOp,Instr.storeAt,h3,Instr.sureAddr,Sem.run_bind,Sem.run_pure,Result.andThen_ok,h4]
  ·cases hv
 case slice t x lo hi mx =>
  cases mx with
  | some q =>
   cases hi with
   | none=>cases hv
   | some k =>
    simp only at hv
    cases hl:slice3V P t (ρ x) (lo.map ρ) (ρ k) (ρ q) h with
    | none=>rw[hl] at hv;cases hv
    | some v0 =>
     rw[hl] at hv
     obtain⟨rfl,rfl,rfl⟩:v0=v∧h=h'∧none=wr:=by simpa using hv
     have ho:oZ D m (lo.map ρ) (lo.map ρ'):=by
      cases lo with
      | none=>exact trivial
      | some y=>exact hρ y (by simp)
     obtain⟨v',h4,h5⟩:=oY (P:=P) hr (hρ x (by simp)) ho (hρ k (by simp)) (hρ q (by simp)) hl
     refine .of (.pure hr (v':=v') ?_ h5)
     exact h4 w
  | none =>
   simp only at hv
   have ho:∀ q:Option Operand,(∀ y∈q,VR D m (ρ y) (ρ' y))→oZ D m (q.map ρ) (q.map ρ'):=by
    intro q hq
    cases q with
    | none=>exact trivial
    | some y=>exact hq y rfl
   cases hl:hP P t (ρ x) (lo.map ρ) (hi.map ρ) h with
   | none =>
    rw[hl] at hv
    simp only at hv
    cases hl:iV P t (ρ x) (lo.map ρ) (hi.map ρ) h with
    | none=>rw[hl] at hv;cases hv
    | some v0 =>
     rw[hl] at hv
     obtain⟨rfl,rfl,rfl⟩:v0=v∧h=h'∧none=wr:=by simpa using hv
     obtain⟨v',h4,h5⟩:=qH (P:=P) hr (hρ x (by simp)) (ho lo fun y hy=>hρ y (by simp;exact .inr (.inl (Option.mem_def.1 hy)))) (ho hi fun y hy=>hρ y (by simp;exact .inr (.inr (Option.mem_def.1 hy)))) hl
     refine .of (.pure hr (v':=v') ?_ h5)
     exact h4 w
   | some v0 =>
    rw[hl] at hv
    obtain⟨rfl,rfl,rfl⟩:v0=v∧h=h'∧none=wr:=by simpa using hv
    obtain⟨v',h4,h5⟩:=qE (P:=P) hr (hρ x (by simp)) (ho lo fun y hy=>hρ y (by simp;exact .inr (.inl (Option.mem_def.1 hy)))) (ho hi fun y hy=>hρ y (by simp;exact .inr (.inr (Option.mem_def.1 hy)))) hl
    refine .of (.pure hr (v':=v') ?_ h5)
    exact h4 w
 case binOp op t x y u =>
  cases hl:jY P op t (ρ x) (ρ y) with
  | none=>rw[hl] at hv;cases hv
  | some v0 =>
   rw[hl] at hv
   obtain⟨rfl,rfl,rfl⟩:v0=v∧h=h'∧none=wr:=by simpa using hv
   have h2:=hρ x (by simp)
   have h3:=hρ y (by simp)
   have hl':jY P op t (ρ' x) (ρ' y)=some v0:=by
    unfold jY at hl ⊢
    split at hl
    ·rename_i e hu
     split at hl
     ·rename_i a l c l' c' hx hy
      rw[hx] at h2;rw[hy] at h3
      generalize ρ' x=p at *
      generalize ρ' y=q at *
      cases h2<;>cases h3<;>exact hl
     ·cases hl
    ·rename_i e hu
     split at hl
     ·cases hl
     rename_i j hj
     split at hl
     ·rename_i n o hx hy
      rw[hx] at h2;rw[hy] at h3
      generalize ρ' x=p at *
      generalize ρ' y=q at *
      cases h2;cases h3
      exact hl
     ·rename_i n o n' o' hx hy
      split at hl
      ·rename_i hc
       obtain⟨rfl,rfl⟩:=hc
       rw[hx] at h2;rw[hy] at h3
       generalize ρ' x=p at *
       generalize ρ' y=q at *
       cases h2;cases h3
       simp only[and_self,if_true]
       exact hl
      ·cases hl
     ·cases hl
    ·cases hl
   obtain⟨h4,b,rfl⟩:=vE (dst:=dst) (ty:=ty) (pos:=pos) (after:=after) (guard:=guard) (u:=u) hl' w
   exact⟨.value (.bool b),.bool b,w,m,h4,.inl rfl,Post.refl hr,.bool b⟩
 case makeMap t r =>
  cases r with
  | some _=>cases hv
  | none =>
   obtain⟨rfl,rfl,rfl⟩:_=v∧_=h'∧none=wr:=by simpa using hv
   exact StepN.of (rG (P:=P) hr hlo t)
 case lookup t x k ok =>
  cases hl:dB P t (ρ x) (ρ k) ok h with
  | none=>rw[hl] at hv;cases hv
  | some v0 =>
   rw[hl] at hv
   obtain⟨rfl,rfl,rfl⟩:v0=v∧h=h'∧none=wr:=by simpa using hv
   obtain⟨h4,h5⟩:=pH (P:=P) hr (hρ x (by simp)) (hρ k (by simp)) hl
   exact .of (.pure hr (v':=v0) h4 (VR.of_clean depth _ h5))
 case mapUpdate t x k u =>
  cases hl:bA P t (ρ x) (ρ k) (ρ u) h with
  | none=>rw[hl] at hv;cases hv
  | some q =>
   obtain⟨h1,n⟩:=q
   rw[hl] at hv
   obtain⟨rfl,rfl,rfl⟩:undef=v∧h1=h'∧some n=wr:=by simpa using hv
   obtain⟨w',h4,h5⟩:=jL (P:=P) hr (hρ x (by simp)) (hρ k (by simp)) (hρ u (by simp)) hl (hw n rfl)
   refine⟨.skip,undef,w',m,?_,.inr ⟨rfl,rfl⟩,h5,VR.undef⟩
   simp only[execOp,Sem.run_bind,h4,Result.andThen_ok,Sem.run_pure]
 case insert t x k u =>
  cases hl:bA P t (ρ x) (ρ k) (ρ u) h with
  | none=>rw[hl] at hv;cases hv
  | some q =>
   obtain⟨h1,n⟩:=q
   rw[hl] at hv
   obtain⟨rfl,rfl,rfl⟩:undef=v∧h1=h'∧some n=wr:=by simpa using hv
   obtain⟨w',h4,h5⟩:=jL (P:=P) hr (hρ x (by simp)) (hρ k (by simp)) (hρ u (by simp)) hl (hw n rfl)
   refine⟨.skip,undef,w',m,?_,.inr ⟨rfl,rfl⟩,h5,VR.undef⟩
   simp only[execOp,Sem.run_bind,h4,Result.andThen_ok,Sem.run_pure]
 case call c =>
  obtain⟨callee,args,argTypes⟩:=c
  unfold bhop at hv
  simp only at hv
  split at hv
  ·rename_i b
   split at hv
   ·rename_i hb
    subst hb
    split at hv
    ·rename_i x y hxy
     obtain rfl:args=#[x,y]:=Array.ext' hxy
     have ee:execOp ρ' { dst:=dst,op:=.call { callee:=.builtin .append,args:=#[x,y],argTypes:=argTypes },type:=ty,pos:=pos,after:=after,guard:=guard }=(do pure (.value (← Builtin.append_ argTypes ty #[ρ' x,ρ' y]))):=by
      simp only[execOp,resolve,invoke,List.map_toArray,List.map_cons,List.map_nil]
      rfl
     rw[ee]
     unfold iB at hv
     split at hv
     ·rename_i r h1
      obtain rfl:=a6 hv
      exact StepN.of (pF (ty:=ty) hr hlo (hρ x (by simp[Call.operands])) (hρ y (by simp[Call.operands])) h1 hw)
     ·exact StepN.of (pA (ty:=ty) hr hlo (hρ x (by simp[Call.operands])) (hρ y (by simp[Call.operands])) hv hw)
    ·cases hv
   ·split at hv
    ·rename_i hb
     subst hb
     split at hv
     ·rename_i x y hxy
      obtain rfl:args=#[x,y]:=Array.ext' hxy
      have ee:execOp ρ' { dst:=dst,op:=.call { callee:=.builtin .copy,args:=#[x,y],argTypes:=argTypes },type:=ty,pos:=pos,after:=after,guard:=guard }=(do pure (.value (← Builtin.copy_ argTypes ty #[ρ' x,ρ' y]))):=by
       simp only[execOp,resolve,invoke,List.map_toArray,List.map_cons,List.map_nil]
       rfl
      rw[ee]
      exact StepN.of (tA (ty:=ty) hr (hρ x (by simp[Call.operands])) (hρ y (by simp[Call.operands])) hv hw)
     ·cases hv
    ·split at hv
     ·rename_i hb
      subst hb
      split at hv
      ·rename_i x hxy
       obtain rfl:args=#[x]:=Array.ext' hxy
       cases hq:iD (ρ x) with
       | none=>rw[hq] at hv;cases hv
       | some v0 =>
        rw[hq] at hv
        obtain⟨rfl,rfl,rfl⟩:v0=v∧h=h'∧none=wr:=by simpa using hv
        have ee:execOp ρ' { dst:=dst,op:=.call { callee:=.builtin .unsafeSliceData,args:=#[x],argTypes:=argTypes },type:=ty,pos:=pos,after:=after,guard:=guard }=(do pure (.value (← Builtin.unsafeSliceData_ argTypes ty #[ρ' x]))):=by
         simp only[execOp,resolve,invoke,List.map_toArray,List.map_cons,List.map_nil]
         rfl
        rw[ee]
        obtain⟨v',h4,h5⟩:=lW (P:=P) (hρ x (by simp[Call.operands])) hq argTypes ty w
        exact StepN.of (.pure hr h4 h5)
      ·cases hv
     ·split at hv
      ·rename_i hb
       subst hb
       split at hv
       ·rename_i x y hxy
        obtain rfl:args=#[x,y]:=Array.ext' hxy
        have ee:execOp ρ' { dst:=dst,op:=.call { callee:=.builtin .unsafeString,args:=#[x,y],argTypes:=argTypes },type:=ty,pos:=pos,after:=after,guard:=guard }=(do pure (.value (← Builtin.unsafeString_ argTypes ty #[ρ' x,ρ' y]))):=by
         simp only[execOp,resolve,invoke,List.map_toArray,List.map_cons,List.map_nil]
         rfl
        rw[ee]
        exact StepN.of (qP (ty:=ty) hr (hρ x (by simp[Call.operands])) (hρ y (by simp[Call.operands])) hv hw)
       ·cases hv
      ·cases hv
  ·cases hv
 all_goals (cases hv;done)
end Go.Rex
namespace Go.Rex
open Go.RowKit
structure Ctx where
 call:FuncId→List Value→List Blk→AOut
 round:Nat→List Value→List Blk→AOut
structure AS where
 tm:List Value
 df:List Nat
def nth:List Value→Nat→Value
 | [],_=>undef
 | v::_,0=>v
 | _::l,n+1=>nth l n
theorem iE:∀(l:List Value) (n:Nat),nth l n=l[n]?.getD undef
 | [],n=>by simp[nth]
 | v::l,0=>by simp[nth]
 | v::l,n+1=>by simp[nth,iE l n]
def ev(tm:List Value):Operand→Value
 | .tmp t=>nth tm t
 | .const v=>v
 | .global g=>.pointer (some ⟨g,0,none⟩)
 | .func f=>.func (.func f) #[] #[]
def aN(tm:List Value)(dst:Option Tmp)(v:Value):List Value:=
 match dst with
 | some d=>tm.set d v
 | none=>tm
def wmin:Option Nat→Option Nat→Option Nat
 | none,b=>b
 | a,none=>a
 | some a,some b=>some (min a b)
def wge(wr:Option Nat)(k:Nat):Bool:=match wr with|none=>true|some n=>decide (k≤n)
def Cd(P:Program)(g:FuncId)(args:List Value):Option Value:=
 if args.all aR=true then
  match prun P (callFunc g ⟨args⟩) with
  | some (.value v)=>if aP v=true then some v else none
  | _=>none
 else none
def Aj (fd : Func) : Bool := fd.name == "internal/abi.NoEscape" && (Extern.findNext fd).isNone
def zA (fd : Func) : Bool := fd.name == "internal/bytealg.MakeNoZero" && (Extern.findNext fd).isNone
def Am (fd : Func) : Bool := (fd.name == "math.archTrunc" || (fd.name == "math.archFloor" || fd.name == "math.archCeil")) && (Extern.findNext fd).isNone
def Aa(P:Program)(fd:Func)(args:List Value)(h:List Blk):AOut:=
 match args with
 | [x] =>
  if Aj fd=true then some (x,h,none)
  else if zA fd=true then match x with
   | .int .i64 n=>match fd.resultTypes.toList with
    | [t]=>match P.underlying t with
     | some (.slice e)=>if 0≤n∧n≤281474976710656 then some (.slice (some ⟨h.length,0,none⟩) n.toNat n.toNat,h++[.tcells e 1 (List.replicate n.toNat ubyte)],none) else none
     | _=>none
    | _=>none
   | _=>none
  else if Am fd=true then match x with
   | .float .f64 b=>if eE .f64 b=true then some (x,h,none) else none
   | _=>none
  else none
 | _=>none
def zH(P:Program)(g:FuncId)(fd:Func)(args:List Value)(h:List Blk):AOut:=
 match Cd P g args with
 | some v=>some (v,h,none)
 | none=>Aa P fd args h
def xcall(C:Ctx)(P:Program)(ρ:Operand→Value)(c:Call)(h:List Blk):AOut:=
 match c.callee with
 | .value f=>match ρ f with
  | .func fn ⟨first⟩ ⟨captured⟩=>match fn with
   | .func g=>match P.funcs[g]? with
    | some fd=>match fd.body with
     | some _ => if (fd.name == "runtime.NumGoroutine") = false then C.call g (first ++ (c.args.toList.map ρ ++ captured)) h else none
     | none=>zH P g fd (first++(c.args.toList.map ρ++captured)) h
    | none=>none
   | .yield l=>C.round l (c.args.toList.map ρ) h
   | _=>none
  | _=>none
 | _=>none
def xop(C:Ctx)(P:Program)(ρ:Operand→Value)(o:Oper)(h:List Blk):AOut:=
 match hop P ρ o h with
 | some r=>some r
 | none=>match o.op with
  | .call c=>xcall C P ρ c h
  | _=>none
def oB(o:Oper):Bool:=o.op.operands.toList.all fL
def vV(ops:List Oper):Bool:=ops.all oB
def bL(C:Ctx)(P:Program)(ops:Array Oper):List Oper→List Value→List Blk→Option (List Value×List Blk×Option Nat)
 | [],tm,h=>some (tm,h,none)
 | o::rest,tm,h =>
  if Region.wanted o (yielded ops ⟨tm⟩)=true then
   match pop P (ev tm) o with
   | some v=>bL C P ops rest (aN tm o.dst v) h
   | none =>
    match xop C P (ev tm) o h with
    | some (v,h1,w1)=>(bL C P ops rest (aN tm o.dst v) h1).map fun (a2,h2,w2)=>(a2,h2,wmin w1 w2)
    | none=>none
  else bL C P ops rest (aN tm o.dst undef) h
def aC:List Nat→Nat→Nat
 | [],_=>0
 | v::_,0=>v
 | _::l,n+1=>aC l n
def waits(ms:List Nat):List Edge→Nat
 | []=>0
 | e::es=>if Region.binds .any e=true then waits ms es ||| (2^e.on ||| aC ms e.on) else waits ms es
def masks:List Oper→List Nat→List Nat
 | [],ms=>ms
 | o::os,ms=>masks os (ms++[waits ms o.after.toList])
def dsts:List Oper→Nat→List (Nat×Nat)
 | [],_=>[]
 | o::os,i=>match o.dst with
  | some d=>(d,i)::dsts os (i+1)
  | none=>dsts os (i+1)
def rK:List (Nat×Nat)→Bool
 | []=>true
 | (d,_)::l=>l.all (fun p=>p.1 != d)&&rK l
def uC(ms:List Nat)(m i t:Nat)(ds:List (Nat×Nat)):Bool:=
 ds.all fun p=>p.1 != t||p.2==i||m.testBit p.2||(aC ms p.2).testBit i
def rA(ops:Array Oper)(ms:List Nat)(ds:List (Nat×Nat)):List Oper→Nat→Bool
 | [],_=>true
 | o::os,i=>oB o&&(decide (aC ms i<2^i)&&((o.looksAt ops).all (fun t=>uC ms (aC ms i) i t ds)&&rA ops ms ds os (i+1)))
def kM(ops:Array Oper):Bool:=
 let ms:=masks ops.toList []
 let ds:=dsts ops.toList 0
 rK ds&&rA ops ms ds ops.toList 0
def Br(o:Oper):Bool:=
 match o.op with
 | .alloc _=>true
 | .box _ _=>true
 | .buildSlice _ _ _=>true
 | .makeSlice _ _ _=>true
 | .makeMap _ _=>true
 | .load _ _=>true
 | .slice _ _ _ _ _=>true
 | .lookup _ _ _ _=>true
 | .store _ _ _=>true
 | .mapUpdate _ _ _ _=>true
 | .insert _ _ _ _=>true
 | .call c=>match c.callee with
  | .builtin b=>b==.append||b==.copy
  | _=>true
 | _=>false
def Cj(o:Oper):Bool:=
 match o.op with
 | .store _ _ _=>true
 | .mapUpdate _ _ _ _=>true
 | .insert _ _ _ _=>true
 | .call c=>match c.callee with
  | .builtin b=>b==.append
  | _=>false
 | _=>false
def beside(ms:List Nat)(i mi:Nat):List Oper→Nat→Bool
 | [],_=>false
 | o::os,j=>(Br o&&i != j&&!mi.testBit j&&!(aC ms j).testBit i)||beside ms i mi os (j+1)
def needs(ms:List Nat)(l:List Oper):List Oper→Nat→Bool
 | [],_=>false
 | o::os,i=>(Cj o&&beside ms i (aC ms i) l 0)||needs ms l os (i+1)
def eQ(ops:Array Oper):Bool:=needs (masks ops.toList []) ops.toList ops.toList 0
def kA(ops:Array Oper):Bool:=kM ops&&!eQ ops
def oG(ops:Array Oper):Bool:=kM ops&&eQ ops
structure Dr where
 tm:List Value
 h:List Blk
 np:List Nat
 chain:Bool
 wr:Option Nat
def fA(m i:Nat)(o:Oper)(s:Dr)(r:AOut):Option Dr:=
 match r with
 | some (v,h1,w1) =>
  if s.chain=false∧wge w1 s.h.length=true then
   (if h1.length=s.h.length then some { tm:=aN s.tm o.dst v,h:=s.h,np:=i::s.np,chain:=false,wr:=s.wr }
    else some { tm:=aN s.tm o.dst v,h:=s.h++h1.drop s.h.length,np:=i::s.np,chain:=false,wr:=s.wr })
  else if s.np.all (fun j=>m.testBit j)=true∧s.h.length≤h1.length then some { tm:=aN s.tm o.dst v,h:=h1,np:=i::s.np,chain:=true,wr:=wmin s.wr w1 }
  else none
 | none=>none
def bP(C:Ctx)(P:Program)(ops:Array Oper)(m i:Nat)(o:Oper)(s:Dr):Option Dr:=
 if Region.wanted o (yielded ops ⟨s.tm⟩)=true then
  match pop P (ev s.tm) o with
  | some v=>some { s with tm:=aN s.tm o.dst v }
  | none=>fA m i o s (xop C P (ev s.tm) o s.h)
 else some { s with tm:=aN s.tm o.dst undef }
def aV(C:Ctx)(P:Program)(ops:Array Oper)(ms:List Nat):List Oper→Nat→Dr→Option Dr
 | [],_,s=>some s
 | o::rest,i,s=>match bP C P ops (aC ms i) i o s with
  | some s'=>aV C P ops ms rest (i+1) s'
  | none=>none
def dK(C:Ctx)(P:Program)(ops:Array Oper)(tm:List Value)(h:List Blk):Option (List Value×List Blk×Option Nat):=
 if kA ops=true then
  (aV C P ops (masks ops.toList []) ops.toList 0 { tm,h,np:=[],chain:=false,wr:=none }).map fun s=>(s.tm,s.h,s.wr)
 else none
inductive Tk
 | mk
 | all
 | rd (n:Nat)
 | wr (n:Nat)
 | ap (n n2:Nat)
def wrT:Tk→Option Nat
 | .wr n=>some n
 | .ap n _=>some n
 | _=>none
def eF:Tk→Nat→Bool
 | .rd n',n=>n'==n
 | .wr n',n=>n'==n
 | .ap a b,n=>a==n||b==n
 | _,_=>false
structure Rc where
 i:Nat
 l0:Nat
 l1:Nat
 k:Tk
structure Fr where
 tm:List Value
 h:List Blk
 rs:List Rc
 b:Nat
 bar:Option Nat
 wr:Option Nat
def aB:Value→Option Nat
 | .pointer (some ⟨n,_,none⟩)=>some n
 | .slice (some ⟨n,_,none⟩) _ _=>some n
 | .map (some n)=>some n
 | _=>none
def touch(ρ:Operand→Value)(o:Oper):Option Tk:=
 match o.op with
 | .alloc _=>some .mk
 | .box _ _=>some .mk
 | .buildSlice _ _ _=>some .mk
 | .makeSlice _ _ _=>some .mk
 | .makeMap _ _=>some .mk
 | .binOp _ _ _ _ _=>some .mk
 | .load _ a=>(aB (ρ a)).map .rd
 | .slice _ x _ _ _=>(aB (ρ x)).map .rd
 | .lookup _ x _ _=>match aB (ρ x) with
  | some n=>some (.rd n)
  | none=>some .mk
 | .store _ a _=>(aB (ρ a)).map .wr
 | .mapUpdate _ x _ _=>(aB (ρ x)).map .wr
 | .insert _ x _ _=>(aB (ρ x)).map .wr
 | .call c=>match c.callee with
  | .builtin b=>if b = .append then match c.args.toList with
   | [x,y]=>match ρ y with
    | .slice (some ⟨n2,_,none⟩) (_+1) _=>match ρ x with
     | .slice none 0 0=>some (.rd n2)
     | .slice (some ⟨n,_,none⟩) _ _=>if n=n2 then none else some (.ap n n2)
     | _=>none
    | _=>none
   | _=>none
   else none
  | _=>none
 | _=>none
def hidden(rs:List Rc)(b n j mj:Nat):Bool:=decide (b≤n)&&rs.all fun r=>!(decide (r.l0≤n)&&decide (n<r.l1))||(r.i != j&&!mj.testBit r.i)
def rS(m:Nat)(rs:List Rc)(n:Nat):Bool:=rs.all fun r=>wrT r.k != some n||m.testBit r.i
def yD(m i:Nat)(rs:List Rc)(b:Nat):Bool:=rs.all fun r=>match wrT r.k with
 | some n'=>hidden rs b n' i m||m.testBit r.i
 | none=>true
def sB(ms:List Nat)(m:Nat)(rs:List Rc)(b n:Nat):Bool:=rs.all fun r=>match r.k with
 | .all=>hidden rs b n r.i (aC ms r.i)||m.testBit r.i
 | k=>!eF k n||m.testBit r.i
def iR(m:Nat):Option Nat→Bool
 | none=>true
 | some q=>m.testBit q
def dQ(ms:List Nat)(m i:Nat)(ρ:Operand→Value)(o:Oper)(s:Fr)(r:AOut):Option Fr:=
 match r with
 | some (v,h1,w1) =>
  if iR m s.bar=true then
   match touch ρ o with
   | some .mk=>some { s with tm:=aN s.tm o.dst v,h:=h1,rs:=⟨i,s.h.length,h1.length,.mk⟩::s.rs }
   | some (.rd n)=>if rS m s.rs n=true then some { s with tm:=aN s.tm o.dst v,h:=h1,rs:=⟨i,s.h.length,h1.length,.rd n⟩::s.rs } else none
   | some (.wr n)=>if sB ms m s.rs s.b n=true then some { s with tm:=aN s.tm o.dst v,h:=h1,rs:=⟨i,s.h.length,s.h.length,.wr n⟩::s.rs,wr:=wmin s.wr w1 } else none
   | some (.ap n n2)=>if sB ms m s.rs s.b n=true∧rS m s.rs n2=true then some { s with tm:=aN s.tm o.dst v,h:=h1,rs:=⟨i,s.h.length,h1.length,.ap n n2⟩::s.rs,wr:=wmin s.wr w1 } else none
   | _ =>
    if wge w1 s.h.length=true∧s.h.length≤h1.length∧yD m i s.rs s.b=true then
     some { s with tm:=aN s.tm o.dst v,h:=s.h++h1.drop s.h.length,rs:=⟨i,s.h.length,h1.length,.all⟩::s.rs }
    else if s.rs.all (fun r=>m.testBit r.i)=true∧s.h.length≤h1.length then
     some { tm:=aN s.tm o.dst v,h:=h1,rs:=[],b:=h1.length,bar:=some i,wr:=wmin s.wr w1 }
    else none
  else none
 | none=>none
def bN(C:Ctx)(P:Program)(ops:Array Oper)(ms:List Nat)(m i:Nat)(o:Oper)(s:Fr):Option Fr:=
 if Region.wanted o (yielded ops ⟨s.tm⟩)=true then
  match pop P (ev s.tm) o with
  | some v=>some { s with tm:=aN s.tm o.dst v }
  | none=>dQ ms m i (ev s.tm) o s (xop C P (ev s.tm) o s.h)
 else some { s with tm:=aN s.tm o.dst undef }
def aU(C:Ctx)(P:Program)(ops:Array Oper)(ms:List Nat):List Oper→Nat→Fr→Option Fr
 | [],_,s=>some s
 | o::rest,i,s=>match bN C P ops ms (aC ms i) i o s with
  | some s'=>aU C P ops ms rest (i+1) s'
  | none=>none
def dY(C:Ctx)(P:Program)(ops:Array Oper)(tm:List Value)(h:List Blk):Option (List Value×List Blk×Option Nat):=
 if oG ops=true then
  (aU C P ops (masks ops.toList []) ops.toList 0 { tm,h,rs:=[],b:=h.length,bar:=none,wr:=none }).map fun s=>(s.tm,s.h,s.wr)
 else none
def cG(C:Ctx)(P:Program)(ops:Array Oper)(tm:List Value)(h:List Blk):Option (List Value×List Blk×Option Nat):=
 if eQ ops=true then dY C P ops tm h else dK C P ops tm h
theorem sR{C:Ctx}{P:Program}{ops:Array Oper}{tm:List Value}{h:List Blk}{r:List Value×List Blk×Option Nat}(h1:dK C P ops tm h=some r):cG C P ops tm h=some r:=by
 unfold cG
 split
 ·rename_i hn
  unfold dK at h1
  split at h1
  ·rename_i hd
   simp only[kA,hn,Bool.not_true,Bool.and_false] at hd
   cases hd
  ·cases h1
 ·exact h1
theorem sH{C:Ctx}{P:Program}{ops:Array Oper}{tm:List Value}{h:List Blk}{r:List Value×List Blk×Option Nat}(h1:dY C P ops tm h=some r):cG C P ops tm h=some r:=by
 unfold cG
 split
 ·exact h1
 ·rename_i hn
  unfold dY at h1
  split at h1
  ·rename_i hd
   simp only[oG,hn,Bool.and_false] at hd
   cases hd
  ·cases h1
abbrev EOut:=Option (Exit×AS×List Blk×Option Nat)
def mH(df:List Nat)(r:Option (List Value×List Blk×Option Nat)):EOut:=r.map fun (tm,h,w)=>(.normal,⟨tm,df⟩,h,w)
def jZ(ro:Option Nat)(h:List Blk):Option (List Blk×Nat×List Nat):=
 match ro with
 | none=>some (h++[.dfr],h.length,[h.length])
 | some l=>match h[l]? with
  | some (.loop _ _ _ _ _ _ d)=>some (h,d,[])
  | _=>none
def lA(a':AS)(l:Nat)(h2:List Blk)(w2:Option Nat):EOut:=
 match h2[l]? with
 | some (.loop st pend _ _ _ _ _) =>
  if st = .busy then none else
  match pend with
  | none=>some (.normal,a',h2.set l .dead,w2)
  | some c=>match c with
   | .ret=>some (.ret,a',h2.set l .dead,w2)
   | .exit id=>some (.exit id,a',h2.set l .dead,w2)
   | _=>none
 | _=>none
def eT(C:Ctx)(P:Program)(ro:Option Nat)(g:Operand)(ps:Array Tmp)(assign body:Code)(a:AS)(h:List Blk):EOut:=
 if fL g=true then
 match ev a.tm g with
 | .func fn ⟨first⟩ ⟨captured⟩=>match fn with
  | .func gf=>match P.funcs[gf]? with
   | some fd => if fd.body.isSome = true ∧ (fd.name == "runtime.NumGoroutine") = false then
       match jZ ro h with
       | none=>none
       | some (h1,d,mark) =>
        match C.call gf (first++([.func (.yield h1.length) #[] #[]]++captured)) (h1++[.loop .ready none a.tm ps assign body d]) with
        | some (_,h2,w2)=>lA ⟨a.tm,mark++a.df⟩ h1.length h2 w2
        | none=>none
    else none
   | none=>none
  | _=>none
 | _=>none
 else none
def exec(C:Ctx)(P:Program)(ro:Option Nat):Nat→Code→AS→List Blk→EOut
 | 0,_,_,_=>none
 | k+1,c,a,h=>match c with
  | .skip=>some (.normal,a,h,none)
  | .label _=>some (.normal,a,h,none)
  | .exit id=>some (.exit id,a,h,none)
  | .ret=>some (.ret,a,h,none)
  | .seq x y=>match exec C P ro k x a h with
   | none=>none
   | some (e,a1,h1,w1)=>match e with
    | .normal=>(exec C P ro k y a1 h1).map fun (e2,a2,h2,w2)=>(e2,a2,h2,wmin w1 w2)
    | _=>some (e,a1,h1,w1)
  | .cond c x y => if fL c = true then match ev a.tm c with
      | .bool t=>match t with
       | true=>exec C P ro k x a h
       | false=>exec C P ro k y a h
      | _=>none
   else none
  | .block id b=>match exec C P ro k b a h with
   | none=>none
   | some (e,a1,h1,w1)=>match e with
    | .exit id'=>if id'=id then some (.normal,a1,h1,w1) else some (.exit id',a1,h1,w1)
    | _=>some (e,a1,h1,w1)
  | .loop b=>match exec C P ro k b a h with
   | none=>none
   | some (e,a1,h1,w1)=>match e with
    | .normal=>(exec C P ro k (.loop b) a1 h1).map fun (e2,a2,h2,w2)=>(e2,a2,h2,wmin w1 w2)
    | _=>some (e,a1,h1,w1)
  | .region _ ops draw=>match draw with
   | true=>mH a.df (cG C P ops a.tm h)
   | false=>if vV ops.toList=true then mH a.df (bL C P ops ops.toList a.tm h) else none
  | .rangeFunc g ps assign body=>eT C P ro g ps assign body a h
  | _=>none
def aK:List Nat→List Blk→Option (List Blk×Option Nat)
 | [],h=>some (h,none)
 | n::ds,h=>match h[n]? with
  | some .dfr=>(aK ds (h.set n .dead)).map fun (h2,w)=>(h2,wmin (some n) w)
  | _=>none
def xG(P:Program)(h:List Blk)(tm:List Value):ResultVar→Option Value
 | .tmp t=>some (nth tm t)
 | .cell a t=>match nth tm a with
  | .pointer (some ⟨n,o,none⟩)=>gM P t h n o
  | _=>none
def fC(P:Program)(h:List Blk)(tm:List Value):List ResultVar→Option (List Value)
 | []=>some []
 | r::rs=>match xG P h tm r with
  | some v=>(fC P h tm rs).map fun vs=>v::vs
  | none=>none
def bR:List Value→Value
 | [v]=>v
 | vs=>.tuple ⟨vs⟩
def cW(P:Program)(fd:Func)(n0:Nat)(h:List Blk)(a1:AS)(h1:List Blk)(w1:Option Nat):AOut:=
 match aK a1.df h1 with
 | some (h2,w2)=>match fC P h2 a1.tm fd.results.toList with
  | some vs =>
   if aP (bR vs)=true then
    (if wge (wmin w1 w2) n0=true then some (bR vs,h,none) else some (bR vs,h2,wmin w1 w2))
   else if wge (wmin w1 w2) n0=true then some (bR vs,h2,none) else some (bR vs,h2,wmin w1 w2)
  | none=>none
 | none=>none
def cC(C:Ctx)(P:Program)(k:Nat)(f:FuncId)(args:List Value)(h:List Blk):AOut:=
 match P.funcs[f]? with
 | none=>none
 | some fd=>match fd.body with
  | none=>none
  | some c =>
   match exec C P none k c ⟨args++List.replicate (fd.ntmps-args.length) undef,[]⟩ h with
   | some (e,a1,h1,w1)=>match e with
    | .normal=>cW P fd h.length h a1 h1 w1
    | .ret=>cW P fd h.length h a1 h1 w1
    | _=>none
   | none=>none
def lD:List Tmp→List Value→List Value→List Value
 | p::ps,v::vs,tmps=>lD ps vs (tmps.set p v)
 | _,_,tmps=>tmps
def fJ(l:Nat)(jump:Option Code)(h2:List Blk)(w:Option Nat):AOut:=
 match h2[l]? with
 | some (.loop _ _ t3 p3 as3 b3 d3)=>some (.bool jump.isNone,h2.set l (.loop (if jump.isNone then .ready else .done) jump t3 p3 as3 b3 d3),wmin (some l) w)
 | _=>none
def gG(C:Ctx)(P:Program)(k:Nat)(l:Nat)(args:List Value)(h:List Blk):AOut:=
 match h[l]? with
 | some (.loop st _ tmps ps assign body _) =>
  if st = .ready∧args.length=ps.size then
   match exec C P (some l) k assign ⟨lD ps.toList args tmps,[]⟩ h with
   | some (e,a1,h1,w1)=>match e with
    | .normal=>match h1[l]? with
     | some (.loop st1 pend1 tmps' ps' as' bd' d') =>
      if st1 = .ready then
      match exec C P (some l) k body a1 (h1.set l (.loop .busy pend1 tmps' ps' as' bd' d')) with
      | some (e2, _, h2, w2) => match e2 with
          | .normal=>fJ l none h2 (wmin w1 w2)
          | .ret=>fJ l (some .ret) h2 (wmin w1 w2)
          | .exit id=>fJ l (some (.exit id)) h2 (wmin w1 w2)
          | _=>none
      | none=>none
      else none
     | _=>none
    | _=>none
   | none=>none
  else none
 | _=>none
def ctx(P:Program)(k:Nat):Nat→Ctx
 | 0=>⟨fun _ _ _=>none,fun _ _ _=>none⟩
 | d+1=>⟨cC (ctx P k d) P k,gG (ctx P k d) P k⟩
def ecall(P:Program)(k d:Nat)(f:FuncId)(args:List Value)(h:List Blk):AOut:=(ctx P k d).call f args h
end Go.Rex
