/- An executor of the program's functions on trees of values,proved sound. -/
import Derived.Test.YtneefkifalbplaaGreatRexG7
import Derived.IntWalk
set_option linter.unusedSimpArgs false
set_option linter.unusedVariables false
set_option linter.defProp false
namespace Go.Rex
open Go.RowKit
def okT(P:Program)(t:TypeId):Bool:=(P.info? t).isSome
def bY(P:Program)(t:TypeId):Option TypeId:=match P.underlying t with|some (.slice e)=>some e|_=>none
def rJ(P:Program)(t:TypeId):Option (Nat×TypeId):=match P.underlying t with|some (.array n e)=>some (n,e)|_=>none
def iG(P:Program)(t:TypeId)(f:Nat):Option (Nat×TypeId):=match P.underlying t with
 | some (.struct fields)=>match fields[f]? with
  | some fd=>if (P.info? fd.type).isSome=true∧P.cellsOf fd.type≠0 then some (fd.offset,fd.type) else none
  | none=>none
 | _=>none
def mN(P:Program)(t:TypeId):Option (List (Nat×Nat)):=match P.underlying t with
 | some (.struct fields)=>if fields.all (fun f=>(P.info? f.type).isSome)=true then some (fields.toList.map fun f=>(f.offset,P.cellsOf f.type)) else none
 | _=>none
def Ri(P:Program)(t:TypeId):Option (List Value):=match P.info? t with
 | some i=>match i.zero with
  | some z=>if bN z=true∧z.cells.toList.all rT=true∧z.cells.size=i.size then some z.cells.toList else none
  | none=>none
 | none=>none
def fQ(P:Program)(t:TypeId):Option (List Value):=if Ji P t=true then none else Ri P t
theorem Fe{P:Program}{t:TypeId}{z:List Value}(h:fQ P t=some z):Ji P t=false∧Ri P t=some z:=by
 unfold fQ at h
 split at h
 ·cases h
 ·rename_i hs;exact⟨by simpa using hs,h⟩
def mW(P:Program)(t:TypeId):Nat:=match P.info? t with|some i=>i.bytes|none=>0
def tcells:TV→List TV
 | .agg l=>l
 | p=>[p]
def jH:TV→Bool
 | .Z=>true
 | _=>false
def tone:TV→Bool
 | .agg _=>false
 | .tuple _=>false
 | .Z=>false
 | _=>true
def tsplice(c:List TV)(o:Nat)(l:List TV):List TV:=c.take o++l++c.drop (o+l.length)
def tfill(place:Nat→Option (Nat×Nat)):List TV→List (Nat×TV)→Option (List TV)
 | c,[]=>some c
 | c,(i,p)::ps=>match place i with
  | none=>none
  | some (off,size)=>if jH p=true then none else if (tcells p).length=size∧off+size≤c.length then tfill place (tsplice c off (tcells p)) ps else none
def tbuild(P:Program)(t:TypeId)(parts:List (Nat×TV)):Option TV:=
 match fQ P t with
 | none=>none
 | some z=>match mN P t with
  | some pl=>(tfill (pl[·]?) (z.map .v) parts).map .agg
  | none=>match rJ P t with
   | some (_,e)=>if okT P e=true then (tfill (fun k=>some (k*P.cellsOf e,P.cellsOf e)) (z.map .v) parts).map .agg else none
   | none=>none
def bA(P:Program)(t:TypeId)(row:List TV)(o:Nat):Option TV:=
 match nH P t with
 | some true=>if okT P t=true∧o+P.cellsOf t≤row.length then some (.agg ((row.drop o).take (P.cellsOf t))) else none
 | some false=>row[o]?
 | none=>none
def tidx(rows:List (List TV))(i:Int):Option (List TV):=if 0≤i then rows[i.toNat]? else none
def aB(P:Program)(hp:List TB)(t:TypeId)(x ix:TV):Option TV:=
 match ix with
 | .v (.int _ i)=>match bY P t with
  | some e => if okT P e = true then match x with
      | .list es rows=>if P.cellsOf e=es then (tidx rows i).map fun row=>.fptr false row 0 else none
      | .lsl n o len=>match hp[n]? with
       | some (.rows es _)=>if 0≤i∧i<len∧P.cellsOf e=es then some (.lptr n (o+i.toNat) 0) else none
       | _=>none
      | _=>none
   else none
  | none=>match rJ P t with
   | some (n, e) => if 0 ≤ i ∧ i < n ∧ okT P e = true then match x with
       | .fptr vb row o=>some (.fptr vb row (o+i.toNat*P.cellsOf e))
       | .lptr b r o=>some (.lptr b r (o+i.toNat*P.cellsOf e))
       | _=>none
    else none
   | none=>none
 | _=>none
def bC(P:Program)(t:TypeId)(x:TV)(f:Nat):Option TV:=
 match iG P t f with
 | some (off,_)=>match x with
  | .fptr vb row o=>some (.fptr vb row (o+off))
  | .lptr b r o=>some (.lptr b r (o+off))
  | _=>none
 | none=>none
def tfield(P:Program)(t:TypeId)(x:TV)(f:Nat):Option TV:=
 match iG P t f,x with
 | some (off,ft),.agg row=>bA P ft row off
 | _,_=>none
def tindex(P:Program)(t:TypeId)(x ix:TV):Option TV:=
 match rJ P t,x,ix with
 | some (n,e),.agg row,.v (.int _ i)=>if 0≤i∧i<n∧okT P e=true then bA P e row (i.toNat*P.cellsOf e) else none
 | _,_,_=>none
def tlen(P:Program)(t:Option TypeId)(x:TV):Option TV:=
 match t with
 | none=>none
 | some t=>match bY P t with
  | none=>none
  | some _=>match x with
   | .list _ rows=>some (.v (.int .i64 rows.length))
   | .lsl _ _ len=>some (.v (.int .i64 len))
   | _=>none
def erased(tm:List TV)(x:Operand):Value:=(er 3 (tev tm x)).getD undef
def tgen(P:Program)(tm:List TV)(o:Oper):Option TV:=
 if o.op.operands.toList.all (fun x=>(er 3 (tev tm x)).isSome)=true then
  match Rex.pop P (erased tm) o with
  | some v=>if pD 3 v=true then some (inj 3 v) else none
  | none=>none
 else none
def orT(a:Option TV)(b:Option TV):Option TV:=match a with|some x=>some x|none=>b
def tpick(c a b:TV):Option TV:=match c with
 | .v (.bool t)=>(match t with|true=>some a|false=>some b)
 | _=>none
def tbin(op:BinOp)(x y:TV):Option TV:=match x,y with
 | .v a,.v b=>(cQ op a b).map .v
 | _,_=>none
def tpop(P:Program)(hp:List TB)(tm:List TV)(o:Oper):Option TV:=
 match o.op with
 | .move x=>some (tev tm x)
 | .assign x=>some (tev tm x)
 | .pick c a b=>tpick (tev tm c) (tev tm a) (tev tm b)
 | .nilCheck x=>match tev tm x with
  | .func f a b=>some (.func f a b)
  | .fptr vb r o=>some (.fptr vb r o)
  | .lptr n r o=>some (.lptr n r o)
  | _=>none
 | .build t ps=>tbuild P t (ps.toList.map fun q=>(q.1,tev tm q.2))
 | .makeFunc fn first caps=>match fn with
  | .func f=>if (first.toList.all fun x=>lf 4 (tev tm x))&&(caps.toList.all fun x=>lf 4 (tev tm x)) then some (.func f (first.toList.map (tev tm)) (caps.toList.map (tev tm))) else none
  | _=>none
 | .extract t i=>match tev tm t with
  | .tuple l=>l[i]?
  | _=>none
 | .fieldAddr t x f=>bC P t (tev tm x) f
 | .indexAddr t x ix=>aB P hp t (tev tm x) (tev tm ix)
 | .field t x f=>tfield P t (tev tm x) f
 | .index t x ix=>orT (tindex P t (tev tm x) (tev tm ix)) (tgen P tm o)
 | .call c=>match c.callee with
  | .builtin b => if b = .len then match c.args.toList with
      | [x]=>orT (tlen P c.argTypes[0]? (tev tm x)) (tgen P tm o)
      | _=>none
   else tgen P tm o
  | _=>none
 | .binOp op _ x y _=>orT (tbin op (tev tm x) (tev tm y)) (tgen P tm o)
 | _=>tgen P tm o
section
variable {P:Program} {Fz:Nat→Prop} {h h0:List Blk} {L:Nat→LI}
theorem Ql{ρ ρ':Operand→Value}{o:Oper}(hx:∀ x∈o.op.operands,ρ x=ρ' x):nG P ρ o=nG P ρ' o:=by
 have e1:o.op.operands.toList.all (fun x=>cU (ρ x))=o.op.operands.toList.all (fun x=>cU (ρ' x)):=by
  rw[Bool.eq_iff_iff,List.all_eq_true,List.all_eq_true]
  exact⟨fun h x hm=>by rw[← hx x (by simpa using hm)];exact h x hm,fun h x hm=>by rw[hx x (by simpa using hm)];exact h x hm⟩
 unfold nG
 rw[e1]
 split
 ·rfl
 ·rename_i hs
  rw[execOp_congr o (fun cs b e=>hs cs b e) hx]
theorem Dv{ρ ρ':Operand→Value}{ps:Array (Nat×Operand)}(hx:∀ x∈(ps.toList.map (·.2)).toArray,ρ x=ρ' x):fM ρ ps=fM ρ' ps:=by
 unfold fM
 apply Array.map_congr_left
 intro p hp
 obtain⟨i,x⟩:=p
 simp only[hx x (by simp;exact⟨i,hp⟩)]
theorem Hb{ρ ρ':Operand→Value}{xs:Array Operand}(hx:∀ x∈xs,ρ x=ρ' x):xs.map ρ=xs.map ρ':=Array.map_congr_left hx
theorem Pq{ρ ρ':Operand→Value}{o:Oper}(hx:∀ x∈o.op.operands,ρ x=ρ' x):Rex.pop0 P ρ o=Rex.pop0 P ρ' o:=by
 have hg:=Ql (P:=P) hx
 obtain⟨dst,op,ty,pos,after,guard⟩:=o
 cases op<;>simp only[Op.operands] at hx<;>simp only[Rex.pop0]<;>try exact hg
 case move x=>rw[hx x (by simp)]
 case assign x=>rw[hx x (by simp)]
 case pick c a b=>rw[hx c (by simp),hx a (by simp),hx b (by simp)]
 case build t ps=>rw[Dv hx]
 case nilCheck x=>rw[hx x (by simp)]
 case sliceToArrayPointer t x=>rw[hx x (by simp)]
 case binOp op t x y u=>rw[hx x (by simp),hx y (by simp)];simp only[oS,hg]
 case makeFunc fn a b=>rw[Hb (xs:=a) fun x hm=>hx x (by simp[hm]),Hb (xs:=b) fun x hm=>hx x (by simp[hm])]
 case fieldAddr t x f=>rw[hx x (by simp)]
 case field t x f=>rw[hx x (by simp)]
 case indexAddr t x ix=>rw[hx x (by simp),hx ix (by simp)]
 case index t x ix=>rw[hx x (by simp),hx ix (by simp)];simp only[oS,hg]
 case extract t i=>rw[hx t (by simp)]
 case call c =>
  obtain⟨callee,args,tys⟩:=c
  unfold bpop
  cases callee with
  | builtin b =>
   simp only
   split
   ·split
    ·rename_i x hxs
     rw[hx x (by
      have:x∈args.toList:=by rw[hxs];simp
      simp[Call.operands];exact by simpa using this)];simp only[oS,hg]
    ·rfl
   ·exact hg
  | _=>rfl
theorem Qn{ρ ρ':Operand→Value}{o:Oper}(hx:∀ x∈o.op.operands,ρ x=ρ' x):Be P ρ o=Be P ρ' o:=by
 obtain⟨dst,op,ty,pos,after,guard⟩:=o
 cases op<;>simp only[Op.operands] at hx<;>simp only[Be]
 case binOp op t x y u=>rw[hx x (by simp),hx y (by simp)]
 case unOp op t x=>rw[hx x (by simp)]
 case convert s d x=>rw[hx x (by simp)]
 case call c =>
  obtain⟨callee,args,tys⟩:=c
  cases callee with
  | builtin b =>
   simp only
   congr 1
   exact List.map_congr_left fun x hm=>hx x (by simp[Call.operands];simpa using hm)
  | _=>rfl
theorem Vg{ρ ρ':Operand→Value}{o:Oper}(hx:∀ x∈o.op.operands,ρ x=ρ' x):Rex.pop P ρ o=Rex.pop P ρ' o:=by
 unfold Rex.pop
 rw[Pq hx,Qn hx]
theorem Rk{tm:List TV}{vm:List Value}(hz:FZ Fz h)(hs:VLs Fz h L tm vm){o:Oper}{p:TV}(hp:tgen P tm o=some p):∃ v,Rex.pop P (ev vm) o=some v∧VL Fz h L p v:=by
 unfold tgen at hp
 split at hp
 ·rename_i hall
  have hx:∀ x∈o.op.operands,ev vm x=erased tm x:=by
   intro x hm
   have h1:=List.all_eq_true.1 hall x (by simpa using hm)
   obtain⟨y,hy⟩:=Option.isSome_iff_exists.1 h1
   rw[(dU hz hs x).er 3 hy,erased,hy]
   rfl
  rw[Vg hx]
  split at hp
  ·rename_i v hv
   split at hp
   ·rename_i hi
    obtain rfl:=Option.some.inj hp
    exact⟨v,hv,VL.inj 3 hi⟩
   ·cases hp
  ·cases hp
 ·cases hp
theorem vX{p:TV}{x:Value}(hp:VL Fz h L p x)(hj:jH p=false):VLs Fz h L (tcells p) x.cells.toList:=by
 have one:∀ q y,VL Fz h L q y→VLs Fz h L [q] [y]:=fun q y hq=>VLs.cons hq VLs.nil
 cases hp with
 | Z=>simp[jH] at hj
 | v _ x hx =>
  have:x.cells.toList=[x]:=by
   cases x<;>first|rfl|(simp[rT] at hx)
  rw[this]
  exact one _ _ (.v L x hx)
 | agg _ l l' hl ha=>exact⟨hl,ha⟩
 | tuple _ l l' hl ha=>exact one _ _ (.tuple L l l' hl ha)
 | func _ f a b a' b' la ha lb hb=>exact one _ _ (.func L f a b a' b' la ha lb hb)
 | nillist _ es=>exact one _ _ (.nillist L es)
 | vague _ es=>exact one _ _ (.vague L es)
 | list _ es rows n o c cs eb hn hb he hw hc hle ha=>exact one _ _ (.list L es rows n o c cs eb hn hb he hw hc hle ha)
 | fptr _ vb row off n base es cs hn hb hv hle ha=>exact one _ _ (.fptr L vb row off n base es cs hn hb hv hle ha)
 | lptr _ n r o nm ok hn=>exact one _ _ (.lptr L n r o nm ok hn)
 | lslnil _ n ok hn=>exact one _ _ (.lslnil L n ok hn)
 | lsl _ n o len nm ok hn hle=>exact one _ _ (.lsl L n o len nm ok hn hle)
theorem oE:∀(l:List Value) (k:Nat) (off:Nat) (c:Array Value),off+k+l.length≤c.size →
 ((l.zipIdx k).foldl (fun (cs:Array Value) (x:Value×Nat)=>cs.setIfInBounds (off+x.2) x.1) c).toList=splice c.toList (off+k) l
 | [],k,off,c,_=>by simp[splice]
 | v::l,k,off,c,hle=>by
  simp only[List.zipIdx_cons,List.foldl_cons]
  rw[oE l (k+1) off _ (by simp at hle ⊢;omega)]
  simp only[Array.toList_setIfInBounds]
  simp only[List.length_cons] at hle
  have hlt:off+k<c.toList.length:=by simp;omega
  have hl1:off+(k+1)+l.length≤(c.toList.set (off+k) v).length:=by simp;omega
  have hl2:off+k+(v::l).length≤c.toList.length:=by simp;omega
  apply List.ext_getElem?
  intro i
  by_cases h1:off+(k+1)≤i∧i<off+(k+1)+l.length
  ·rw[sB hl1 h1.1 h1.2,sB hl2 (by omega) (by simp;omega)]
   rw[show i-(off+k)=(i-(off+(k+1)))+1 by omega,List.getElem?_cons_succ]
  ·rw[tV hl1 (by omega)]
   by_cases h2:i=off+k
   ·subst h2
    rw[sB hl2 (Nat.le_refl _) (by simp),List.getElem?_set_self hlt]
    simp
   ·rw[tV hl2 (by simp;omega),List.getElem?_set_ne (by omega)]
theorem Ay{c l:List TV}{c' l':List Value}(hc:VLs Fz h L c c')(hl:VLs Fz h L l l')(o:Nat):VLs Fz h L (tsplice c o l) (splice c' o l'):=by
 unfold tsplice splice
 rw[hl.len]
 have h1:=hc.extract 0 o
 have h2:VLs Fz h L (c.drop (o+l.length)) (c'.drop (o+l.length)):=by
  have:=hc.extract (o+l.length) c.length
  rw[List.take_of_length_le (by simp),List.take_of_length_le (by simp[hc.len])] at this
  exact this
 simp only[List.drop_zero] at h1
 exact (h1.append hl).append h2
structure PLs(Fz:Nat→Prop)(h:List Blk)(L:Nat→LI)(ps:List (Nat×TV))(ps':List (Nat×Value)):Prop where
 len:ps'.length=ps.length
 at':∀(i:Nat) p p',ps[i]?=some p→ps'[i]?=some p'→p'.1=p.1∧VL Fz h L p.2 p'.2
theorem vB{place:Nat→Option (Nat×Nat)}:∀(ps:List (Nat×TV)) (ps':List (Nat×Value)) (c:List TV) (c':Array Value) (r:List TV),PLs Fz h L ps ps'→VLs Fz h L c c'.toList→tfill place c ps=some r →
 ∃ r',Instr.fill place c' ps'=some r'∧VLs Fz h L r r'.toList
 | [],ps',c,c',r,hp,hc,hf=>by
  have:ps'=[]:=by have:=hp.len;simpa using this
  subst this
  simp[tfill] at hf
  subst hf
  exact⟨c',rfl,hc⟩
 | (i,v)::ps,ps',c,c',r,hp,hc,hf=>by
  obtain⟨p',rest,rfl⟩:∃ v' rest,ps'=v'::rest:=by
   have h1:=hp.len
   cases ps' with
   | nil=>simp at h1
   | cons a b=>exact⟨a,b,rfl⟩
  obtain⟨i',v'⟩:=p'
  obtain⟨e1,hv⟩:=hp.at' 0 _ _ rfl rfl
  simp only at e1 hv
  subst e1
  have hs:PLs Fz h L ps rest:=⟨by have:=hp.len;simpa using this,fun i x x' h h'=>hp.at' (i+1) _ _ (by simpa using h) (by simpa using h')⟩
  simp only[tfill] at hf
  simp only[Instr.fill]
  split at hf
  ·cases hf
  ·rename_i off size hpl
   split at hf
   ·cases hf
   ·rename_i hj
    split at hf
    ·rename_i hcond
     have hcv:=vX hv (by simpa using hj)
     have hsz:v'.cells.size=size:=by have:=hcv.len;simp at this;omega
     have hcs:c'.size=c.length:=by have:=hc.len;simpa using this
     simp only[hpl]
     rw[if_neg (by simp[hsz];omega)]
     refine vB ps rest _ _ r hs ?_ hf
     have:=oE v'.cells.toList 0 off c' (by simp;omega)
     simp only[← Array.foldl_toList,Array.toList_zipIdx]
     rw[this]
     exact Ay hc hcv off
    ·cases hf
theorem oT{t:TypeId}{z:List Value}(hz:fQ P t=some z):∃ i z0,P.info? t=some i∧i.zero=some z0∧bN z0=true∧z0.cells.toList=z∧z.length=i.size∧∀ x∈z,rT x=true:=by
 replace hz:=(Fe hz).2
 unfold Ri at hz
 split at hz
 ·rename_i i hi
  split at hz
  ·rename_i z0 hz0
   split at hz
   ·rename_i hc
    obtain rfl:=Option.some.inj hz
    exact⟨i,z0,hi,hz0,hc.1,rfl,by simpa using hc.2.2,fun x hx=>by simpa using List.all_eq_true.1 hc.2.1 x hx⟩
   ·cases hz
  ·cases hz
 ·cases hz
theorem yH{z:List Value}(hz:∀ x∈z,rT x=true):VLs Fz h L (z.map .v) z:=
 ⟨by simp,fun i p x hp hx=>by
  rw[List.getElem?_map,hx] at hp
  obtain rfl:=Option.some.inj hp
  exact .v L x (hz x (List.mem_of_getElem? hx))⟩
theorem Lk{t:TypeId}{ps:List (Nat×TV)}{ps':Array (Nat×Value)}{p:TV}(hp:PLs Fz h L ps ps'.toList)(hb:tbuild P t ps=some p):∃ v,xX P t ps'=some v∧VL Fz h L p v:=by
 unfold tbuild at hb
 split at hb
 ·cases hb
 ·rename_i z hz
  obtain⟨i,z0,hi,hz0,hcl,rfl,hsz,hat⟩:=oT hz
  split at hb
  ·rename_i pl hpl
   unfold mN at hpl
   split at hpl
   ·rename_i fields hu
    split at hpl
    ·rename_i hall
     obtain rfl:=Option.some.inj hpl
     obtain⟨r,hr,rfl⟩:=Option.map_eq_some_iff.1 hb
     obtain⟨r',h1,h2⟩:=vB ps ps'.toList _ z0.cells r hp (yH hat) hr
     refine⟨.agg r',?_,.agg' h2⟩
     unfold xX
     simp only[hi,hz0,hcl,if_true,hu]
     have e:((fields.map fun f=>(f.offset,P.cellsOf f.type))[·]?:Nat→Option (Nat×Nat))=((fields.toList.map fun f=>(f.offset,P.cellsOf f.type))[·]?:Nat→Option (Nat×Nat)):=by
      funext k;simp
     rw[e,h1]
     simp only[Option.bind_some]
     rw[if_pos hall]
    ·cases hpl
   ·cases hpl
  ·split at hb
   ·rename_i n e ha
    unfold rJ at ha
    split at ha
    ·rename_i n' e' hu
     obtain⟨rfl,rfl⟩:=Prod.mk.inj (Option.some.inj ha)
     split at hb
     ·rename_i hok
      obtain⟨r,hr,rfl⟩:=Option.map_eq_some_iff.1 hb
      obtain⟨r',h1,h2⟩:=vB ps ps'.toList _ z0.cells r hp (yH hat) hr
      refine⟨.agg r',?_,.agg' h2⟩
      unfold xX
      simp only[hi,hz0,hcl,if_true,hu]
      rw[h1]
      simp only[Option.bind_some]
      exact if_pos hok
     ·cases hb
    ·cases ha
   ·cases hb
end
end Go.Rex
namespace Go.Rex
open Go.RowKit
section
variable {P:Program} {Fz:Nat→Prop} {h h0:List Blk} {L:Nat→LI}
theorem zQ:∀ {rows:List (List TV)} {es:Nat},(∀ r∈rows,r.length=es)→∀ {i j:Nat} {row:List TV},rows[i]?=some row→j<es→rows.flatten[i*es+j]?=row[j]?
 | [],es,_,i,j,row,hr,_=>by simp at hr
 | r::rows,es,hw,0,j,row,hr,hj=>by
  simp at hr
  subst hr
  have:=hw r (by simp)
  simp only[List.flatten_cons,Nat.zero_mul,Nat.zero_add]
  rw[List.getElem?_append_left (by omega)]
 | r::rows,es,hw,i+1,j,row,hr,hj=>by
  have h1:=hw r (by simp)
  simp only[List.getElem?_cons_succ] at hr
  simp only[List.flatten_cons]
  rw[List.getElem?_append_right (by rw[h1,Nat.succ_mul];omega),h1,show (i+1)*es+j-es=i*es+j by rw[Nat.succ_mul];omega]
  exact zQ (fun r hr=>hw r (by simp[hr])) hr hj
theorem jF:∀ {rows:List (List TV)} {es:Nat},(∀ r∈rows,r.length=es)→rows.flatten.length=rows.length*es
 | [],es,_=>by simp
 | r::rows,es,hw=>by
  simp only[List.flatten_cons,List.length_append,List.length_cons,Nat.succ_mul]
  rw[hw r (by simp),jF (fun r hr=>hw r (by simp[hr]))]
  omega
theorem Bo{t:TypeId}{l:List TV}{l':List Value}(hs:VLs Fz h L l l'){o:Nat}{p:TV}(hp:bA P t l o=some p):∃ v,Hc P t l' o=some v∧VL Fz h L p v:=by
 unfold bA at hp
 unfold Hc
 split at hp
 ·rename_i hg
  split at hp
  ·rename_i hc
   obtain rfl:=Option.some.inj hp
   rw[hg]
   simp only
   rw[if_pos (show (P.info? t).isSome=true from hc.1)]
   exact⟨_,rfl,.agg' (hs.extract _ _)⟩
  ·cases hp
 ·rename_i hg
  rw[hg]
  exact hs.at hp
 ·cases hp
theorem Px{hpp:List TB}{tm:List TV}{vm:List Value}(hz:FZ Fz h)(hs:VLs Fz h L tm vm)(hB:∀ n es rows,hpp[n]?=some (.rows es rows)→(L n).es=es){o:Oper}{p:TV}(hp:tpop P hpp tm o=some p):∃ v,Rex.pop P (ev vm) o=some v∧VL Fz h L p v:=by
 have hgen:∀ {p},tgen P tm o=some p→∃ v,Rex.pop P (ev vm) o=some v∧VL Fz h L p v:=fun hp=>Rk hz hs hp
 obtain⟨dst,op,ty,pos,after,guard⟩:=o
 have ht:=fun x=>dU hz hs x
 have hor:∀ {a b:Option TV} {p},orT a b=some p→a=some p∨b=some p:=by
  intro a b p h
  cases a with
  | none=>exact .inr h
  | some x=>exact .inl h
 cases op<;>simp only[tpop] at hp<;>try exact hgen hp
 case move x=>obtain rfl:=Option.some.inj hp;exact⟨_,rfl,ht x⟩
 case assign x=>obtain rfl:=Option.some.inj hp;exact⟨_,rfl,ht x⟩
 case pick c a b =>
  unfold tpick at hp
  split at hp
  ·rename_i t hc
   have h1:=ht c
   rw[hc] at h1
   have h2:=h1.bool_inv
   simp only[Rex.pop,Rex.pop0,h2]
   cases t with
   | true=>obtain rfl:=Option.some.inj hp;exact⟨_,rfl,ht a⟩
   | false=>obtain rfl:=Option.some.inj hp;exact⟨_,rfl,ht b⟩
  ·cases hp
 case nilCheck x =>
  have h1:=ht x
  simp only[Rex.pop,Rex.pop0]
  generalize tev tm x=q at *
  generalize ev vm x=y at *
  split at hp
  ·obtain rfl:=Option.some.inj hp
   refine⟨y,?_,h1⟩
   cases h1;rfl
  ·obtain rfl:=Option.some.inj hp
   refine⟨y,?_,h1⟩
   cases h1;rfl
  ·obtain rfl:=Option.some.inj hp
   refine⟨y,?_,h1⟩
   cases h1;rfl
  ·cases hp
 case build t ps =>
  suffices H:∃ v,xX P t (fM (ev vm) ps)=some v∧VL Fz h L p v by
   obtain⟨v,k1,k2⟩:=H
   exact⟨v,Su k1,k2⟩
  refine Lk (ps':=fM (ev vm) ps) ⟨by simp[fM],fun i p p' h1 h2=>?_⟩ hp
  simp only[fM,Array.toList_map,List.getElem?_map] at h1 h2
  cases hq:ps.toList[i]? with
  | none=>rw[hq] at h1;cases h1
  | some q =>
   rw[hq] at h1 h2
   simp only[Option.map_some,Option.some.injEq] at h1 h2
   subst h1 h2
   exact⟨rfl,ht q.2⟩
 case makeFunc fn first caps =>
  cases fn<;>simp only[] at hp<;>try (cases hp;done)
  rename_i f
  split at hp
  ·rename_i hc
   simp only[Bool.and_eq_true] at hc
   obtain rfl:=Option.some.inj hp
   refine⟨_,rfl,?_⟩
   have key:∀ xs:Array Operand,(xs.toList.all fun x=>lf 4 (tev tm x))=true→VLs Fz h noL (xs.toList.map (tev tm)) (xs.map (ev vm)).toList:=by
    intro xs hx
    refine⟨by simp,fun i p y h1 h2=>?_⟩
    simp only[Array.toList_map,List.getElem?_map] at h1 h2
    cases hq:xs.toList[i]? with
    | none=>rw[hq] at h1;cases h1
    | some q =>
     rw[hq] at h1 h2
     simp only[Option.map_some,Option.some.injEq] at h1 h2
     subst h1 h2
     exact (ht q).toNo 4 (by simpa using List.all_eq_true.1 hx q (List.mem_of_getElem? hq))
   have k1:=key first hc.1
   have k2:=key caps hc.2
   exact .func L f _ _ _ _ k1.len k1.at' k2.len k2.at'
  ·cases hp
 case extract t i =>
  split at hp
  ·rename_i l hl
   have h1:=ht t
   rw[hl] at h1
   simp only[Rex.pop,Rex.pop0]
   generalize ev vm t=y at *
   cases h1 with
   | tuple _ _ l' hl' ha =>
    have hi:=(List.getElem?_eq_some_iff.1 hp).1
    have hx:l'[i]?=some l'[i]:=List.getElem?_eq_getElem (by omega)
    exact⟨_,by simp only[hx],ha i p _ hp hx⟩
  ·cases hp
 case fieldAddr t x f =>
  unfold bC iG at hp
  have h1:=ht x
  simp only[Rex.pop,Rex.pop0,tG]
  split at hp
  ·rename_i off ft hf
   split at hf
   ·rename_i fields hu
    split at hf
    ·rename_i fd hfd
     split at hf
     ·rename_i hc
      obtain⟨rfl,rfl⟩:=Prod.mk.inj (Option.some.inj hf)
      generalize tev tm x=q at *
      generalize ev vm x=y at *
      split at hp
      ·obtain rfl:=Option.some.inj hp
       cases h1 with
       | fptr _ vb row' off' n base es cs hn hb hv hle ha =>
        simp only[hu,hfd]
        rw[if_pos hc]
        exact⟨_,rfl,by rw[Nat.add_assoc];exact .fptr L _ _ _ n base es cs hn hb hv hle ha⟩
      ·obtain rfl:=Option.some.inj hp
       cases h1 with
       | lptr _ n' r' o' nm ok hn =>
        simp only[hu,hfd]
        rw[if_pos hc]
        exact⟨_,rfl,by rw[Nat.add_assoc];exact .lptr L _ _ _ nm ok hn⟩
      ·cases hp
     ·cases hf
    ·cases hf
   ·cases hf
  ·cases hp
 case indexAddr t x ix =>
  unfold aB at hp
  have h1:=ht x
  have h2:=ht ix
  simp only[Rex.pop,Rex.pop0,tC]
  split at hp
  ·rename_i k i hix
   rw[hix] at h2
   have h3:=h2.bool_inv
   generalize tev tm x=q at *
   generalize ev vm x=y at *
   split at hp
   ·rename_i e he
    unfold bY at he
    split at he
    ·rename_i e' hu
     obtain rfl:=Option.some.inj he
     split at hp
     ·rename_i hok
      split at hp
      ·rename_i es rows
       split at hp
       ·rename_i hes
        obtain⟨row,hrow,rfl⟩:=Option.map_eq_some_iff.1 hp
        unfold tidx at hrow
        split at hrow
        ·rename_i h0
         have hlt:=(List.getElem?_eq_some_iff.1 hrow).1
         cases h1 with
         | nillist=>simp at hrow
         | vague=>simp at hrow
         | list _ _ _ n o c cs eb hn hb he hw hc hle ha =>
          simp only[hu,h3]
          rw[if_pos ⟨h0,by omega,hok⟩]
          have hrl:=hw row (List.mem_of_getElem? hrow)
          refine⟨_,rfl,?_⟩
          rw[hes]
          have hmul:i.toNat*es+es≤rows.length*es:=by rw[← Nat.succ_mul];exact Nat.mul_le_mul_right _ hlt
          have:=VL.fptr (Fz:=Fz) (h:=h) L false row 0 n (o+i.toNat*es) eb cs hn hb (fun h=>by cases h) (by omega) (fun j p x hj hx=>by
           have hjl:=(List.getElem?_eq_some_iff.1 hj).1
           refine ha (i.toNat*es+j) p x ?_ (by rw[← Nat.add_assoc];exact hx)
           rw[zQ hw hrow (by omega)];exact hj)
          simpa using this
        ·cases hrow
       ·cases hp
      ·rename_i n o len
       split at hp
       ·rename_i es rows hbn
        split at hp
        ·rename_i hi
         obtain rfl:=Option.some.inj hp
         cases h1 with
         | lslnil=>simp at hi;omega
         | lsl _ _ _ _ nm ok hn hle =>
          simp only[hu,h3]
          rw[if_pos ⟨hi.1,hi.2.1,hok⟩]
          refine⟨_,rfl,?_⟩
          have he:=hB _ _ _ hbn
          have:=VL.lptr (Fz:=Fz) (h:=h) L n (o+i.toNat) 0 nm ok hn
          rw[he] at this ⊢
          rw[hi.2.2,← Nat.add_mul]
          exact this
        ·cases hp
       ·cases hp
      ·cases hp
     ·cases hp
    ·cases he
   ·rename_i he
    split at hp
    ·rename_i n e ha
     unfold rJ at ha
     split at ha
     ·rename_i n' e' hu
      obtain⟨rfl,rfl⟩:=Prod.mk.inj (Option.some.inj ha)
      split at hp
      ·rename_i hi
       split at hp
       ·obtain rfl:=Option.some.inj hp
        cases h1 with
        | fptr _ _ row off' nn base es cs hn hb hv hle hh =>
         simp only[hu,h3]
         rw[if_pos (show 0≤i∧i<((n':Nat):Int)∧(P.info? e').isSome=true from hi)]
         exact⟨_,rfl,by rw[Nat.add_assoc];exact .fptr L _ _ _ nn base es cs hn hb hv hle hh⟩
       ·obtain rfl:=Option.some.inj hp
        cases h1 with
        | lptr _ nn r o nm ok hn =>
         simp only[hu,h3]
         rw[if_pos (show 0≤i∧i<((n':Nat):Int)∧(P.info? e').isSome=true from hi)]
         exact⟨_,rfl,by rw[Nat.add_assoc];exact .lptr L _ _ _ nm ok hn⟩
       ·cases hp
      ·cases hp
     ·cases ha
    ·cases hp
  ·cases hp
 case field t x f =>
  unfold tfield iG at hp
  have h1:=ht x
  simp only[Rex.pop,Rex.pop0,Lp]
  split at hp
  ·rename_i off ft row hf hx
   rw[hx] at h1
   generalize ev vm x=y at *
   split at hf
   ·rename_i fields hu
    split at hf
    ·rename_i fd hfd
     split at hf
     ·rename_i hc
      obtain⟨rfl,rfl⟩:=Prod.mk.inj (Option.some.inj hf)
      cases h1 with
      | agg _ _ l' hl ha =>
       simp only[hu,hfd]
       obtain⟨v,k1,k2⟩:=Bo (P:=P) ⟨hl,ha⟩ hp
       exact⟨v,by simp only[k1],k2⟩
     ·cases hf
    ·cases hf
   ·cases hf
  ·cases hp
 case index t x ix =>
  rcases hor hp with hp|hp
  ·unfold tindex at hp
   have h1:=ht x
   have h2:=ht ix
   split at hp
   ·rename_i n e row k i ha hx hix
    rw[hx] at h1
    rw[hix] at h2
    have h3:=h2.bool_inv
    split at hp
    ·rename_i hi
     unfold rJ at ha
     split at ha
     ·rename_i n' e' hu
      obtain⟨rfl,rfl⟩:=Prod.mk.inj (Option.some.inj ha)
      simp only[Rex.pop,Rex.pop0,h3]
      generalize ev vm x=y at *
      cases h1 with
      | agg _ _ l' hl hh =>
       obtain⟨v,h4,h5⟩:=Bo (P:=P) ⟨hl,hh⟩ hp
       refine⟨v,?_,h5⟩
       simp only[Kl,hu]
       rw[if_pos (show 0≤i∧i<((n':Nat):Int)∧(P.info? e').isSome=true from hi),h4]
       rfl
     ·cases ha
    ·cases hp
   ·cases hp
  ·exact hgen hp
 case call c =>
  obtain⟨callee,args,tys⟩:=c
  cases callee with
  | builtin b =>
   simp only at hp
   split at hp
   ·rename_i hb
    subst hb
    split at hp
    ·rename_i x hxs
     rcases hor hp with hp|hp
     ·unfold tlen at hp
      have h1:=ht x
      split at hp
      ·cases hp
      ·rename_i t htt
       split at hp
       ·cases hp
       ·rename_i e he
        unfold bY at he
        split at he
        ·rename_i e' hu
         simp only[Rex.pop,Rex.pop0,bpop,if_true,hxs]
         generalize tev tm x=q at *
         generalize ev vm x=y at *
         split at hp
         ·obtain rfl:=Option.some.inj hp
          cases h1 with
          | nillist=>exact⟨.int .i64 0,by simp[Pp,htt,hu,oS],.v L _ rfl⟩
          | vague=>exact⟨.int .i64 0,by simp[Pp,htt,hu,oS,vag],.v L _ rfl⟩
          | list _ _ _ n o c cs eb hn hb he hw hc hle ha=>exact⟨_,by simp only[Pp,htt,hu,oS],.v L _ rfl⟩
         ·obtain rfl:=Option.some.inj hp
          cases h1 with
          | lslnil=>exact⟨.int .i64 0,by simp[Pp,htt,hu,oS],.v L _ rfl⟩
          | lsl _ _ _ _ nm ok hn hle=>exact⟨_,by simp only[Pp,htt,hu,oS],.v L _ rfl⟩
         ·cases hp
        ·cases he
     ·exact hgen hp
    ·cases hp
   ·exact hgen hp
  | _=>cases hp
 case binOp op t x y u =>
  rcases hor hp with hp|hp
  ·unfold tbin at hp
   split at hp
   ·rename_i a b hx hy
    obtain⟨r,hr,rfl⟩:=Option.map_eq_some_iff.1 hp
    have h1:=ht x
    have h2:=ht y
    rw[hx] at h1
    rw[hy] at h2
    have e1:=h1.bool_inv
    have e2:=h2.bool_inv
    refine⟨r,by simp[Rex.pop,Rex.pop0,e1,e2,hr,oS],.v L r ?_⟩
    unfold cQ at hr
    split at hr
    ·split at hr
     ·cases op <;> simp only [] at hr <;> first
        | (cases hr;done)
        | (obtain rfl:=Option.some.inj hr;rfl)
        | (split at hr
           ·cases hr
           ·obtain rfl:=Option.some.inj hr;rfl)
     ·cases hr
    ·cases hr
   ·cases hp
  ·exact hgen hp
 all_goals first|(cases hp;done)|exact hgen hp
theorem St.es{s:TS}{tm:List Value}(hs:St h0 Fz L s tm h):∀ n es rows,s.hp[n]?=some (.rows es rows)→(L n).es=es:=fun n _ _ hb=>(hs.blk n _ hb).2.1
theorem OpP.of{o:Oper}{s:TS}{p:TV}(hp:tpop P s.hp s.tm o=some p):OpP P o s ⟨tput s.tm o.dst p,s.hp⟩:=by
 refine⟨rfl,fun h0 Fz L tm h hs=>?_⟩
 obtain⟨v,h1,h2⟩:=Px hs.fz hs.tmr hs.es hp
 exact⟨v,h1,hs.put o.dst h2⟩
end
end Go.Rex
namespace Go.Rex
open Go.RowKit
section
variable {C:Ctx} {P:Program} {Fz:Nat→Prop} {h h0:List Blk} {L:Nat→LI} {s:TS} {tm:List Value}
variable {dst:Option Tmp} {ty:TypeId} {pos:String} {aft:Array Edge} {gd:Option (Nat×Bool)}
def aZ(hp:List TB):TV→Option (List TV×Nat)
 | .fptr _ row o=>some (row,o)
 | .lptr n r o=>match hp[n]? with
  | some (.rows _ rows)=>(rows[r]?).map fun row=>(row,o)
  | some (.var row)=>if r=0 then some (row,o) else none
  | _=>none
 | _=>none
theorem VLs.seg{l:List TV}{cs:List Value}{b:Nat}(hle:b+l.length≤cs.length)(ha:∀(j:Nat) p x,l[j]?=some p→cs[b+j]?=some x→VL Fz h L p x):VLs Fz h L l ((cs.drop b).take l.length):=by
 refine⟨by simp;omega,fun i p x hp hx=>?_⟩
 rw[List.getElem?_take,List.getElem?_drop] at hx
 split at hx
 ·exact ha i p x hp hx
 ·cases hx
theorem By(hs:St h0 Fz L s tm h){p:TV}{x:Value}(hp:VL Fz h L p x){row:List TV}{o:Nat}(hr:aZ s.hp p=some (row,o)) :
 ∃ n b es cs,x = .pointer (some ⟨n,b+o,none⟩)∧h[n]?=some (.cells es cs)∧b+row.length≤cs.length∧VLs Fz h L row ((cs.drop b).take row.length):=by
 cases hp with
 | fptr _ vb row' off n base es cs hn hb hv hle ha =>
  obtain⟨rfl,rfl⟩:=Prod.mk.inj (Option.some.inj hr)
  exact⟨n,base,es,cs,rfl,hb,hle,VLs.seg hle fun j p x h1 h2=>(ha j p x h1 h2).ofNo⟩
 | lptr _ n r o' nm ok hn =>
  simp only[aZ] at hr
  split at hr
  ·rename_i es rows hb
   obtain⟨row',hrow,he⟩:=Option.map_eq_some_iff.1 hr
   obtain⟨rfl,rfl⟩:=Prod.mk.inj he
   obtain⟨q1,q2,q3,q4,q5⟩:=hs.blk n _ hb
   rcases q5 with q5|⟨nm',cs,e1,e2,e3,e4,e5⟩
   ·rw[q5.1] at hn;cases hn
   ·rw[hn] at e1
    obtain rfl:=Option.some.inj e1
    have hlt:=(List.getElem?_eq_some_iff.1 hrow).1
    have hl:=q4 row' (List.mem_of_getElem? hrow)
    have hcl:cs.length=rows.length*es:=by rw[e5.len,jF q4]
    have hmul:r*es+es≤rows.length*es:=by rw[← Nat.succ_mul];exact Nat.mul_le_mul_right _ hlt
    rw[q2]
    refine⟨nm,r*es,es,cs,rfl,e4,by omega,VLs.seg (by omega) fun j p x h1 h2=>?_⟩
    have hjl:=(List.getElem?_eq_some_iff.1 h1).1
    exact (e5.at' (r*es+j) p x (by rw[zQ q4 hrow (by omega)];exact h1) h2).ofNo
  ·rename_i row' hb
   split at hr
   ·rename_i h0'
    subst h0'
    obtain⟨rfl,rfl⟩:=Prod.mk.inj (Option.some.inj hr)
    obtain⟨q1,nm',cs,e1,e2,e3,e4,e5⟩:=hs.blk n _ hb
    rw[hn] at e1
    obtain rfl:=Option.some.inj e1
    refine⟨nm,0,0,cs,by simp,e4,by have:=e5.len;omega,?_⟩
    rw[List.drop_zero,List.take_of_length_le (by have:=e5.len;omega)]
    exact e5
   ·cases hr
  ·cases hr
 | _=>simp[aZ] at hr
def tload(P:Program)(hp:List TB)(t:TypeId)(p:TV):Option TV:=
 match aZ hp p with
 | some (row,o)=>bA P t row o
 | none=>none
theorem Cg(hs:St h0 Fz L s tm h){t:TypeId}{p q:TV}{x:Value}(hp:VL Fz h L p x)(hl:tload P s.hp t p=some q):∃ n o v,x = .pointer (some ⟨n,o,none⟩)∧sK P t h n o=some v∧VL Fz h L q v:=by
 unfold tload at hl
 split at hl
 ·rename_i row o hr
  obtain⟨n,b,es,cs,rfl,hb,hle,hv⟩:=By hs hp hr
  unfold bA at hl
  split at hl
  ·rename_i hg
   split at hl
   ·rename_i hc
    obtain rfl:=Option.some.inj hl
    obtain⟨hc1,hc2⟩:=hc
    obtain⟨i,hi⟩:=Option.isSome_iff_exists.1 hc1
    have hsz:P.cellsOf t=i.size:=by simp[Program.cellsOf,hi]
    rw[hsz] at hc2 ⊢
    refine⟨n,b+o,.agg ⟨(cs.drop (b+o)).take i.size⟩,rfl,?_,.agg' ?_⟩
    ·simp only[sK,hg,hi,bR,hb]
     rw[if_pos (by omega)]
     rfl
    ·have:=hv.extract o i.size
     rw[List.drop_take,List.take_take,List.drop_drop,Nat.min_eq_left (by omega)] at this
     exact this
   ·cases hl
  ·rename_i hg
   obtain⟨v,h1,h2⟩:=hv.at hl
   rw[List.getElem?_take,List.getElem?_drop] at h1
   split at h1
   ·exact⟨n,b+o,v,rfl,load1 hg hb h1,h2⟩
   ·cases h1
  ·cases hl
 ·cases hl
theorem OpG.load{t:TypeId}{a:Operand}{q:TV}(hl:tload P s.hp t (tev s.tm a)=some q):OpG C P { dst:=dst,op:=.load t a,type:=ty,pos:=pos,after:=aft,guard:=gd } s ⟨tput s.tm dst q,s.hp⟩:=by
 intro h0 Fz L tm h hs
 obtain⟨n,o,v,hx,hv,hq⟩:=Cg hs (dU hs.fz hs.tmr a) hl
 refine⟨rfl,v,h,?_,Ext.refl h,Fz,L,Grow.refl _ _,hs.put dst hq⟩
 simp only[xop,hop,hx,hv,Option.map_some]
def uH(L:Nat→LI)(k nm es tot:Nat):Nat→LI:=fun n=>if n=k then ⟨true,some nm,es,tot⟩ else L n
theorem Nq(hs:St h0 Fz L s tm h){nm es tot:Nat}:∀ n,(L n).ok=true→uH L s.hp.length nm es tot n=L n:=fun n hn=>by
 have:=hs.dom n hn
 unfold uH
 rw[if_neg (by omega)]
theorem iQ{k nm es tot:Nat}:uH L k nm es tot k=⟨true,some nm,es,tot⟩:=by unfold uH;rw[if_pos rfl]
theorem St.new(hs:St h0 Fz L s tm h){b:TB}{es tot:Nat}{cs:List Value}(hb:BR h0.length Fz (h++[.cells es cs]) (uH L s.hp.length h.length es tot) s.hp.length b) :
 St h0 Fz (uH L s.hp.length h.length es tot) ⟨s.tm,s.hp++[b]⟩ tm (h++[.cells es cs]):=by
 have hold:=Nq hs (nm:=h.length) (es:=es) (tot:=tot)
 have hs1:=hs.heap (Ext.app h [.cells es cs]) (Fz':=Fz) (fun _ h=>h) (fun n hn=>.inl hn)
 have hlow:∀ n b nm,s.hp[n]?=some b→b.live=true→(L n).nm=some nm→nm<h.length:=by
  intro n b nm hb hlv hn
  have:=hs.blk n b hb
  cases b with
  | dead=>cases hlv
  | rows es rows =>
   obtain⟨-,-,-,-,h5⟩:=this
   rcases h5 with h5|⟨nm',cs,e1,e2,e3,e4,e5⟩
   ·rw[h5.1] at hn;cases hn
   ·rw[e1] at hn;obtain rfl:=Option.some.inj hn
    exact (List.getElem?_eq_some_iff.1 e4).1
  | var row =>
   obtain⟨-,nm',cs,e1,e2,e3,e4,e5⟩:=this
   rw[e1] at hn;obtain rfl:=Option.some.inj hn
   exact (List.getElem?_eq_some_iff.1 e4).1
 refine⟨hs1.tmr.own hold,?_,?_,?_,hs1.fz,hs1.ext⟩
 ·intro n b' hb'
  rcases Nat.lt_or_ge n s.hp.length with hlt|hge
  ·rw[List.getElem?_append_left hlt] at hb'
   exact (hs1.blk n b' hb').own hold (by unfold uH;rw[if_neg (by omega)])
  ·rw[List.getElem?_append_right hge] at hb'
   have hlt:=(List.getElem?_eq_some_iff.1 hb').1
   simp only[List.length_singleton] at hlt
   obtain rfl:n=s.hp.length:=by omega
   simp at hb'
   subst hb'
   exact hb
 ·intro n hn
  simp only[List.length_append,List.length_singleton]
  unfold uH at hn
  split at hn
  ·omega
  ·have:=hs.dom n hn;omega
 ·intro n n' b1 b2 nm hb1 hb2 l1 l2 e1 e2
  have f:∀ n (b':TB),(s.hp++[b])[n]?=some b'→(n<s.hp.length∧s.hp[n]?=some b')∨n=s.hp.length:=by
   intro n b' hb'
   rcases Nat.lt_or_ge n s.hp.length with hlt|hge
   ·rw[List.getElem?_append_left hlt] at hb';exact .inl ⟨hlt,hb'⟩
   ·rw[List.getElem?_append_right hge] at hb'
    have hlt:=(List.getElem?_eq_some_iff.1 hb').1
    simp only[List.length_singleton] at hlt
    exact .inr (by omega)
  rcases f n b1 hb1 with⟨a1,a2⟩|rfl<;>rcases f n' b2 hb2 with⟨c1,c2⟩|rfl
  ·unfold uH at e1 e2
   rw[if_neg (by omega)] at e1 e2
   exact hs.inj n n' b1 b2 nm a2 c2 l1 l2 e1 e2
  ·unfold uH at e1
   rw[if_neg (by omega)] at e1
   rw[iQ] at e2
   obtain rfl:=Option.some.inj e2
   have:=hlow n b1 _ a2 l1 e1
   omega
  ·unfold uH at e2
   rw[if_neg (by omega)] at e2
   rw[iQ] at e1
   obtain rfl:=Option.some.inj e1
   have:=hlow n' b2 _ c2 l2 e2
   omega
  ·rfl
theorem aAW{k nm es tot:Nat}:VL Fz h (uH L k nm es tot) (.lptr k 0 0) (.pointer (some ⟨nm,0,none⟩)):=by
 have:=VL.lptr (Fz:=Fz) (h:=h) (uH L k nm es tot) k 0 0 nm (by rw[iQ]) (by rw[iQ])
 simpa using this
theorem Sp{k nm es tot:Nat}{len:Nat}(hl:len≤tot):VL Fz h (uH L k nm es tot) (.lsl k 0 len) (.slice (some ⟨nm,0,none⟩) len tot):=by
 have:=VL.lsl (Fz:=Fz) (h:=h) (uH L k nm es tot) k 0 len nm (by rw[iQ]) (by rw[iQ]) (by rw[iQ];simpa using hl)
 rw[iQ] at this
 simpa using this
theorem Xd(hs:St h0 Fz L s tm h){row:List TV}{cs:List Value}(hv:VLs Fz h L row cs):BR h0.length Fz (h++[.cells 0 cs]) (uH L s.hp.length h.length 0 0) s.hp.length (.var row):=by
 have hold:=Nq hs (nm:=h.length) (es:=0) (tot:=0)
 refine⟨by rw[iQ],h.length,cs,by rw[iQ],hs.ext.le,fun hf=>by have:=hs.fz _ hf;omega,by simp,(hv.own hold).mono (fun _ h=>h) (fun n hn=>?_)⟩
 have:=hs.fz n hn
 rw[List.getElem?_append_left this]
theorem OpG.boxF{e:TypeId}{x:Operand}{p:TV}(hp:tev s.tm x=p)(hj:jH p=false)(hl:(tcells p).all (lf 4)=true):OpG C P { dst:=dst,op:=.box e x,type:=ty,pos:=pos,after:=aft,guard:=gd } s ⟨tput s.tm dst (.fptr true (tcells p) 0),s.hp⟩:=by
 intro h0 Fz L tm h hs
 subst hp
 have hv:=vX (dU hs.fz hs.tmr x) hj
 have hx:=Ext.app h [Blk.cells (Mi P e) (ev tm x).cells.toList]
 refine⟨rfl,_,_,rfl,hx,fun n=>Fz n∨n=h.length,L,⟨fun n hn=>.inl hn,fun n hn=>?_,(Grow.ext (h0:=h0) hs.fz hx).3⟩,?_⟩
 ·rcases hn with hn|rfl
  ·exact .inl hn
  ·exact .inr hs.ext.le
 ·refine (hs.heap hx (fun n hn=>.inl hn) (fun n hn=>?_)).put dst ?_
  ·rcases hn with hn|rfl
   ·exact .inl hn
   ·exact .inr (by simp)
  ·have := VL.fptr (Fz := fun n => Fz n ∨ n = h.length) (h := h ++ [Blk.cells (Mi P e) (ev tm x).cells.toList]) L true (tcells (tev s.tm x)) 0 h.length 0 (Mi P e) (ev tm x).cells.toList (.inr rfl) (by simp) (fun _ => rfl) (by have := hv.len; omega) (fun j p y h1 h2 => by
     rw[Nat.zero_add] at h2
     refine (VL.toNo 4 (by simpa using List.all_eq_true.1 hl p (List.mem_of_getElem? h1)) (hv.at' j p y h1 h2)).mono (fun n hn=>.inl hn) (fun n hn=>?_)
     have:=hs.fz n hn
     rw[List.getElem?_append_left this])
   simpa using this
theorem OpG.alloc{e:TypeId}{z:List Value}(hz:fQ P e=some z):OpG C P { dst:=dst,op:=.alloc e,type:=ty,pos:=pos,after:=aft,guard:=gd } s ⟨tput s.tm dst (.lptr s.hp.length 0 0),s.hp++[.var (z.map .v)]⟩:=by
 intro h0 Fz L tm h hs
 obtain⟨i,z0,hi,hz0,hcl,rfl,hsz,hat⟩:=oT hz
 refine⟨rfl,.pointer (some ⟨h.length,0,none⟩),h++[.cells (Mi P e) z0.cells.toList],?_,Ext.app _ _,Fz,_,Grow.ext hs.fz (Ext.app _ _),(hs.new (Xd hs (yH hat))).put dst aAW⟩
 simp only[xop,hop,hi,hz0,hcl,if_true,Jz,(Fe hz).1,Bool.false_eq_true,if_false]
theorem Ho(hs:St h0 Fz L s tm h){es:Nat}{rows:List (List TV)}{cs:List Value}(hw:∀ r∈rows,r.length=es)(hv:VLs Fz h noL rows.flatten cs):BR h0.length Fz (h++[.cells es cs]) (uH L s.hp.length h.length es rows.length) s.hp.length (.rows es rows):=by
 refine⟨by rw[iQ],by rw[iQ],by rw[iQ],hw,.inr ⟨h.length,cs,by rw[iQ],hs.ext.le,fun hf=>by have:=hs.fz _ hf;omega,by simp,hv.mono (fun _ h=>h) (fun n hn=>?_)⟩⟩
 have:=hs.fz n hn
 rw[List.getElem?_append_left this]
theorem Nf{z:List Value}{a:Array Value}(ha:a.toList=z):∀(n:Nat),(iD a (n*z.length)).toList=(List.replicate n z).flatten:=by
 intro n
 subst ha
 unfold iD
 rw[Array.toList_map,Array.toList_range]
 induction n with
 | zero=>simp
 | succ n ih =>
  rw[Nat.succ_mul,List.range_add,List.map_append,ih,List.replicate_succ',List.flatten_append]
  congr 1
  simp only[List.flatten_cons,List.flatten_nil,List.append_nil,List.map_map]
  apply List.ext_getElem
  ·simp
  ·intro i h1 h2
   simp only[List.length_map,List.length_range] at h1
   simp only[List.getElem_map,List.getElem_range,Function.comp]
   rw[show (n*a.toList.length+i)%a.size=i by
    rw[Array.length_toList,Nat.add_comm,Nat.add_mul_mod_self_right,Nat.mod_eq_of_lt (by simpa using h1)]]
   simp at h1
   rw[getElem!_pos a i h1]
   simp
def tmake(P:Program)(t:TypeId)(l c:TV):Option (Nat×List Value):=
 match l,c with
 | .v (.int _ l),.v (.int _ c)=>match bY P t with
  | some e=>match fQ P e with
   | some z=>if l=c∧0≤c∧c<2^63∧(mW P e:Int)*c≤2^48∧z≠[] then some (c.toNat,z) else none
   | none=>none
  | none=>none
 | _,_=>none
theorem OpG.makeSlice{t:TypeId}{l c:Operand}{n:Nat}{z:List Value}(hm:tmake P t (tev s.tm l) (tev s.tm c)=some (n,z)) :
 OpG C P { dst:=dst,op:=.makeSlice t l c,type:=ty,pos:=pos,after:=aft,guard:=gd } s ⟨tput s.tm dst (.lsl s.hp.length 0 n),s.hp++[.rows z.length (List.replicate n (z.map .v))]⟩:=by
 intro h0 Fz L tm h hs
 have h1:=dU hs.fz hs.tmr l
 have h2:=dU hs.fz hs.tmr c
 unfold tmake at hm
 split at hm
 ·rename_i k1 l' k2 c' hl hc
  rw[hl] at h1
  rw[hc] at h2
  have e1:=h1.bool_inv
  have e2:=h2.bool_inv
  split at hm
  ·rename_i e he
   split at hm
   ·rename_i z' hz
    split at hm
    ·rename_i hcond
     obtain⟨rfl,hc0,hc1,hc2,hc3⟩:=hcond
     obtain⟨rfl,rfl⟩:=Prod.mk.inj (Option.some.inj hm)
     obtain⟨i,z0,hi,hz0,hcl,hzz,hsz,hat⟩:=oT hz
     unfold bY at he
     split at he
     ·rename_i e' hu
      obtain rfl:=Option.some.inj he
      have hb:mW P e'=i.bytes:=by simp[mW,hi]
      rw[hb] at hc2
      have hwrap:IntKind.i64.wrap l'=l':=IntWalk.i64_in _ (by omega)
      have hcs:(iD z0.cells (l'.toNat*i.size)).toList=(List.replicate l'.toNat z').flatten:=by
       rw[← hsz];exact Nf hzz _
      have hfl:VLs Fz h noL (List.replicate l'.toNat (z'.map TV.v)).flatten (List.replicate l'.toNat z').flatten:=by
       have:=yH (Fz:=Fz) (h:=h) (L:=noL) (z:=(List.replicate l'.toNat z').flatten) (fun x hx=>by
        simp only[List.mem_flatten,List.mem_replicate] at hx
        obtain⟨q,⟨_,rfl⟩,hx⟩:=hx
        exact hat x hx)
       rwa [List.map_flatten,List.map_replicate] at this
      have hmk:lL P t (ev tm l) (ev tm c) h=some (.slice (some ⟨h.length,0,none⟩) l'.toNat l'.toNat,h++[.cells z'.length (List.replicate l'.toNat z').flatten]):=by
       unfold lL
       simp only[e1,e2,hu,hi]
       rw[if_pos ⟨hwrap,hwrap,hc0,Int.le_refl _,by omega⟩]
       by_cases hn0:l'.toNat*i.size=0
       ·have : l'.toNat = 0 := by
          rcases Nat.mul_eq_zero.1 hn0 with h|h
          ·exact h
          ·rw[h] at hsz;exact absurd (List.length_eq_zero_iff.1 hsz) hc3
        simp only[vD,hn0,if_true,iD,this,List.replicate_zero,List.flatten_nil,hsz]
        simp
       ·simp only[vD,if_neg hn0,hi,hz0,hcl,if_true,hcs,hsz]
      refine⟨rfl,.slice (some ⟨h.length,0,none⟩) l'.toNat l'.toNat,_,?_,Ext.app h [.cells z'.length (List.replicate l'.toNat z').flatten],Fz,uH L s.hp.length h.length z'.length (List.replicate l'.toNat (z'.map TV.v)).length,Grow.ext hs.fz (Ext.app _ _),?_⟩
      ·simp only[xop,hop,zP,hmk,Option.map_some]
      ·refine (hs.new (Ho hs (fun r hr=>?_) hfl)).put dst ?_
       ·rw[List.mem_replicate] at hr
        rw[hr.2];simp
       ·have:=Sp (Fz:=Fz) (h:=h++[.cells z'.length (List.replicate l'.toNat z').flatten]) (L:=L) (k:=s.hp.length) (nm:=h.length) (es:=z'.length) (tot:=(List.replicate l'.toNat (z'.map TV.v)).length) (len:=l'.toNat) (by simp)
        simpa using this
     ·cases he
    ·cases hm
   ·cases hm
  ·cases hm
 ·cases hm
end
end Go.Rex
namespace Go.Rex
open Go.RowKit
section
variable {C:Ctx} {P:Program} {Fz:Nat→Prop} {h h0:List Blk} {L:Nat→LI} {s:TS} {tm:List Value}
variable {dst:Option Tmp} {ty:TypeId} {pos:String} {aft:Array Edge} {gd:Option (Nat×Bool)}
def tparts(es:Nat):Nat→List (Nat×TV)→Option (List (List TV))
 | _,[]=>some []
 | i,(k,p)::l=>if k=i∧jH p=false∧(tcells p).length=es∧(tcells p).all (lf 4)=true then (tparts es (i+1) l).map fun r=>tcells p::r else none
theorem Bl{es:Nat}:∀(ps:List (Nat×TV)) (ps':List (Nat×Value)) (i:Nat) (rows:List (List TV)),PLs Fz h L ps ps'→tparts es i ps=some rows →
 rows.length=ps.length∧(∀ r∈rows,r.length=es)∧∀(c:Array Value) (pre:List Value),c.size=(i+rows.length)*es→c.toList.take (i*es)=pre →
  ∃ c',Instr.fill (fun i=>some (i*es,es)) c ps'=some c'∧∃ new,c'.toList=pre++new∧VLs Fz h noL rows.flatten new
 | [],ps',i,rows,hp,ht=>by
  have:ps'=[]:=by have:=hp.len;simpa using this
  subst this
  obtain rfl:=Option.some.inj ht
  refine⟨rfl,by simp,fun c pre hc hpre=>⟨c,rfl,[],?_,VLs.nil⟩⟩
  rw[← hpre,List.append_nil,List.take_of_length_le (by simp[hc])]
 | (k,v)::ps,ps',i,rows,hp,ht=>by
  obtain⟨p',rest,rfl⟩:∃ v' rest,ps'=v'::rest:=by
   have h1:=hp.len
   cases ps' with
   | nil=>simp at h1
   | cons a b=>exact⟨a,b,rfl⟩
  obtain⟨k',v'⟩:=p'
  obtain⟨e1,hv⟩:=hp.at' 0 _ _ rfl rfl
  simp only at e1 hv
  subst e1
  have hs:PLs Fz h L ps rest:=⟨by have:=hp.len;simpa using this,fun i x x' h h'=>hp.at' (i+1) _ _ (by simpa using h) (by simpa using h')⟩
  simp only[tparts] at ht
  split at ht
  ·rename_i hc
   obtain⟨rfl,hj,hlen,hlf⟩:=hc
   obtain⟨r,hr,rfl⟩:=Option.map_eq_some_iff.1 ht
   obtain⟨g1,g2,g3⟩:=Bl ps rest _ r hs hr
   refine⟨by simp[g1],fun q hq=>?_,fun c pre hc hpre=>?_⟩
   ·simp only[List.mem_cons] at hq
    rcases hq with rfl|hq
    ·exact hlen
    ·exact g2 q hq
   ·have hcv:=vX hv hj
    have hsz:v'.cells.size=es:=by have:=hcv.len;simp at this;omega
    have hmul:k'*es+es≤(k'+(r.length+1))*es:=by rw[← Nat.succ_mul];exact Nat.mul_le_mul_right _ (by omega)
    simp only[List.length_cons] at hc
    simp only[Instr.fill]
    rw[if_neg (by simp[hsz,hc];omega)]
    have hsp:=oE v'.cells.toList 0 (k'*es) c (by simp[hsz,hc];omega)
    simp only[Nat.add_zero] at hsp
    have hlv:v'.cells.toList.length=es:=by simp[hsz]
    have hpl:pre.length=k'*es:=by rw[← hpre,List.length_take,Array.length_toList,hc];omega
    obtain ⟨c', h1, new, h2, h3⟩ := g3 (Array.foldl (fun (cs : Array Value) (x : Value × Nat) => cs.setIfInBounds (k' * es + x.2) x.1) c v'.cells.zipIdx) (pre ++ v'.cells.toList) (by
        have:(Array.foldl (fun (cs:Array Value) (x:Value×Nat)=>cs.setIfInBounds (k'*es+x.2) x.1) c v'.cells.zipIdx).toList.length=c.toList.length:=by
         simp only[← Array.foldl_toList,Array.toList_zipIdx]
         rw[hsp,tD (by simp[hsz,hc];omega)]
        simp only[Array.length_toList] at this
        rw[this,hc];congr 1;omega) (by
     simp only[← Array.foldl_toList,Array.toList_zipIdx]
     rw[hsp]
     unfold splice
     rw[hpre,List.take_append_of_le_length (by simp[hpl,hlv];rw[Nat.succ_mul];omega),List.take_of_length_le (by simp[hpl,hlv];rw[Nat.succ_mul];omega)])
    refine⟨c',h1,v'.cells.toList++new,by rw[h2,List.append_assoc],?_⟩
    simp only[List.flatten_cons]
    refine VLs.append ⟨hcv.len,fun j p x hp hx=>VL.toNo 4 (by simpa using List.all_eq_true.1 hlf p (List.mem_of_getElem? hp)) (hcv.at' j p x hp hx)⟩ h3
  ·cases ht
theorem Gy(hz:FZ Fz h)(hs:VLs Fz h L s.tm tm)(ps:Array (Nat×Operand)):PLs Fz h L (ps.toList.map fun q=>(q.1,tev s.tm q.2)) (fM (ev tm) ps).toList:=by
 refine⟨by simp[fM],fun i p p' h1 h2=>?_⟩
 simp only[fM,Array.toList_map,List.getElem?_map] at h1 h2
 cases hq:ps.toList[i]? with
 | none=>rw[hq] at h1;cases h1
 | some q =>
  rw[hq] at h1 h2
  simp only[Option.map_some,Option.some.injEq] at h1 h2
  subst h1 h2
  exact⟨rfl,dU hz hs q.2⟩
def tslice(P:Program)(t:TypeId)(len:Nat)(ps:List (Nat×TV)):Option (Nat×List (List TV)):=
 match bY P t with
 | some e=>match fQ P e with
  | some z=>if ps.length=len∧len*z.length≤2^24∧P.cellsOf e=z.length then (tparts z.length 0 ps).map fun r=>(z.length,r) else none
  | none=>none
 | none=>none
theorem yY{t:TypeId}{len:Nat}{ps:List (Nat×TV)}{ps':Array (Nat×Value)}{es:Nat}{rows:List (List TV)}(hp:PLs Fz h L ps ps'.toList)(ht:tslice P t len ps=some (es,rows)) :
 rows.length=len∧(∀ r∈rows,r.length=es)∧∃ cs,iL P t len ps' h=some (.slice (some ⟨h.length,0,none⟩) len len,h++[.cells es cs])∧VLs Fz h noL rows.flatten cs:=by
 unfold tslice at ht
 split at ht
 ·rename_i e he
  split at ht
  ·rename_i z hz
   split at ht
   ·rename_i hc
    obtain⟨hc1,hc2,hc3⟩:=hc
    obtain⟨r,hr,he'⟩:=Option.map_eq_some_iff.1 ht
    obtain⟨rfl,rfl⟩:=Prod.mk.inj he'
    obtain⟨i,z0,hi,hz0,hcl,hzz,hsz,hat⟩:=oT hz
    unfold bY at he
    split at he
    ·rename_i e' hu
     obtain rfl:=Option.some.inj he
     obtain⟨g1,g2,g3⟩:=Bl ps ps'.toList 0 r hp hr
     have hrl:r.length=len:=by omega
     refine⟨hrl,g2,?_⟩
     have hlen:∀ a:Array Value,(iD a (len*z.length)).size=len*z.length:=fun a=>by simp[iD]
     by_cases hn0:len*z.length=0
     ·obtain⟨c',h1,new,h2,h3⟩:=g3 (iD #[] (len*z.length)) [] (by rw[hlen,hrl];simp) (by simp)
      refine⟨new,?_,h3⟩
      unfold iL
      simp only[hu,hc3]
      rw[if_pos ⟨by rw[hi];rfl,by omega⟩]
      simp only[vD,hn0,if_true]
      rw[hn0] at h1
      rw[h1]
      simp only[Option.bind_some]
      have hsz':c'.size=0:=by
       have hl:=h3.len
       rw[jF g2,hrl,hn0] at hl
       have:c'.toList.length=new.length:=by rw[h2];simp
       simp only[Array.length_toList] at this
       omega
      rw[if_pos hsz',h2]
      simp
     ·obtain⟨c',h1,new,h2,h3⟩:=g3 (iD z0.cells (len*z.length)) [] (by rw[hlen,hrl];simp) (by simp)
      refine⟨new,?_,h3⟩
      unfold iL
      simp only[hu,hc3]
      rw[if_pos ⟨by rw[hi];rfl,by omega⟩]
      simp only[vD,if_neg hn0,hi,hz0,hcl,if_true]
      rw[h1]
      simp only[Option.bind_some]
      have hsz':c'.size=len*z.length:=by
       have hl:=h3.len
       rw[jF g2,hrl] at hl
       have:c'.toList.length=new.length:=by rw[h2];simp
       simp only[Array.length_toList] at this
       omega
      rw[if_pos hsz',h2]
      simp
    ·cases he
   ·cases ht
  ·cases ht
 ·cases ht
theorem OpG.buildSlice{t:TypeId}{len:Nat}{ps:Array (Nat×Operand)}{es:Nat}{rows:List (List TV)}(ht:tslice P t len (ps.toList.map fun q=>(q.1,tev s.tm q.2))=some (es,rows)) :
 OpG C P { dst:=dst,op:=.buildSlice t len ps,type:=ty,pos:=pos,after:=aft,guard:=gd } s ⟨tput s.tm dst (.list es rows),s.hp⟩:=by
 intro h0 Fz L tm h hs
 obtain⟨h1,h2,cs,h3,h4⟩:=yY (P:=P) (Gy hs.fz hs.tmr ps) ht
 have hx:=Ext.app h [Blk.cells es cs]
 refine⟨rfl,_,_,by simp only[xop,hop,zP,h3,Option.map_some];rfl,hx,fun n=>Fz n∨n=h.length,L,⟨fun n hn=>.inl hn,fun n hn=>?_,(Grow.ext (h0:=h0) hs.fz hx).3⟩,?_⟩
 ·rcases hn with hn|rfl
  ·exact .inl hn
  ·exact .inr hs.ext.le
 ·refine (hs.heap hx (fun n hn=>.inl hn) (fun n hn=>?_)).put dst ?_
  ·rcases hn with hn|rfl
   ·exact .inl hn
   ·exact .inr (by simp)
  ·have hl:=h4.len
   rw[jF h2] at hl
   have:=VL.list (Fz:=fun n=>Fz n∨n=h.length) (h:=h++[Blk.cells es cs]) L es rows h.length 0 len cs es (.inr rfl) (by simp) (.inl rfl) h2 (by omega) (by omega) (fun j p y q1 q2=>by
    rw[Nat.zero_add] at q2
    refine (h4.at' j p y q1 q2).mono (fun n hn=>.inl hn) (fun n hn=>?_)
    have:=hs.fz n hn
    rw[List.getElem?_append_left this])
   rw[h1] at this
   exact this
theorem OpG.buildOwn{t:TypeId}{len:Nat}{ps:Array (Nat×Operand)}{es:Nat}{rows:List (List TV)}(ht:tslice P t len (ps.toList.map fun q=>(q.1,tev s.tm q.2))=some (es,rows)) :
 OpG C P { dst:=dst,op:=.buildSlice t len ps,type:=ty,pos:=pos,after:=aft,guard:=gd } s ⟨tput s.tm dst (.lsl s.hp.length 0 len),s.hp++[.rows es rows]⟩:=by
 intro h0 Fz L tm h hs
 obtain⟨h1,h2,cs,h3,h4⟩:=yY (P:=P) (Gy hs.fz hs.tmr ps) ht
 refine⟨rfl,_,_,by simp only[xop,hop,zP,h3,Option.map_some];rfl,Ext.app _ _,Fz,_,Grow.ext hs.fz (Ext.app _ _),(hs.new (Ho hs h2 h4)).put dst ?_⟩
 have:=Sp (Fz:=Fz) (h:=h++[.cells es cs]) (L:=L) (k:=s.hp.length) (nm:=h.length) (es:=es) (tot:=rows.length) (len:=len) (by omega)
 rw[h1] at this ⊢
 exact this
def tstore(P:Program)(hp:List TB)(t:TypeId)(p v:TV):Option (List TB):=
 match p with
 | .lptr n r o => if jH v = false ∧ okT P t = true ∧ (tcells v).length = P.cellsOf t ∧ (tcells v).all tone = true then
     match hp[n]? with
     | some (.rows es rows)=>match rows[r]? with
      | some row=>if o+(tcells v).length≤row.length∧(tcells v).all (lf 4)=true then some (hp.set n (.rows es (rows.set r (tsplice row o (tcells v))))) else none
      | none=>none
     | some (.var row)=>if r=0∧o+(tcells v).length≤row.length then some (hp.set n (.var (tsplice row o (tcells v)))) else none
     | _=>none
  else none
 | _=>none
theorem Wi{p:TV}{x:Value}(hp:VL Fz h L p x)(ht:tone p=true):x.oneCell'=true:=by
 cases hp with
 | v _ x hx=>cases x<;>first|rfl|(simp[rT] at hx)
 | Z=>simp[tone] at ht
 | agg=>simp[tone] at ht
 | tuple=>simp[tone] at ht
 | _=>rfl
theorem tones{l:List TV}{l':List Value}(hs:VLs Fz h L l l')(ht:l.all tone=true):l'.all (·.oneCell')=true:=by
 rw[List.all_eq_true]
 intro x hx
 obtain⟨i,hi⟩:=List.mem_iff_getElem?.1 hx
 have hlt:=(List.getElem?_eq_some_iff.1 hi).1
 have hll:=hs.len
 have hp:l[i]?=some l[i]:=List.getElem?_eq_getElem (by omega)
 exact Wi (hs.at' i _ _ hp hi) (by simpa using List.all_eq_true.1 ht _ (List.mem_of_getElem? hp))
theorem Pc{es:Nat}:∀(rows:List (List TV)) (r:Nat) (row row':List TV),(∀ q∈rows,q.length=es)→rows[r]?=some row→row'.length=es →
 (rows.set r row').flatten=tsplice rows.flatten (r*es) row'
 | [],r,row,row',hw,hr,hl=>by simp at hr
 | q::rows,0,row,row',hw,hr,hl=>by
  have:=hw q (by simp)
  simp only[List.set_cons_zero,List.flatten_cons,tsplice,Nat.zero_mul,List.take_zero,List.nil_append,Nat.zero_add]
  rw[List.drop_append_of_le_length (by omega),List.drop_of_length_le (by omega),List.nil_append]
 | q::rows,r+1,row,row',hw,hr,hl=>by
  have h1:=hw q (by simp)
  simp only[List.getElem?_cons_succ] at hr
  simp only[List.set_cons_succ,List.flatten_cons]
  rw[Pc rows r row row' (fun x hx=>hw x (by simp[hx])) hr hl]
  unfold tsplice
  have e:(r+1)*es=q.length+r*es:=by rw[Nat.succ_mul,h1];omega
  rw[e,List.take_append,List.drop_append]
  rw[List.take_of_length_le (show q.length≤q.length+r*es by omega),List.drop_of_length_le (show q.length≤q.length+r*es+row'.length by omega)]
  simp[Nat.add_assoc]
theorem Cf{c l:List TV}{o:Nat}(hl:o+l.length≤c.length):(tsplice c o l).length=c.length:=by unfold tsplice;simp;omega
theorem El{c row l:List TV}{b o:Nat}(hb:(c.drop b).take row.length=row)(hle:b+row.length≤c.length)(hl:o+l.length≤row.length):tsplice c b (tsplice row o l)=tsplice c (b+o) l:=by
 have h1:c=c.take b++(row++c.drop (b+row.length)):=by
  conv=>lhs;rw[← List.take_append_drop b c,← List.take_append_drop row.length (c.drop b),hb,List.drop_drop]
 unfold tsplice
 have hlen:(row.take o++l++row.drop (o+l.length)).length=row.length:=by simp;omega
 rw[hlen]
 have e2:c.take (b+o)=c.take b++row.take o:=by
  conv=>lhs;rw[h1]
  rw[List.take_append,List.take_of_length_le (by simp;omega),List.length_take,Nat.min_eq_left (by omega),Nat.add_sub_cancel_left,List.take_append_of_le_length (by omega)]
 have e3:c.drop (b+o+l.length)=row.drop (o+l.length)++c.drop (b+row.length):=by
  conv=>lhs;rw[h1]
  rw[List.drop_append,List.drop_of_length_le (by simp;omega),List.nil_append,List.length_take,Nat.min_eq_left (by omega),show b+o+l.length-b=o+l.length by omega,List.drop_append_of_le_length hl]
 rw[e2,e3]
 simp only[List.append_assoc]
theorem OpW.store{t:TypeId}{a x:Operand}{hp':List TB}(hst:tstore P s.hp t (tev s.tm a) (tev s.tm x)=some hp') :
 OpW C P { dst:=none,op:=.store t a x,type:=ty,pos:=pos,after:=aft,guard:=gd } s ⟨s.tm,hp'⟩:=by
 intro h0 Fz L tm h hs
 have ha:=dU hs.fz hs.tmr a
 have hx:=dU hs.fz hs.tmr x
 refine .inr ⟨rfl,?_⟩
 generalize tev s.tm x=v at *
 unfold tstore at hst
 split at hst
 ·rename_i n r o hpa
  rw[hpa] at ha
  split at hst
  ·rename_i hc
   obtain⟨hj,hok,hlen,hone⟩:=hc
   have hcv:=vX hx hj
   obtain⟨i,hi⟩:=Option.isSome_iff_exists.1 hok
   have hsz:P.cellsOf t=i.size:=by simp[Program.cellsOf,hi]
   have hones:=tones hcv hone
   have hvs:(ev tm x).cells.size=i.size:=by have:=hcv.len;simp at this;omega
   obtain⟨nm,hnm,hav⟩:∃ nm,(L n).nm=some nm∧ev tm a = .pointer (some ⟨nm,r*(L n).es+o,none⟩):=by
    generalize ev tm a=y at *
    cases ha with
    | lptr _ _ _ _ nm ok hn=>exact⟨nm,hn,rfl⟩
   have key : ∀ (es : Nat) (cs : List Value) (b' : TB) (b : TB), s.hp[n]? = some b → b.live = true → h[nm]? = some (.cells es cs) → h0.length ≤ nm → ¬ Fz nm → r * (L n).es + o + (ev tm x).cells.toList.length ≤ cs.length →
       BR h0.length Fz (h.set nm (.cells es (splice cs (r*(L n).es+o) (ev tm x).cells.toList))) L n b'→hp'=s.hp.set n b' →
       ∃ v1 h1 w1,xop C P (ev tm) { dst:=none,op:=.store t a x,type:=ty,pos:=pos,after:=aft,guard:=gd } h=some (v1,h1,w1)∧((w1=none∧Ext h h1)∨∃ nm,w1=some nm∧h0.length≤nm∧nm<h.length∧h.length≤h1.length) ∧
        ∃ Fz' L',Grow h0 Fz Fz' h h1∧St h0 Fz' L' ⟨s.tm,hp'⟩ (bX tm none v1) h1:=by
    intro es cs b' b hb hlv hcs hlo hnf hle hB hp
    refine⟨undef,h.set nm (.cells es (splice cs (r*(L n).es+o) (ev tm x).cells.toList)),some nm,?_,.inr ⟨nm,rfl,hlo,(List.getElem?_eq_some_iff.1 hcs).1,by simp⟩,Fz,L,Grow.set hnf,?_⟩
    ·simp only[xop,hop,hav,lC,hi,hvs,if_true,dF,hcs]
     rw[if_pos ⟨hle,hones⟩]
     rfl
    ·subst hp
     exact hs.write hb hlv hnm hcs hlo hnf hB
   have hh:∀(es:Nat) (cs:List Value),¬ Fz nm→∀ k,Fz k→(h.set nm (.cells es cs))[k]?=h[k]?:=fun es cs hnf k hk=>by
    rw[List.getElem?_set_ne];rintro rfl;exact hnf hk
   split at hst
   ·rename_i es rows hb
    split at hst
    ·rename_i row hrow
     split at hst
     ·rename_i hcond
      obtain⟨hfit,hlf⟩:=hcond
      obtain rfl:=Option.some.inj hst
      obtain⟨q1,q2,q3,q4,q5⟩:=hs.blk n _ hb
      rcases q5 with q5|⟨nm',cs,e1,e2,e3,e4,e5⟩
      ·rw[q5.1] at hnm;cases hnm
      ·rw[hnm] at e1
       obtain rfl:=Option.some.inj e1
       have hlt:=(List.getElem?_eq_some_iff.1 hrow).1
       have hrl:=q4 row (List.mem_of_getElem? hrow)
       have hcl:cs.length=rows.length*es:=by rw[e5.len,jF q4]
       have hmul:r*es+es≤rows.length*es:=by rw[← Nat.succ_mul];exact Nat.mul_le_mul_right _ hlt
       have hcvl:(ev tm x).cells.toList.length=(tcells v).length:=hcv.len
       refine key es cs (.rows es (rows.set r (tsplice row o (tcells v)))) _ hb rfl e4 e2 e3 (by rw[q2];omega) ?_ rfl
       have hseg:(rows.flatten.drop (r*es)).take row.length=row:=by
        apply List.ext_getElem?
        intro j
        rw[List.getElem?_take,List.getElem?_drop]
        split
        ·rename_i hj'
         exact zQ q4 hrow (by omega)
        ·rw[List.getElem?_eq_none (by omega)]
       have hfs:(rows.set r (tsplice row o (tcells v))).flatten=tsplice rows.flatten (r*es+o) (tcells v):=by
        rw[Pc rows r row _ q4 hrow (by rw[Cf hfit];exact hrl),El hseg (by rw[jF q4];omega) hfit]
       refine⟨q1,q2,by simp[q3],fun q hq=>?_,.inr ⟨nm,_,hnm,e2,e3,by rw[List.getElem?_set_self (List.getElem?_eq_some_iff.1 e4).1],?_⟩⟩
       ·rcases List.mem_or_eq_of_mem_set hq with hq|rfl
        ·exact q4 q hq
        ·rw[Cf hfit];exact hrl
       ·rw[hfs,q2]
        refine VLs.mono (Ay e5 ⟨hcv.len,fun j p y hp hy=>VL.toNo 4 (by simpa using List.all_eq_true.1 hlf p (List.mem_of_getElem? hp)) (hcv.at' j p y hp hy)⟩ _) (fun _ h=>h) (hh es _ e3)
     ·cases hst
    ·cases hst
   ·rename_i row hb
    split at hst
    ·rename_i hcond
     obtain⟨rfl,hfit⟩:=hcond
     obtain rfl:=Option.some.inj hst
     obtain⟨q1,nm',cs,e1,e2,e3,e4,e5⟩:=hs.blk n _ hb
     rw[hnm] at e1
     obtain rfl:=Option.some.inj e1
     have hcvl:(ev tm x).cells.toList.length=(tcells v).length:=hcv.len
     have hcl:=e5.len
     refine key 0 cs (.var (tsplice row o (tcells v))) _ hb rfl e4 e2 e3 (by omega) ?_ rfl
     rw[Nat.zero_mul,Nat.zero_add]
     refine⟨q1,nm,_,hnm,e2,e3,by rw[List.getElem?_set_self (List.getElem?_eq_some_iff.1 e4).1],?_⟩
     exact (Ay e5 hcv o).mono (fun _ h=>h) (hh 0 _ e3)
    ·cases hst
   ·cases hst
  ·cases hst
 ·cases hst
end
end Go.Rex
namespace Go.Rex
open Go.RowKit
section
variable {C:Ctx} {P:Program} {Fz:Nat→Prop} {h h0:List Blk} {L:Nat→LI} {s:TS} {tm:List Value}
variable {dst:Option Tmp} {ty:TypeId} {pos:String} {aft:Array Edge} {gd:Option (Nat×Bool)}
inductive WT:List TV→List TV→Prop
 | nil:WT [] []
 | Z {p:TV} {l l':List TV} (h:WT l l'):WT (p::l) (.Z::l')
 | keep {p q:TV} {l l':List TV} (e:p=q) (h:WT l l'):WT (p::l) (q::l')
def bel(k:Nat):Nat→TV→Bool
 | 0,_=>false
 | d+1,p=>match p with
  | .lptr m _ _=>decide (m<k)
  | .lsl m _ _=>decide (m<k)
  | .agg l=>l.all (bel k d)
  | .tuple l=>l.all (bel k d)
  | _=>true
theorem Wk.nil(t es:Nat)(ht:tnth s.tm t = .v (.slice none 0 0)):Wk s ⟨s.tm.set t (.lsl s.hp.length 0 0),s.hp++[.rows es []]⟩:=by
 intro h0 Fz L tm h hs
 refine⟨Fz,fun n=>if n=s.hp.length then ⟨true,none,es,0⟩ else L n,Grow.refl _ _,?_⟩
 have hold:∀ n,(L n).ok=true→(fun n=>if n=s.hp.length then (⟨true,none,es,0⟩:LI) else L n) n=L n:=fun n hn=>by
  have:=hs.dom n hn
  simp only[if_neg (show ¬ n=s.hp.length by omega)]
 have hv:=hs.tmr.own hold
 have hx:tm[t]?=some (.slice none 0 0):=by
  have:=dU hs.fz hs.tmr (.tmp t)
  simp only[tev,ev] at this
  rw[ht] at this
  have h1:=this.bool_inv
  rw[rQ] at h1
  cases hq:tm[t]? with
  | none=>rw[hq] at h1;cases h1
  | some q=>rw[hq] at h1;exact congrArg some h1
 have hset:VLs Fz h (fun n=>if n=s.hp.length then (⟨true,none,es,0⟩:LI) else L n) (s.tm.set t (.lsl s.hp.length 0 0)) (tm.set t (.slice none 0 0)):=hv.set t (.lslnil _ _ (by simp) (by simp))
 have hself:tm.set t (.slice none 0 0)=tm:=by
  apply List.ext_getElem?
  intro i
  by_cases e:t=i
  ·subst e;rw[List.getElem?_set_self (List.getElem?_eq_some_iff.1 hx).1,hx]
  ·rw[List.getElem?_set_ne e]
 rw[hself] at hset
 refine⟨hset,?_,?_,?_,hs.fz,hs.ext⟩
 ·intro n b hb
  rcases Nat.lt_or_ge n s.hp.length with hl|hge
  ·rw[List.getElem?_append_left hl] at hb
   exact (hs.blk n b hb).own hold (by simp only[if_neg (show ¬ n=s.hp.length by omega)])
  ·rw[List.getElem?_append_right hge] at hb
   have hl:=(List.getElem?_eq_some_iff.1 hb).1
   simp only[List.length_singleton] at hl
   obtain rfl:n=s.hp.length:=by omega
   simp at hb
   subst hb
   exact⟨by simp,by simp,by simp,by simp,.inl ⟨by simp,rfl⟩⟩
 ·intro n hn
  simp only[List.length_append,List.length_singleton]
  by_cases e:n=s.hp.length
  ·omega
  ·simp only[if_neg e] at hn
   have:=hs.dom n hn;omega
 ·intro n n' b b' nm hb hb' l1 l2 e1 e2
  have f:∀ n (b':TB),(s.hp++[TB.rows es []])[n]?=some b'→(if n=s.hp.length then (⟨true,none,es,0⟩:LI) else L n).nm=some nm→s.hp[n]?=some b'∧(L n).nm=some nm:=by
   intro n b' hb' he
   by_cases e:n=s.hp.length
   ·rw[if_pos e] at he;cases he
   ·rw[if_neg e] at he
    rcases Nat.lt_or_ge n s.hp.length with hl|hge
    ·rw[List.getElem?_append_left hl] at hb';exact⟨hb',he⟩
    ·rw[List.getElem?_append_right hge] at hb'
     have hl:=(List.getElem?_eq_some_iff.1 hb').1
     simp only[List.length_singleton] at hl
     omega
  obtain⟨a1,a2⟩:=f n b hb e1
  obtain⟨c1,c2⟩:=f n' b' hb' e2
  exact hs.inj n n' b b' nm a1 c1 l1 l2 a2 c2
def frz(n:Nat)(b:TB):Nat→TV→TV
 | 0,_=>.Z
 | d+1,p=>match p with
  | .lsl m o len=>if m=n then (match b with
   | .rows es rows=>.list es ((rows.drop o).take len)
   | _=>.Z) else .lsl m o len
  | .lptr m r o=>if m=n then (match b with
   | .rows _ rows=>(match rows[r]? with|some row=>.fptr false row o|none=>.Z)
   | .var row=>if r=0 then .fptr true row o else .Z
   | _=>.Z) else .lptr m r o
  | .agg l=>.agg (l.map (frz n b d))
  | .tuple l=>.tuple (l.map (frz n b d))
  | p=>p
theorem Hl{es:Nat}:∀ {rows:List (List TV)} (_:∀ r∈rows,r.length=es) (k:Nat),(rows.drop k).flatten=rows.flatten.drop (k*es)
 | [],_,k=>by simp
 | r::rows,hw,0=>by simp
 | r::rows,hw,k+1=>by
  have h1:=hw r (by simp)
  simp only[List.drop_succ_cons,List.flatten_cons]
  rw[Hl (fun r hr=>hw r (by simp[hr])) k,Nat.succ_mul,List.drop_append,List.drop_of_length_le (show r.length≤k*es+es by omega),List.nil_append]
  congr 1;omega
theorem Hk{es:Nat}:∀ {rows:List (List TV)} (_:∀ r∈rows,r.length=es) (k:Nat),(rows.take k).flatten=rows.flatten.take (k*es)
 | [],_,k=>by simp
 | r::rows,hw,0=>by simp
 | r::rows,hw,k+1=>by
  have h1:=hw r (by simp)
  simp only[List.take_succ_cons,List.flatten_cons]
  rw[Hk (fun r hr=>hw r (by simp[hr])) k,Nat.succ_mul,List.take_append,List.take_of_length_le (show r.length≤k*es+es by omega)]
  congr 2;omega
theorem VL.part{es eb:Nat}{rows:List (List TV)}{n o c:Nat}{cs:List Value}(hn:Fz n)(hb:h[n]?=some (.cells eb cs))(he:eb=es∨eb=0)(hw:∀ r∈rows,r.length=es)(hle:o+rows.length*es≤cs.length)
 (ha:∀(j:Nat) p x,rows.flatten[j]?=some p→cs[o+j]?=some x→VL Fz h noL p x) (l m:Nat) (hlm:l+m≤rows.length) (hc:m≤c):VL Fz h L (.list es ((rows.drop l).take m)) (.slice (some ⟨n,o+l*es,none⟩) m c):=by
 have hlen:((rows.drop l).take m).length=m:=by simp;omega
 have hw':∀ r∈rows.drop l,r.length=es:=fun r hr=>hw r (List.mem_of_mem_drop hr)
 have hmul:l*es+m*es≤rows.length*es:=by rw[← Nat.add_mul];exact Nat.mul_le_mul_right _ hlm
 have:=VL.list (Fz:=Fz) (h:=h) L es ((rows.drop l).take m) n (o+l*es) c cs eb hn hb he (fun r hr=>hw' r (List.mem_of_mem_take hr)) (by omega) (by rw[hlen];omega) (fun j p x h1 h2=>by
  rw[Hk hw',Hl hw,List.getElem?_take,List.getElem?_drop] at h1
  split at h1
  ·exact ha (l*es+j) p x h1 (by rw[← Nat.add_assoc];exact h2)
  ·cases h1)
 rw[hlen] at this
 exact this
def lfB:TB→Bool
 | .var row=>row.all (lf 4)
 | _=>true
theorem VL.frz{Fz':Nat→Prop}{n:Nat}{b:TB}(hB:BR h0.length Fz h L n b)(hlf:lfB b=true)(hF:∀ k,Fz k→Fz' k)(hN:∀ nm,(L n).nm=some nm→Fz' nm):∀(d:Nat) {p:TV} {x:Value},VL Fz h L p x→VL Fz' h L (frz n b d p) x
 | 0,p,x,hp=>by rw[Rex.frz];exact .Z L x
 | d+1,p,x,hp=>by
  have key:∀(l:List TV) (l':List Value),(∀(i:Nat) p x,l[i]?=some p→l'[i]?=some x→VL Fz h L p x)→∀(i:Nat) p x,(l.map (Rex.frz n b d))[i]?=some p→l'[i]?=some x→VL Fz' h L p x:=by
   intro l l' ha i p x hp hx
   rw[List.getElem?_map] at hp
   cases hq:l[i]? with
   | none=>rw[hq] at hp;cases hp
   | some q=>rw[hq] at hp;obtain rfl:=Option.some.inj hp;exact VL.frz hB hlf hF hN d (ha i q x hq hx)
  cases hp with
  | Z _ x=>exact .Z L x
  | v _ x hx=>exact .v L x hx
  | agg _ l l' hl ha=>exact .agg L _ l' (by simp[hl]) (key l l' ha)
  | tuple _ l l' hl ha=>exact .tuple L _ l' (by simp[hl]) (key l l' ha)
  | func _ f a b a' b' la ha lb hb=>exact (VL.func L f a b a' b' la ha lb hb).mono hF (fun _ _=>rfl)
  | nillist _ es=>exact .nillist L es
  | vague _ es=>exact .vague L es
  | list _ es rows n o c cs eb hn hb he hw hc hle ha=>exact (VL.list L es rows n o c cs eb hn hb he hw hc hle ha).mono hF (fun _ _=>rfl)
  | fptr _ vb row off n base es cs hn hb hv hle ha=>exact (VL.fptr L vb row off n base es cs hn hb hv hle ha).mono hF (fun _ _=>rfl)
  | lptr _ m r o nm ok hn =>
   simp only[Rex.frz]
   split
   ·rename_i e
    subst e
    cases b with
    | dead=>exact .Z L _
    | rows es rows =>
     simp only
     obtain⟨q1,q2,q3,q4,q5⟩:=hB
     split
     ·rename_i row hrow
      rcases q5 with q5|⟨nm',cs,e1,e2,e3,e4,e5⟩
      ·rw[q5.1] at hn;cases hn
      ·rw[hn] at e1
       obtain rfl:=Option.some.inj e1
       have hlt:=(List.getElem?_eq_some_iff.1 hrow).1
       have hl:=q4 row (List.mem_of_getElem? hrow)
       have hcl:cs.length=rows.length*es:=by rw[e5.len,jF q4]
       have hmul:r*es+es≤rows.length*es:=by rw[← Nat.succ_mul];exact Nat.mul_le_mul_right _ hlt
       rw[q2]
       refine .fptr L false row o nm (r*es) es cs (hN nm hn) e4 (fun h=>by cases h) (by omega) fun j p x h1 h2=>?_
       have hjl:=(List.getElem?_eq_some_iff.1 h1).1
       exact (e5.at' (r*es+j) p x (by rw[zQ q4 hrow (by omega)];exact h1) h2).mono hF (fun _ _=>rfl)
     ·exact .Z L _
    | var row =>
     simp only
     obtain⟨q1,nm',cs,e1,e2,e3,e4,e5⟩:=hB
     rw[hn] at e1
     obtain rfl:=Option.some.inj e1
     split
     ·rename_i hr0
      subst hr0
      refine .fptr L true row _ nm (0*(L m).es) 0 cs (hN nm hn) e4 (fun _=>rfl) (by have:=e5.len;omega) fun j p x h1 h2=>?_
      rw[Nat.zero_mul,Nat.zero_add] at h2
      have hl:row.all (lf 4)=true:=by simpa [lfB] using hlf
      exact (VL.toNo 4 (by simpa using List.all_eq_true.1 hl p (List.mem_of_getElem? h1)) (e5.at' j p x h1 h2)).mono hF (fun _ _=>rfl)
     ·exact .Z L _
   ·exact .lptr L m r o nm ok hn
  | lslnil _ m ok hn =>
   simp only[Rex.frz]
   split
   ·rename_i e
    subst e
    cases b with
    | rows es rows=>simp only[List.take_zero];exact .nillist L es
    | _=>exact .Z L _
   ·exact .lslnil L m ok hn
  | lsl _ m o len nm ok hn hle =>
   simp only[Rex.frz]
   split
   ·rename_i e
    subst e
    cases b with
    | rows es rows =>
     simp only
     obtain⟨q1,q2,q3,q4,q5⟩:=hB
     rcases q5 with q5|⟨nm',cs,e1,e2,e3,e4,e5⟩
     ·rw[q5.1] at hn;cases hn
     ·rw[hn] at e1
      obtain rfl:=Option.some.inj e1
      have hcl:cs.length=rows.length*es:=by rw[e5.len,jF q4]
      have:=VL.part (Fz:=Fz') (h:=h) (L:=L) (es:=es) (rows:=rows) (n:=nm) (o:=0) (c:=(L m).tot-o) (cs:=cs) (hN nm hn) e4 (.inl rfl) q4 (by omega) (fun j p x h1 h2=>by
       rw[Nat.zero_add] at h2
       exact (e5.at' j p x h1 h2).mono hF (fun _ _=>rfl)) o len (by rw[← q3];exact hle) (by omega)
      rw[Nat.zero_add] at this
      rw[q2]
      exact this
    | _=>exact .Z L _
   ·exact .lsl L m o len nm ok hn hle
def Ld(n:Nat)(b:TB):TB→TB
 | .var row=>.var (row.map (frz n b 4))
 | b'=>b'
theorem Wk.freeze(n:Nat){b:TB}(hb:s.hp[n]?=some b)(hlf:lfB b=true):Wk s ⟨s.tm.map (frz n b 4),(s.hp.map (Ld n b)).set n .dead⟩:=by
 intro h0 Fz L tm h hs
 have hB:=hs.blk n b hb
 have hnmlt:∀ nm,b.live=true→(L n).nm=some nm→h0.length≤nm∧nm<h.length:=by
  intro nm hlv hn
  cases b with
  | dead=>cases hlv
  | rows es rows =>
   obtain⟨-,-,-,-,h5⟩:=hB
   rcases h5 with h5|⟨nm',cs,e1,e2,e3,e4,e5⟩
   ·rw[h5.1] at hn;cases hn
   ·rw[e1] at hn;obtain rfl:=Option.some.inj hn
    exact⟨e2,(List.getElem?_eq_some_iff.1 e4).1⟩
  | var row =>
   obtain⟨-,nm',cs,e1,e2,e3,e4,e5⟩:=hB
   rw[e1] at hn;obtain rfl:=Option.some.inj hn
   exact⟨e2,(List.getElem?_eq_some_iff.1 e4).1⟩
 by_cases hlv:b.live=true
 ·refine⟨fun k=>Fz k∨(L n).nm=some k,L,⟨fun k hk=>.inl hk,fun k hk=>?_,fun _ _=>rfl⟩,?_⟩
  ·rcases hk with hk|hk
   ·exact .inl hk
   ·exact .inr (hnmlt k hlv hk).1
  have hF:∀ k,Fz k→(fun k=>Fz k∨(L n).nm=some k) k:=fun k hk=>.inl hk
  have hN:∀ nm,(L n).nm=some nm→(fun k=>Fz k∨(L n).nm=some k) nm:=fun nm hn=>.inr hn
  have hmap:∀(l:List TV) (x:List Value),VLs Fz h L l x→VLs (fun k=>Fz k∨(L n).nm=some k) h L (l.map (frz n b 4)) x:=by
   intro l x hx
   refine⟨by simp[hx.len],fun i p y hp hy=>?_⟩
   rw[List.getElem?_map] at hp
   cases hq:l[i]? with
   | none=>rw[hq] at hp;cases hp
   | some q=>rw[hq] at hp;obtain rfl:=Option.some.inj hp;exact VL.frz hB hlf hF hN 4 (hx.at' i q y hq hy)
  have inv:∀(k:Nat) (b':TB),((s.hp.map (Ld n b)).set n .dead)[k]?=some b'→b'.live=true→k≠n∧∃ b0:TB,s.hp[k]?=some b0∧b0.live=true∧b'=Ld n b b0:=by
   intro k b' hk hl
   by_cases e:k=n
   ·subst e
    rw[List.getElem?_set_self (by simpa using (List.getElem?_eq_some_iff.1 hb).1)] at hk
    obtain rfl:=Option.some.inj hk
    cases hl
   ·rw[List.getElem?_set_ne (Ne.symm e),List.getElem?_map] at hk
    cases hq:s.hp[k]? with
    | none=>rw[hq] at hk;cases hk
    | some b0 =>
     rw[hq] at hk
     obtain rfl:=Option.some.inj hk
     refine⟨e,b0,rfl,?_,rfl⟩
     cases b0<;>first|rfl|exact hl
  refine⟨hmap _ _ hs.tmr,?_,fun k hk=>by simpa using hs.dom k hk,?_,hs.fz.to hF (fun _ _=>rfl) ?_,hs.ext⟩
  ·intro k b' hk
   by_cases hl:b'.live=true
   ·obtain⟨hne,b0,hb0,hl0,rfl⟩:=inv k b' hk hl
    have hB0:=hs.blk k b0 hb0
    have hnf:∀ nm,(L k).nm=some nm→¬ Fz nm→¬(Fz nm∨(L n).nm=some nm):=fun nm hn hf hor=>by
     rcases hor with h1|h1
     ·exact hf h1
     ·exact hne (hs.inj k n b0 b nm hb0 hb hl0 hlv hn h1)
    cases b0 with
    | dead=>cases hl0
    | rows es rows =>
     obtain⟨q1,q2,q3,q4,q5⟩:=hB0
     refine⟨q1,q2,q3,q4,?_⟩
     rcases q5 with q5|⟨nm,cs,e1,e2,e3,e4,e5⟩
     ·exact .inl q5
     ·exact .inr ⟨nm,cs,e1,e2,hnf nm e1 e3,e4,e5.mono hF (fun _ _=>rfl)⟩
    | var row =>
     obtain⟨q1,nm,cs,e1,e2,e3,e4,e5⟩:=hB0
     exact⟨q1,nm,cs,e1,e2,hnf nm e1 e3,e4,hmap _ _ e5⟩
   ·cases b' with
    | dead=>trivial
    | _=>exact absurd rfl hl
  ·intro k k' c c' nm hk hk' l1 l2 e1 e2
   obtain⟨-,b1,g1,g2,-⟩:=inv k c hk l1
   obtain⟨-,b2,g3,g4,-⟩:=inv k' c' hk' l2
   exact hs.inj k k' b1 b2 nm g1 g3 g2 g4 e1 e2
  ·intro k hk
   rcases hk with hk|hk
   ·exact hs.fz k hk
   ·exact (hnmlt k hlv hk).2
 ·
  obtain rfl:b = .dead:=by cases b<;>first|rfl|exact absurd rfl hlv
  have hmap:∀(l:List TV) (x:List Value),VLs Fz h L l x→VLs Fz h L (l.map (frz n .dead 4)) x:=by
   intro l x hx
   refine⟨by simp[hx.len],fun i p y hp hy=>?_⟩
   rw[List.getElem?_map] at hp
   cases hq:l[i]? with
   | none=>rw[hq] at hp;cases hp
   | some q =>
    rw[hq] at hp;obtain rfl:=Option.some.inj hp
    have hv:=hx.at' i q y hq hy
    have:∀(d:Nat) {p:TV} {x:Value},VL Fz h L p x→VL Fz h L (frz n .dead d p) x:=by
     intro d
     induction d with
     | zero=>intro p x _;exact .Z L x
     | succ d ih =>
      intro p x hp
      have key:∀(l:List TV) (l':List Value),(∀(i:Nat) p x,l[i]?=some p→l'[i]?=some x→VL Fz h L p x)→∀(i:Nat) p x,(l.map (Rex.frz n .dead d))[i]?=some p→l'[i]?=some x→VL Fz h L p x:=by
       intro l l' ha i p x hp hx
       rw[List.getElem?_map] at hp
       cases hq:l[i]? with
       | none=>rw[hq] at hp;cases hp
       | some q=>rw[hq] at hp;obtain rfl:=Option.some.inj hp;exact ih (ha i q x hq hx)
      cases hp with
      | agg _ l l' hl ha=>exact .agg L _ l' (by simp[hl]) (key l l' ha)
      | tuple _ l l' hl ha=>exact .tuple L _ l' (by simp[hl]) (key l l' ha)
      | lptr _ m r o nm ok hn =>
       simp only[Rex.frz]
       split
       ·exact .Z L _
       ·exact .lptr L m r o nm ok hn
      | lslnil _ m ok hn =>
       simp only[Rex.frz]
       split
       ·exact .Z L _
       ·exact .lslnil L m ok hn
      | lsl _ m o len nm ok hn hle =>
       simp only[Rex.frz]
       split
       ·exact .Z L _
       ·exact .lsl L m o len nm ok hn hle
      | Z _ x=>exact .Z L x
      | v _ x hx=>exact .v L x hx
      | func _ f a b a' b' la ha lb hb=>exact .func L f a b a' b' la ha lb hb
      | nillist _ es=>exact .nillist L es
      | vague _ es=>exact .vague L es
      | list _ es rows n o c cs eb hn hb he hw hc hle ha=>exact .list L es rows n o c cs eb hn hb he hw hc hle ha
      | fptr _ vb row off n base es cs hn hb hv hle ha=>exact .fptr L vb row off n base es cs hn hb hv hle ha
    exact this 4 hv
  refine⟨Fz,L,Grow.refl _ _,hmap _ _ hs.tmr,?_,fun k hk=>by simpa using hs.dom k hk,?_,hs.fz,hs.ext⟩
  all_goals
   have inv:∀(k:Nat) (b':TB),((s.hp.map (Ld n .dead)).set n .dead)[k]?=some b'→b'.live=true→∃ b0:TB,s.hp[k]?=some b0∧b0.live=true∧b'=Ld n .dead b0:=by
    intro k b' hk hl
    by_cases e:k=n
    ·subst e
     rw[List.getElem?_set_self (by simpa using (List.getElem?_eq_some_iff.1 hb).1)] at hk
     obtain rfl:=Option.some.inj hk
     cases hl
    ·rw[List.getElem?_set_ne (Ne.symm e),List.getElem?_map] at hk
     cases hq:s.hp[k]? with
     | none=>rw[hq] at hk;cases hk
     | some b0 =>
      rw[hq] at hk
      obtain rfl:=Option.some.inj hk
      refine⟨b0,rfl,?_,rfl⟩
      cases b0<;>first|rfl|exact hl
  ·intro k b' hk
   by_cases hl:b'.live=true
   ·obtain⟨b0,hb0,hl0,rfl⟩:=inv k b' hk hl
    have hB0:=hs.blk k b0 hb0
    cases b0 with
    | dead=>cases hl0
    | rows es rows=>exact hB0
    | var row =>
     obtain⟨q1,nm,cs,e1,e2,e3,e4,e5⟩:=hB0
     exact⟨q1,nm,cs,e1,e2,e3,e4,hmap _ _ e5⟩
   ·cases b' with
    | dead=>trivial
    | _=>exact absurd rfl hl
  ·intro k k' c c' nm hk hk' l1 l2 e1 e2
   obtain⟨b1,g1,g2,-⟩:=inv k c hk l1
   obtain⟨b2,g3,g4,-⟩:=inv k' c' hk' l2
   exact hs.inj k k' b1 b2 nm g1 g3 g2 g4 e1 e2
end
end Go.Rex
