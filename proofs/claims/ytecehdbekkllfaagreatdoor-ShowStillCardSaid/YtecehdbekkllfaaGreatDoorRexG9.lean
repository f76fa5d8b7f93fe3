/- An executor of the program's functions on trees of values,proved sound. -/
import Derived.Test.YtecehdbekkllfaaGreatDoorRexG8
import Derived.KernelRfl
import Derived.Test.YtecehdbekkllfaaGreatDoorRexG6
set_option linter.unusedSimpArgs false
set_option linter.unusedVariables false
set_option linter.defProp false
namespace Go.Rex
open Go.RowKit
section
variable {C:Ctx} {P:Program} {Fz:Nat→Prop} {h h0:List Blk} {L:Nat→LI} {s:TS} {tm:List Value}
variable {dst:Option Tmp} {ty:TypeId} {pos:String} {aft:Array Edge} {gd:Option (Nat×Bool)}
def tbnd(x:Option TV)(d:Nat):Option Nat:=
 match x with
 | none=>some d
 | some (.v (.int _ i))=>if 0≤i then some i.toNat else none
 | some _=>none
theorem xC{x:Option TV}{y:Option Value}{d k:Nat}(hx:∀ p,x=some p→∃ v,y=some v∧VL Fz h L p v)(hn:x=none→y=none)(hk:tbnd x d=some k):bnd y d=some k:=by
 cases x with
 | none=>rw[hn rfl];exact hk
 | some p =>
  obtain⟨v,rfl,hv⟩:=hx p rfl
  unfold tbnd at hk
  split at hk
  ·rename_i e;cases e
  ·rename_i _ kk i e
   obtain rfl:=a6 e
   rw[hv.bool_inv]
   exact hk
  ·cases hk
theorem vD{g:FuncId}{f:Operand}{args:Array Operand}{tys:Array TypeId}{first caps:List Value}(hf:ev tm f = .func (.func g) ⟨first⟩ ⟨caps⟩)(hg:cM P g=true) :
 xop C P (ev tm) { dst:=dst,op:=.call { callee:=.value f,args:=args,argTypes:=tys },type:=ty,pos:=pos,after:=aft,guard:=gd } h=C.call g (first++(args.toList.map (ev tm)++caps)) h:=by
 simp only[xop,hop,bhop]
 rw[yP]
 simp only[hf]
 rw[b5 hg]
theorem vJ(hz:FZ Fz h)(hs:VLs Fz h L s.tm tm)(args:List Operand):VLs Fz h L (args.map (tev s.tm)) (args.map (ev tm)):=by
 refine⟨by simp,fun i p x hp hx=>?_⟩
 rw[d8] at hp hx
 cases hq:args[i]? with
 | none=>rw[hq] at hp;cases hp
 | some q =>
  rw[hq] at hp hx
  obtain rfl:=a6 hp
  obtain rfl:=a6 hx
  exact cA hz hs q
theorem VLs.toNo{l:List TV}{x:List Value}(hs:VLs Fz h L l x)(hl:l.all (lf 4)=true){L':Nat→LI}:VLs Fz h L' l x:=
 ⟨hs.len,fun i p y hp hy=>VL.toNo 4 (by simpa using b9.1 hl p (d4 hp)) (hs.at' i p y hp hy)⟩
theorem OpGs.call{f:Operand}{g:FuncId}{args:Array Operand}{tys:Array TypeId}{first caps as:List TV}{p:TV}{th:List TB}(hf:tev s.tm f = .func g first caps)(hg:cM P g=true)(has:first++(args.toList.map (tev s.tm)++caps)=as)
 (hl:as.all (lf 4)=true) (hsp:Spec C g as ⟨[p],th⟩) (hth:th.all lH=true) :
 OpGs C P { dst:=dst,op:=.call { callee:=.value f,args:=args,argTypes:=tys },type:=ty,pos:=pos,after:=aft,guard:=gd } s ⟨tput s.tm dst (shift s.hp.length 4 p),s.hp++th⟩:=by
 intro h0 Fz L tm h hs
 subst has
 have hfv:=cA hs.fz hs.tmr f
 rw[hf] at hfv
 obtain⟨f',c',hfe,vf,vc⟩:∃ f' c',ev tm f = .func (.func g) ⟨f'⟩ ⟨c'⟩∧VLs Fz h noL first f'∧VLs Fz h noL caps c':=by
  generalize ev tm f=y at *
  cases hfv with
  | func _ _ _ _ a' b' la ha lb hb=>exact⟨a',b',rfl,⟨la,ha⟩,⟨lb,hb⟩⟩
 have hargs:VLs Fz h noL (first++(args.toList.map (tev s.tm)++caps)) (f'++(args.toList.map (ev tm)++c')):=by
  refine VLs.append vf (VLs.append (VLs.toNo (vJ hs.fz hs.tmr args.toList) ?_) vc)
  simp only[List.all_append,Bool.and_eq_true] at hl
  exact hl.2.1
 obtain⟨v,h',F1,L1,hc,g1,hr⟩:=hsp Fz h _ hs.fz hargs
 obtain⟨L3,h3,h4⟩:=hs.adopt2 dst hr hth g1
 refine⟨rfl,rfl,v,h',by rw[vD hfe hg];exact hc,hr.ext,F1,L3,⟨g1.1,fun n hn=>?_,g1.3⟩,h3,fun n hn=>g1.2 n hn,h4⟩
 rcases g1.2 n hn with h1|h1
 ·exact .inl h1
 ·exact .inr (e6 hs.ext.le h1)
theorem OpG.call{f:Operand}{g:FuncId}{args:Array Operand}{tys:Array TypeId}{first caps as:List TV}{p:TV}{th:List TB}(hf:tev s.tm f = .func g first caps)(hg:cM P g=true)(has:first++(args.toList.map (tev s.tm)++caps)=as)
 (hl:as.all (lf 4)=true) (hsp:Spec C g as ⟨[p],th⟩) (hth:th.all lH=true) :
 OpG C P { dst:=dst,op:=.call { callee:=.value f,args:=args,argTypes:=tys },type:=ty,pos:=pos,after:=aft,guard:=gd } s ⟨tput s.tm dst (shift s.hp.length 4 p),s.hp++th⟩:=(OpGs.call hf hg has hl hsp hth).toG
def view(hp:List TB):Nat→TV→TV
 | 0,_=>.Z
 | d+1,p=>match p with
  | .lsl n o len=>(match hp[n]? with
   | some (.rows es rows)=>.list es ((rows.drop o).take len)
   | _=>.Z)
  | .lptr n r o=>(match dL hp (.lptr n r o) with
   | some (row,o)=>if row.all (lf 4)=true then .fptr false row o else .Z
   | none=>.Z)
  | .agg l=>.agg (l.map (view hp d))
  | .tuple l=>.tuple (l.map (view hp d))
  | p=>p
def oQ(Fz:Nat→Prop)(L:Nat→LI)(s:TS):Nat→Prop:=fun k=>Fz k∨∃ n b,s.hp[n]?=some b∧b.live=true∧(L n).nm=some k
theorem VL.view(hs:St h0 Fz L s tm h):∀(d:Nat) {p:TV} {x:Value},VL Fz h L p x→VL (oQ Fz L s) h noL (view s.hp d p) x
 | 0,p,x,hp=>by rw[Rex.view];exact .Z noL x
 | d+1,p,x,hp=>by
  have hF:∀ n,Fz n→oQ Fz L s n:=fun n hn=>.inl hn
  have key:∀(l:List TV) (l':List Value),(∀(i:Nat) p x,l[i]?=some p→l'[i]?=some x→VL Fz h L p x)→∀(i:Nat) p x,(l.map (Rex.view s.hp d))[i]?=some p→l'[i]?=some x→VL (oQ Fz L s) h noL p x:=by
   intro l l' ha i p x hp hx
   rw[d8] at hp
   cases hq:l[i]? with
   | none=>rw[hq] at hp;cases hp
   | some q=>rw[hq] at hp;obtain rfl:=a6 hp;exact VL.view hs d (ha i q x hq hx)
  cases hp with
  | Z _ x=>exact .Z noL x
  | v _ x hx=>exact .v noL x hx
  | agg _ l l' hl ha=>exact .agg noL _ l' (by simp[hl]) (key l l' ha)
  | tuple _ l l' hl ha=>exact .tuple noL _ l' (by simp[hl]) (key l l' ha)
  | func _ f a b a' b' la ha lb hb=>exact (VL.func noL f a b a' b' la ha lb hb).mono hF (fun _ _=>rfl)
  | nillist _ es=>exact .nillist noL es
  | vague _ es=>exact .vague noL es
  | list _ es rows n o c cs eb hn hb he hw hc hle ha=>exact (VL.list noL es rows n o c cs eb hn hb he hw hc hle ha).mono hF (fun _ _=>rfl)
  | fptr _ vb row off n base es cs hn hb hv hle ha=>exact (VL.fptr noL vb row off n base es cs hn hb hv hle ha).mono hF (fun _ _=>rfl)
  | lptr _ n r o nm ok hn =>
   simp only[Rex.view]
   split
   ·rename_i row o' hr
    split
    ·rename_i hlf
     have hbl:∃ b,s.hp[n]?=some b∧b.live=true:=by
      simp only[dL] at hr
      split at hr
      ·rename_i hb;exact⟨_,hb,rfl⟩
      ·rename_i hb;exact⟨_,hb,rfl⟩
      ·cases hr
     obtain⟨b,hb,hlv⟩:=hbl
     obtain⟨n',bb,es,cs,he,hcs,hle,hv⟩:=oC hs (VL.lptr (Fz:=Fz) (h:=h) L n r o nm ok hn) hr
     injection he with he
     injection he with he
     injection he with he1 he2
     subst he1
     rw[he2]
     have:=VL.fptr (Fz:=oQ Fz L s) (h:=h) noL false row o' nm bb es cs (.inr ⟨n,b,hb,hlv,hn⟩) hcs (fun h=>by cases h) hle (fun j p x h1 h2=>by
      have hjl:=(a7.1 h1).1
      have h3:((cs.drop bb).take row.length)[j]?=some x:=by
       rw[j6,b5 hjl,j2];exact h2
      exact (VL.toNo 4 (by simpa using b9.1 hlf p (d4 h1)) (hv.at' j p x h1 h3)).mono hF (fun _ _=>rfl))
     exact this
    ·exact .Z noL _
   ·exact .Z noL _
  | lslnil _ n ok hn =>
   simp only[Rex.view]
   split
   ·simp only[List.take_zero];exact .nillist noL _
   ·exact .Z noL _
  | lsl _ n o len nm ok hn hle =>
   simp only[Rex.view]
   split
   ·rename_i es rows hb
    obtain⟨q1,q2,q3,q4,q5⟩:=hs.blk n _ hb
    rcases q5 with q5|⟨nm',cs,e1,e2,e3,e4,e5⟩
    ·rw[q5.1] at hn;cases hn
    ·rw[hn] at e1
     obtain rfl:=a6 e1
     have hcl:cs.length=rows.length*es:=by rw[e5.len,dN q4]
     have:=VL.part (Fz:=oQ Fz L s) (h:=h) (L:=noL) (es:=es) (rows:=rows) (n:=nm) (o:=0) (c:=(L n).tot-o) (cs:=cs) (.inr ⟨n,_,hb,rfl,hn⟩) e4 (.inl rfl) q4 (by omega) (fun j p x h1 h2=>by
      rw[i6] at h2
      exact (e5.at' j p x h1 h2).mono hF (fun _ _=>rfl)) o len (by rw[← q3];exact hle) (by omega)
     rw[i6] at this
     rw[q2]
     exact this
   ·exact .Z noL _
def iQ:TB→Bool
 | .rows _ rows=>rows.all fun r=>r.all (cl 4)
 | .var row=>row.all (cl 4)
 | .dead=>true
theorem St.ofCl{L2:Nat→LI}{p:TV}{v:Value}{th:List TB}{Fz':Nat→Prop}{h':List Blk}(hr:St h Fz' L2 ⟨[p],th⟩ [v] h')(hp:cl 4 p=true)(hth:th.all iQ=true){F:Nat→Prop}(hF:FZ F h):St h F L2 ⟨[p],th⟩ [v] h':=by
 have hv:VL Fz' h' L2 p v:=hr.tmr.at' 0 p v rfl rfl
 refine⟨VLs.cons (hv.ofCl 4 hp) VLs.nil,fun n b hb=>?_,hr.dom,hr.inj,⟨fun n hn=>e7 (hF n hn) hr.ext.le,fun g hg=>⟨(hF.gl g hg).1,(hr.fz.gl g hg).2⟩⟩,hr.ext⟩
 have hc:=b9.1 hth b (d4 hb)
 have hB:=hr.blk n b hb
 cases b with
 | dead=>trivial
 | rows es rows =>
  obtain⟨q1,q2,q3,q4,q5⟩:=hB
  refine⟨q1,q2,q3,q4,?_⟩
  rcases q5 with q5|⟨nm,cs,e1,e2,e3,e4,e5⟩
  ·exact .inl q5
  ·refine .inr ⟨nm,cs,e1,e2,fun hf=>by have:=hF _ hf;omega,e4,e5.len,fun i p x hp hx=>VL.ofCl 4 ?_ (e5.at' i p x hp hx)⟩
   have hm:=d4 hp
   simp only[List.mem_flatten] at hm
   obtain⟨r,hr,hpr⟩:=hm
   simp only[iQ] at hc
   exact b9.1 (b9.1 hc r hr) p hpr
 | var row =>
  obtain⟨q1,nm,cs,e1,e2,e3,e4,e5⟩:=hB
  refine⟨q1,nm,cs,e1,e2,fun hf=>by have:=hF _ hf;omega,e4,e5.len,fun i p x hp hx=>VL.ofCl 4 ?_ (e5.at' i p x hp hx)⟩
  simp only[iQ] at hc
  exact b9.1 hc p (d4 hp)
theorem OpG.look{f:Operand}{g:FuncId}{args:Array Operand}{tys:Array TypeId}{first caps as:List TV}{p:TV}{th:List TB}(hf:tev s.tm f = .func g first caps)(hg:cM P g=true)(has:first++((args.toList.map (tev s.tm)).map (view s.hp 4)++caps)=as)
 (hsp:Spec C g as ⟨[p],th⟩) (hth:th.all lH=true) (hp:cl 4 p=true) (hcl:th.all iQ=true) :
 OpG C P { dst:=dst,op:=.call { callee:=.value f,args:=args,argTypes:=tys },type:=ty,pos:=pos,after:=aft,guard:=gd } s ⟨tput s.tm dst (shift s.hp.length 4 p),s.hp++th⟩:=by
 intro h0 Fz L tm h hs
 subst has
 have hfv:=cA hs.fz hs.tmr f
 rw[hf] at hfv
 have hF:∀ n,Fz n→oQ Fz L s n:=fun n hn=>.inl hn
 obtain⟨f',c',hfe,vf,vc⟩:∃ f' c',ev tm f = .func (.func g) ⟨f'⟩ ⟨c'⟩∧VLs Fz h noL first f'∧VLs Fz h noL caps c':=by
  generalize ev tm f=y at *
  cases hfv with
  | func _ _ _ _ a' b' la ha lb hb=>exact⟨a',b',rfl,⟨la,ha⟩,⟨lb,hb⟩⟩
 have hargs:VLs (oQ Fz L s) h noL (first++((args.toList.map (tev s.tm)).map (Rex.view s.hp 4)++caps)) (f'++(args.toList.map (ev tm)++c')):=by
  refine VLs.append (vf.mono hF (fun _ _=>rfl)) (VLs.append ?_ (vc.mono hF (fun _ _=>rfl)))
  have ha:=vJ hs.fz hs.tmr args.toList
  refine⟨by simp,fun i p x hp hx=>?_⟩
  rw[d8] at hp
  cases hq:(args.toList.map (tev s.tm))[i]? with
  | none=>rw[hq] at hp;cases hp
  | some q=>rw[hq] at hp;obtain rfl:=a6 hp;exact VL.view hs 4 (ha.at' i q x hq hx)
 have hall:FZ (oQ Fz L s) h:=by
  refine hs.fz.to hF (fun _ _=>rfl) ?_
  rintro n (hn|⟨m,b,hb,hlv,hn⟩)
  ·exact hs.fz n hn
  ·exact (hs.lowB m b n hb hlv hn).1
 obtain⟨v,h',F1,L1,hc,g1,hr⟩:=hsp _ h _ hall hargs
 have hr':=hr.ofCl hp hcl hs.fz
 obtain⟨L3,h3⟩:=hs.adopt dst hr' hth (Grow.ext hs.fz hr.ext)
 exact⟨rfl,v,h',by rw[vD hfe hg];exact hc,hr.ext,Fz,L3,Grow.ext hs.fz hr.ext,h3⟩
def iE(P:Program)(hp:List TB)(tm:List TV):List ResultVar→Option (List TV)
 | []=>some []
 | r::rs=>match tres (tload P hp) tm r with
  | some v=>(iE P hp tm rs).map fun vs=>v::vs
  | none=>none
theorem iK(hs:St h0 Fz L s tm h):∀(rs:List ResultVar) (ps:List TV),iE P s.hp s.tm rs=some ps→∃ vs,gK P h tm rs=some vs∧VLs Fz h L ps vs
 | [],ps,hp=>by obtain rfl:=a6 hp;exact⟨[],rfl,VLs.nil⟩
 | r::rs,ps,hp=>by
  simp only[iE] at hp
  split at hp
  ·rename_i p hr
   obtain⟨ps',h1,rfl⟩:=g7.1 hp
   obtain⟨vs,h2,h3⟩:=iK hs rs ps' h1
   have:∃ v,Be P h tm r=some v∧VL Fz h L p v:=by
    cases r with
    | tmp t =>
     simp only[tres] at hr
     obtain rfl:=a6 hr
     exact⟨_,rfl,cA hs.fz hs.tmr (.tmp t)⟩
    | cell a t =>
     simp only[tres] at hr
     obtain⟨n,o,v,hx,hl,hv⟩:=oH hs (cA hs.fz hs.tmr (.tmp a)) hr
     refine⟨v,?_,hv⟩
     simp only[ev] at hx
     simp only[Be,hx,hl]
   obtain⟨v,h4,h5⟩:=this
   exact⟨v::vs,by simp only[gK,h4,h2,Option.map_some],VLs.cons h5 h3⟩
  ·cases hp
theorem Spec.fn{f:FuncId}{fd:Func}{c:Code}{args:List TV}{r:TS}(hf:P.funcs[f]?=some fd)(hb:fd.body=some c){tm0:List TV}(htm:args++List.replicate (fd.ntmps-args.length) TV.Z=tm0)
 (hx:TX (lim P) P c ⟨tm0,[]⟩ (fun e s=>(e = .normal∨e = .ret)∧∃ ps,iE P s.hp s.tm fd.results.toList=some ps∧Wk ⟨[Cl ps],s.hp⟩ r)) (hcov:cov r=true):Spec (lim P) f args r:=by
 intro Fz h vs hfz hargs
 subst htm
 have hs:St h Fz noL ⟨args++List.replicate (fd.ntmps-args.length) TV.Z,[]⟩ (vs++List.replicate (fd.ntmps-vs.length) undef) h:=by
  refine⟨?_,fun n b hb=>by simp at hb,fun n hn=>by simp[noL] at hn,fun n n' b b' nm hb=>by simp at hb,hfz,Ext.refl h⟩
  refine VLs.append hargs ?_
  rw[hargs.len]
  exact VLs.replicate (.Z noL undef) _
 obtain⟨K,e,a1,h1,w1,hexec,hw,hdf,s1,F1,L1,⟨he,ps,hps,hwk⟩,g1,hs1⟩:=hx h Fz noL _ h hs
 obtain⟨vs1,hres,hvs1⟩:=iK (P:=P) hs1 _ ps hps
 have hs2:St h F1 L1 ⟨[Cl ps],s1.hp⟩ [eV vs1] h1:=⟨VLs.cons (Bn hvs1) VLs.nil,hs1.blk,hs1.dom,hs1.inj,hs1.fz,hs1.ext⟩
 obtain⟨F2,L2,g2,hs3⟩:=hwk h F1 L1 _ h1 hs2
 have hm:wmin w1 none=w1:=by cases w1<;>rfl
 by_cases hcl:aV (eV vs1)=true
 ·obtain⟨L4,hs4⟩:=hs3.clean hcl hcov hfz
  refine⟨eV vs1,h,Fz,L4,oA (K:=K) ?_,Grow.refl _ _,hs4⟩
  unfold dF
  simp only[hf,hb,hexec]
  have hend:iL P fd h.length h a1 h1 w1=some (eV vs1,h,none):=by
   simp only[iL,hdf,bM,hres,hcl,if_true,hm,hw]
  rcases he with rfl|rfl<;>exact hend
 ·refine⟨eV vs1,h1,F2,L2,oA (K:=K) ?_,g1.trans g2,hs3⟩
  unfold dF
  simp only[hf,hb,hexec]
  have hend:iL P fd h.length h a1 h1 w1=some (eV vs1,h1,none):=by
   simp[iL,hdf,bM,hres,hcl,hm,hw]
  rcases he with rfl|rfl<;>exact hend
theorem Spec.ov{f g:FuncId}{args:List TV}{r:TS}(hs:Spec (lim P) g args r)(hne:g≠f):Spec (over P f) g args r:=by
 intro Fz h vs hfz hargs
 obtain⟨v,h',F1,L1,hc,g1,hr⟩:=hs Fz h vs hfz hargs
 refine⟨v,h',F1,L1,?_,g1,hr⟩
 rw[rL,b6 (fun hh=>hne hh.1)]
 exact hc
theorem Spec.awake{f:FuncId}:Spec (over P f) f [] ⟨[.v (.bool true)],[]⟩:=by
 intro Fz h vs hfz hargs
 have:vs=[]:=by have:=hargs.len;simpa using this
 subst this
 exact⟨.bool true,h,Fz,noL,by rw[rL,b5 ⟨rfl,rfl⟩],Grow.refl _ _,⟨VLs.cons (.v noL _ rfl) VLs.nil,fun n b hb=>by simp at hb,fun n hn=>by simp[noL] at hn,fun n n' b b' nm hb=>by simp at hb,hfz,Ext.refl h⟩⟩
theorem Bx(hm:P.follows .mixedOrders=true){f:FuncId}(hv:AwT P f){g:FuncId}{fd:Func}{c:Code}{args:List TV}(hf:P.funcs[g]?=some fd)(hb:fd.body=some c)
 {tm0:List TV} (htm:args++List.replicate (fd.ntmps-args.length) TV.Z=tm0)
 (hx:TX (over P f) P c ⟨tm0,[]⟩ (fun e s=>(e = .normal∨e = .ret)∧iE P s.hp s.tm fd.results.toList=some [.v (.bool true)]))
 {Fz:Nat→Prop} {h:List Blk} {vs:List Value} (hfz:FZ Fz h) (hargs:VLs Fz h noL args vs)
 {B lo:Nat} {D:Nat→Prop} {m:NMap} {w:World} {args':List Value} (hr:Rel B lo D m h w) (hlo:lo≤h.length) (hargs':VRs D m vs args'):Calls P g ⟨args'⟩ w (fun e w'=>e = .returned (.bool true)∧Below w.heap.size w w'):=by
 refine zR hm hv hf hb (args:=vs) rfl ?_ hr hlo hargs'
 subst htm
 have hs:St h Fz noL ⟨args++List.replicate (fd.ntmps-args.length) TV.Z,[]⟩ (vs++List.replicate (fd.ntmps-vs.length) undef) h:=by
  refine⟨?_,fun n b hb=>by simp at hb,fun n hn=>by simp[noL] at hn,fun n n' b b' nm hb=>by simp at hb,hfz,Ext.refl h⟩
  refine VLs.append hargs ?_
  rw[hargs.len]
  exact VLs.replicate (.Z noL undef) _
 refine (hx h Fz noL _ h hs).mono ?_
 rintro e a' h' ⟨hd,s',F',L',⟨he,hres⟩,g,hs'⟩
 refine⟨he,hd,?_⟩
 obtain⟨vs1,h1,h2⟩:=iK (P:=P) hs' _ _ hres
 have hl:=h2.len
 match vs1,hl,h1,h2 with
 | [x],_,h1,h2 =>
  have:=h2.at' 0 _ x rfl rfl
  exact⟨[x],h1,by rw[this.bool_inv];rfl⟩
end
end Go.Rex
namespace Go.Rex
open Go.RowKit
section
inductive RN (fl:List (Option Nat)):TV→TV→Prop
 | Z {p:TV}:RN fl p .Z
 | keep {p q:TV} (e:p=q) (h:lf 4 q=true):RN fl p q
 | lsl {n o len j len':Nat} (h:fl[j]?=some (some n)) (e:len=len'):RN fl (.lsl n o len) (.lsl j o len')
 | lptr {n r o j:Nat} (h:fl[j]?=some (some n)):RN fl (.lptr n r o) (.lptr j r o)
 | nil {j:Nat} (h:fl[j]?=some none):RN fl (.v (.slice none 0 0)) (.lsl j 0 0)
 | nl {es:Nat}:RN fl (.v (.slice none 0 0)) (.list es [])
 | agg {l l':List TV} (hl:l'.length=l.length) (h:∀(i:Nat) p q,l[i]?=some p→l'[i]?=some q→RN fl p q):RN fl (.agg l) (.agg l')
 | tuple {l l':List TV} (hl:l'.length=l.length) (h:∀(i:Nat) p q,l[i]?=some p→l'[i]?=some q→RN fl p q):RN fl (.tuple l) (.tuple l')
structure RNs(fl:List (Option Nat))(l l':List TV):Prop where
 len:l'.length=l.length
 at':∀(i:Nat) p q,l[i]?=some p→l'[i]?=some q→RN fl p q
theorem RNs.nil{fl:List (Option Nat)}:RNs fl [] []:=⟨rfl,fun i p q h=>by simp at h⟩
theorem RNs.cons{fl:List (Option Nat)}{p q:TV}{l l':List TV}(h:RN fl p q)(hs:RNs fl l l'):RNs fl (p::l) (q::l'):=by
 refine⟨by simp[hs.len],fun i p q hp hq=>?_⟩
 cases i with
 | zero=>simp at hp hq;subst hp hq;exact h
 | succ i=>simp at hp hq;exact hs.at' i _ _ hp hq
theorem RN.tuple'{fl:List (Option Nat)}{l l':List TV}(h:RNs fl l l'):RN fl (.tuple l) (.tuple l'):=.tuple h.len h.at'
variable {Fz:Nat→Prop} {h:List Blk} {L L':Nat→LI}
theorem RN.vl{fl:List (Option Nat)}(hL:∀ j n,fl[j]?=some (some n)→L' j=L n)(hV:∀ j,fl[j]?=some none→(L' j).ok=true∧(L' j).nm=none){p q:TV}(hr:RN fl p q):∀ {x:Value},VL Fz h L p x→VL Fz h L' q x:=by
 induction hr with
 | Z=>intro x _;exact .Z L' x
 | keep e hl=>intro x hp;subst e;exact VL.toNo 4 hl hp
 | lsl hj e =>
  intro x hp
  subst e
  have e:=hL _ _ hj
  cases hp with
  | lslnil _ _ ok hn=>rw[← e] at ok hn;exact .lslnil L' _ ok hn
  | lsl _ _ _ _ nm ok hn hle=>rw[← e] at ok hn hle ⊢;exact .lsl L' _ _ _ nm ok hn hle
 | lptr hj =>
  intro x hp
  have e:=hL _ _ hj
  cases hp with
  | lptr _ _ _ _ nm ok hn=>rw[← e] at ok hn ⊢;exact .lptr L' _ _ _ nm ok hn
 | nil hj =>
  intro x hp
  obtain rfl:=hp.bool_inv
  exact .lslnil L' _ (hV _ hj).1 (hV _ hj).2
 | nl =>
  intro x hp
  obtain rfl:=hp.bool_inv
  exact .nillist L' _
 | @agg l l' hl hh ih =>
  intro x hp
  cases hp with
  | agg _ _ l2 hl2 ha =>
   refine .agg L' l' l2 (by omega) fun i p y h1 h2=>?_
   have hlt:=(a7.1 h1).1
   have h0:l[i]?=some l[i]:=a9 (by omega)
   exact ih i _ _ h0 h1 (ha i _ _ h0 h2)
 | @tuple l l' hl hh ih =>
  intro x hp
  cases hp with
  | tuple _ _ l2 hl2 ha =>
   refine .tuple L' l' l2 (by omega) fun i p y h1 h2=>?_
   have hlt:=(a7.1 h1).1
   have h0:l[i]?=some l[i]:=a9 (by omega)
   exact ih i _ _ h0 h1 (ha i _ _ h0 h2)
def oN:List (Option Nat)→Bool
 | []=>true
 | none::l=>oN l
 | some n::l=>l.all (fun x=>x != some n)&&oN l
theorem nJ:∀ {fl:List (Option Nat)},oN fl=true→∀(i j n:Nat),fl[i]?=some (some n)→fl[j]?=some (some n)→i=j
 | [],_,i,j,n,h,_=>by simp at h
 | none::l,hr,i,j,n,h1,h2=>by
  cases i with
  | zero=>simp at h1
  | succ i=>cases j with
   | zero=>simp at h2
   | succ j=>rw[nJ (fl:=l) (by simpa [oN] using hr) i j n (by simpa using h1) (by simpa using h2)]
 | some m::l,hr,i,j,n,h1,h2=>by
  simp only[oN,Bool.and_eq_true] at hr
  have hne:∀ k,l[k]?≠some (some m):=fun k hk=>by
   have:=b9.1 hr.1 _ (d4 hk)
   simp at this
  cases i with
  | zero=>cases j with
   | zero=>rfl
   | succ j=>simp at h1;subst h1;exact absurd (by simpa using h2) (hne j)
  | succ i=>cases j with
   | zero=>simp at h2;subst h2;exact absurd (by simpa using h1) (hne i)
   | succ j=>rw[nJ (fl:=l) hr.2 i j n (by simpa using h1) (by simpa using h2)]
inductive RB (fl:List (Option Nat)) (hp:List TB):List TB→List (Option Nat)→Prop
 | nil:RB fl hp [] []
 | virt {es:Nat} {hp':List TB} {l:List (Option Nat)} (h:RB fl hp hp' l):RB fl hp (.rows es []::hp') (none::l)
 | rows {n es:Nat} {rows rows':List (List TV)} {hp':List TB} {l:List (Option Nat)} (h:RB fl hp hp' l) (hb:hp[n]?=some (.rows es rows)) (e:rows=rows'):RB fl hp (.rows es rows'::hp') (some n::l)
 | var {n:Nat} {row row':List TV} {hp':List TB} {l:List (Option Nat)} (h:RB fl hp hp' l) (hb:hp[n]?=some (.var row)) (hr:RNs fl row row'):RB fl hp (.var row'::hp') (some n::l)
theorem RB.at{fl:List (Option Nat)}{hp hp':List TB}{l:List (Option Nat)}(hb:RB fl hp hp' l):hp'.length=l.length∧∀(j:Nat) (b:TB),hp'[j]?=some b→(l[j]?=some none∧∃ es,b = .rows es [])∨∃ n,l[j]?=some (some n)∧((∃ es rows,b = .rows es rows∧hp[n]?=some b)∨∃ row row',b = .var row'∧hp[n]?=some (.var row)∧RNs fl row row'):=by
 induction hb with
 | nil=>exact⟨rfl,fun j b h=>by simp at h⟩
 | virt h ih =>
  refine⟨by simp[ih.1],fun j b hj=>?_⟩
  cases j with
  | zero=>simp at hj;subst hj;exact .inl ⟨rfl,_,rfl⟩
  | succ j=>exact ih.2 j b (by simpa using hj)
 | rows h hb e ih =>
  subst e
  refine⟨by simp[ih.1],fun j b hj=>?_⟩
  cases j with
  | zero=>simp at hj;subst hj;exact .inr ⟨_,rfl,.inl ⟨_,_,rfl,hb⟩⟩
  | succ j=>exact ih.2 j b (by simpa using hj)
 | var h hb hr ih =>
  refine⟨by simp[ih.1],fun j b hj=>?_⟩
  cases j with
  | zero=>simp at hj;subst hj;exact .inr ⟨_,rfl,.inr ⟨_,_,rfl,hb,hr⟩⟩
  | succ j=>exact ih.2 j b (by simpa using hj)
theorem Wk.ren{tm tm':List TV}{hp hp':List TB}(fl:List (Option Nat))(hok:oN fl=true)(hB:RB fl hp hp' fl)(hT:RNs fl tm tm'):Wk ⟨tm,hp⟩ ⟨tm',hp'⟩:=by
 intro h0 Fz L vm h hs
 obtain⟨hlen,hat⟩:=hB.at
 have esOf':∀ j:Nat,∃ es:Nat,fl[j]?=some none→hp'[j]?=some (TB.rows es []):=by
  intro j
  cases hb:hp'[j]? with
  | none =>
   refine⟨0,fun hf=>?_⟩
   have h1:=(a7.1 hf).1
   rw[e9] at hb
   omega
  | some b =>
   rcases hat j b hb with⟨_,es,rfl⟩|⟨n,h1,_⟩
   ·exact⟨es,fun _=>rfl⟩
   ·exact⟨0,fun hf=>by rw[h1] at hf;cases hf⟩
 let es:Nat→Nat:=fun j=>Classical.choose (esOf' j)
 have hes:∀ j:Nat,fl[j]?=some none→hp'[j]?=some (TB.rows (es j) []):=fun j=>Classical.choose_spec (esOf' j)
 let L':Nat→LI:=fun j=>match fl[j]? with
  | some (some n)=>L n
  | some none=>⟨true,none,es j,0⟩
  | none=>⟨false,none,0,0⟩
 have hL:∀ j n:Nat,fl[j]?=some (some n)→L' j=L n:=fun j n hj=>by simp only[L',hj]
 have hV':∀ j:Nat,fl[j]?=some none→L' j=⟨true,none,es j,0⟩:=fun j hj=>by simp only[L',hj]
 have hV:∀ j:Nat,fl[j]?=some none→(L' j).ok=true∧(L' j).nm=none:=fun j hj=>by rw[hV' j hj];exact⟨rfl,rfl⟩
 have hN:∀ j:Nat,fl[j]?=none→(L' j).ok=false:=fun j hj=>by simp only[L',hj]
 clear_value L'
 have hmap:∀(l l':List TV) (x:List Value),RNs fl l l'→VLs Fz h L l x→VLs Fz h L' l' x:=by
  intro l l' x hr hx
  refine⟨by have:=hr.len;have:=hx.len;omega,fun i q y hq hy=>?_⟩
  have hlt:=(a7.1 hq).1
  have hll:=hr.len
  have h0:l[i]?=some l[i]:=a9 (by omega)
  exact (hr.at' i _ _ h0 hq).vl hL hV (hx.at' i _ _ h0 hy)
 refine⟨Fz,L',Grow.refl _ _,⟨hmap _ _ _ hT hs.tmr,?_,?_,?_,hs.fz,hs.ext⟩⟩
 ·intro j b hb
  rcases hat j b hb with⟨hj,es',rfl⟩|⟨n,hj,h1⟩
  ·have:=hes j hj
   rw[hb] at this
   injection this with this
   injection this with this _
   refine⟨(hV j hj).1,by rw[hV' j hj];exact this.symm,by rw[hV' j hj];rfl,by simp,.inl ⟨(hV j hj).2,rfl⟩⟩
  ·rcases h1 with⟨es',rows,rfl,hn⟩|⟨row,row',rfl,hn,hr⟩
   ·have:=hs.blk n _ hn
    unfold BR at this ⊢
    rw[hL j n hj]
    exact this
   ·obtain⟨q1,nm,cs,e1,e2,e3,e4,e5⟩:=hs.blk n _ hn
    unfold BR
    rw[hL j n hj]
    exact⟨q1,nm,cs,e1,e2,e3,e4,hmap _ _ _ hr e5⟩
 ·intro j hj
  show j<hp'.length
  rcases d6 j fl.length with hlt|hge
  ·omega
  ·rw[hN j (e9.2 hge)] at hj;cases hj
 ·intro j j' b b' nm hb hb' l1 l2 e1 e2
  have f:∀(j:Nat) (b:TB),hp'[j]?=some b→b.live=true→(L' j).nm=some nm→∃(n:Nat) (b0:TB),fl[j]?=some (some n)∧hp[n]?=some b0∧b0.live=true∧(L n).nm=some nm:=by
   intro j b hb hl he
   rcases hat j b hb with⟨hj,es',rfl⟩|⟨n,hj,h1⟩
   ·rw[(hV j hj).2] at he;cases he
   ·rw[hL j n hj] at he
    rcases h1 with⟨es',rows,rfl,hn⟩|⟨row,row',rfl,hn,hr⟩
    ·exact⟨n,_,hj,hn,rfl,he⟩
    ·exact⟨n,_,hj,hn,rfl,he⟩
  obtain⟨n,b0,g1,g2,g3,g4⟩:=f j b hb l1 e1
  obtain⟨n',b0',k1,k2,k3,k4⟩:=f j' b' hb' l2 e2
  obtain rfl:=hs.inj n n' b0 b0' nm g2 k2 g3 k3 g4 k4
  exact nJ hok j j' n g1 k1
end
section
variable {C:Ctx} {P:Program} {ops:Array Oper} {rest:List Oper} {tm tm2:List TV} {hp hp2:List TB} {Q:TS→Prop} {o:Oper}
variable {dst:Option Tmp} {ty:TypeId} {pos:String} {aft:Array Edge} {gd:Option (Nat×Bool)}
def cJ{α:Type}(xs:List α)(i:Int):Option α:=if 0≤i then xs[i.toNat]? else none
def mkI{α:Type}(bytes:Nat)(n:Int)(z:α):Option (List α):=if 0≤n∧n<2^63∧(bytes:Int)*n≤2^48 then some (List.replicate n.toNat z) else none
def qP{α:Type}(bytes:Nat)(xs ys:List α):Option (List α):=if xs.length+ys.length≤2^40∧(xs.length+ys.length)*bytes≤140737488355328 then some (xs++ys) else none
def yH{α:Type}(xs:List α)(l k:Int):Option (List α):=if 0≤l∧l≤k∧k≤xs.length then some ((xs.drop l.toNat).take (k.toNat-l.toNat)) else none
theorem pD{α:Type}{xs:List α}{i:Int}{x:α}(h:cJ xs i=some x):0≤i∧i<xs.length:=by
 unfold cJ at h
 split at h
 ·have:=(a7.1 h).1;omega
 ·cases h
theorem pE{α:Type}{xs:List α}{i:Int}{x:α}(h:cJ xs i=some x):xs[i.toNat]?=some x:=by
 unfold cJ at h
 split at h
 ·exact h
 ·cases h
theorem pV{α:Type}{xs:List α}{f:α→List TV}{i:Int}{x:α}(h:cJ xs i=some x):tidx (xs.map f) i=some (f x):=by
 unfold tidx
 rw[b5 (pD h).1,d8,pE h]
 rfl
theorem TO.pop1{p:TV}(hw:twant ops tm o=some true)(hv:tpop P hp tm o=some p)(ht:tput tm o.dst p=tm2)(hq:TO C P ops rest ⟨tm2,hp⟩ Q):TO C P ops (o::rest) ⟨tm,hp⟩ Q:=by
 subst ht;exact TO.p hw (OpP.of hv) hq
theorem TO.skip1(hw:twant ops tm o=some false)(ht:tput tm o.dst (.tuple [])=tm2)(hq:TO C P ops rest ⟨tm2,hp⟩ Q):TO C P ops (o::rest) ⟨tm,hp⟩ Q:=by
 subst ht;exact TO.skip hw hq
variable {ms:List Nat} {i:Nat} {np:List Nat} {c:Nat}
theorem TD.pop1{p:TV}(hw:twant ops tm o=some true)(hv:tpop P hp tm o=some p)(ht:tput tm o.dst p=tm2)(hq:TD C P ops ms rest (i+1) np c ⟨tm2,hp⟩ Q):TD C P ops ms (o::rest) i np c ⟨tm,hp⟩ Q:=by
 subst ht;exact TD.p hw (OpP.of hv) hq
theorem TD.skip1(hw:twant ops tm o=some false)(ht:tput tm o.dst (.tuple [])=tm2)(hq:TD C P ops ms rest (i+1) np c ⟨tm2,hp⟩ Q):TD C P ops ms (o::rest) i np c ⟨tm,hp⟩ Q:=by
 subst ht;exact TD.skip hw hq
theorem TX.loopE{σ ε:Type}{b:Code}{step:σ→Option (σ ⊕ ε)}{x:σ}{e:ε}{Q:Exit→TS→Prop}(hr:run step x=some e)(I:σ→TS)(J:ε→Exit×TS)
 (hB:∀ x y,step x=some y→TX C P b (I x) (fun ex st=>match y with|.inl x'=>ex = .normal∧Wk st (I x')|.inr e=>ex=(J e).1∧Wk st (J e).2)) (hne:∀ e,(J e).1 ≠ .normal) (hq:Q (J e).1 (J e).2) {s:TS} (hw:Wk s (I x)):TX C P (.loop b) s Q:=by
 refine TX.weak hw (TX.post ((TX.loop hr I (fun e ex st=>ex=(J e).1∧Wk st (J e).2) (fun x x' h=>hB x _ h) (fun x e h=>?_)).mono ?_))
 ·exact (hB x _ h).mono fun ex st hh=>⟨by rw[hh.1];exact hne e,hh⟩
 ·rintro ex st ⟨rfl,hh⟩
  exact⟨_,hh,hq⟩
end
end Go.Rex
namespace Go.Rex
open Go.RowKit
section
variable {C:Ctx} {P:Program} {ops:Array Oper} {rest:List Oper} {tm tm2:List TV} {hp hp2:List TB} {Q:TS→Prop} {o:Oper}
variable {dst:Option Tmp} {ty:TypeId} {pos:String} {aft:Array Edge} {gd:Option (Nat×Bool)} {p q:TV} {ms:List Nat} {i:Nat} {np:List Nat} {c:Nat}
theorem TO.mv{x:Operand}(hw:twant ops tm { dst:=dst,op:=.move x,type:=ty,pos:=pos,after:=aft,guard:=gd }=some true)(hv:tev tm x=p)(ht:tput tm dst p=tm2)(hq:TO C P ops rest ⟨tm2,hp⟩ Q):TO C P ops ({ dst:=dst,op:=.move x,type:=ty,pos:=pos,after:=aft,guard:=gd }::rest) ⟨tm,hp⟩ Q:=
 TO.pop1 hw (by subst hv;rfl) ht hq
theorem TD.mv{x:Operand}(hw:twant ops tm { dst:=dst,op:=.move x,type:=ty,pos:=pos,after:=aft,guard:=gd }=some true)(hv:tev tm x=p)(ht:tput tm dst p=tm2)(hq:TD C P ops ms rest (i+1) np c ⟨tm2,hp⟩ Q):TD C P ops ms ({ dst:=dst,op:=.move x,type:=ty,pos:=pos,after:=aft,guard:=gd }::rest) i np c ⟨tm,hp⟩ Q:=
 TD.pop1 hw (by subst hv;rfl) ht hq
theorem TO.asg{x:Operand}(hw:twant ops tm { dst:=dst,op:=.assign x,type:=ty,pos:=pos,after:=aft,guard:=gd }=some true)(hv:tev tm x=p)(ht:tput tm dst p=tm2)(hq:TO C P ops rest ⟨tm2,hp⟩ Q):TO C P ops ({ dst:=dst,op:=.assign x,type:=ty,pos:=pos,after:=aft,guard:=gd }::rest) ⟨tm,hp⟩ Q:=
 TO.pop1 hw (by subst hv;rfl) ht hq
theorem TD.asg{x:Operand}(hw:twant ops tm { dst:=dst,op:=.assign x,type:=ty,pos:=pos,after:=aft,guard:=gd }=some true)(hv:tev tm x=p)(ht:tput tm dst p=tm2)(hq:TD C P ops ms rest (i+1) np c ⟨tm2,hp⟩ Q):TD C P ops ms ({ dst:=dst,op:=.assign x,type:=ty,pos:=pos,after:=aft,guard:=gd }::rest) i np c ⟨tm,hp⟩ Q:=
 TD.pop1 hw (by subst hv;rfl) ht hq
theorem TO.bin{b:BinOp}{t u:TypeId}{x y:Operand}{a d r:Value}(hw:twant ops tm { dst:=dst,op:=.binOp b t x y u,type:=ty,pos:=pos,after:=aft,guard:=gd }=some true)(hx:tev tm x = .v a)(hy:tev tm y = .v d)(hv:aZ b a d=some r)(ht:tput tm dst (.v r)=tm2)(hq:TO C P ops rest ⟨tm2,hp⟩ Q):TO C P ops ({ dst:=dst,op:=.binOp b t x y u,type:=ty,pos:=pos,after:=aft,guard:=gd }::rest) ⟨tm,hp⟩ Q:=
 TO.pop1 hw (by simp only[tpop,hx,hy,tbin,hv,Option.map_some,orT]) ht hq
theorem TD.bin{b:BinOp}{t u:TypeId}{x y:Operand}{a d r:Value}(hw:twant ops tm { dst:=dst,op:=.binOp b t x y u,type:=ty,pos:=pos,after:=aft,guard:=gd }=some true)(hx:tev tm x = .v a)(hy:tev tm y = .v d)(hv:aZ b a d=some r)(ht:tput tm dst (.v r)=tm2)(hq:TD C P ops ms rest (i+1) np c ⟨tm2,hp⟩ Q):TD C P ops ms ({ dst:=dst,op:=.binOp b t x y u,type:=ty,pos:=pos,after:=aft,guard:=gd }::rest) i np c ⟨tm,hp⟩ Q:=
 TD.pop1 hw (by simp only[tpop,hx,hy,tbin,hv,Option.map_some,orT]) ht hq
theorem TO.ext{x:Operand}{n:Nat}{l:List TV}(hw:twant ops tm { dst:=dst,op:=.extract x n,type:=ty,pos:=pos,after:=aft,guard:=gd }=some true)(hx:tev tm x = .tuple l)(hv:l[n]?=some p)(ht:tput tm dst p=tm2)(hq:TO C P ops rest ⟨tm2,hp⟩ Q):TO C P ops ({ dst:=dst,op:=.extract x n,type:=ty,pos:=pos,after:=aft,guard:=gd }::rest) ⟨tm,hp⟩ Q:=
 TO.pop1 hw (by simp only[tpop,hx,hv]) ht hq
theorem TD.ext{x:Operand}{n:Nat}{l:List TV}(hw:twant ops tm { dst:=dst,op:=.extract x n,type:=ty,pos:=pos,after:=aft,guard:=gd }=some true)(hx:tev tm x = .tuple l)(hv:l[n]?=some p)(ht:tput tm dst p=tm2)(hq:TD C P ops ms rest (i+1) np c ⟨tm2,hp⟩ Q):TD C P ops ms ({ dst:=dst,op:=.extract x n,type:=ty,pos:=pos,after:=aft,guard:=gd }::rest) i np c ⟨tm,hp⟩ Q:=
 TD.pop1 hw (by simp only[tpop,hx,hv]) ht hq
theorem TO.fa{t:TypeId}{x:Operand}{f:Nat}(hw:twant ops tm { dst:=dst,op:=.fieldAddr t x f,type:=ty,pos:=pos,after:=aft,guard:=gd }=some true)(hx:tev tm x=q)(hv:aJ P t q f=some p)(ht:tput tm dst p=tm2)(hq:TO C P ops rest ⟨tm2,hp⟩ Q):TO C P ops ({ dst:=dst,op:=.fieldAddr t x f,type:=ty,pos:=pos,after:=aft,guard:=gd }::rest) ⟨tm,hp⟩ Q:=
 TO.pop1 hw (by simp only[tpop,hx,hv]) ht hq
theorem TD.fa{t:TypeId}{x:Operand}{f:Nat}(hw:twant ops tm { dst:=dst,op:=.fieldAddr t x f,type:=ty,pos:=pos,after:=aft,guard:=gd }=some true)(hx:tev tm x=q)(hv:aJ P t q f=some p)(ht:tput tm dst p=tm2)(hq:TD C P ops ms rest (i+1) np c ⟨tm2,hp⟩ Q):TD C P ops ms ({ dst:=dst,op:=.fieldAddr t x f,type:=ty,pos:=pos,after:=aft,guard:=gd }::rest) i np c ⟨tm,hp⟩ Q:=
 TD.pop1 hw (by simp only[tpop,hx,hv]) ht hq
theorem TO.ia{t:TypeId}{x y:Operand}{q2:TV}(hw:twant ops tm { dst:=dst,op:=.indexAddr t x y,type:=ty,pos:=pos,after:=aft,guard:=gd }=some true)(hx:tev tm x=q)(hy:tev tm y=q2)(hv:aH P hp t q q2=some p)(ht:tput tm dst p=tm2)(hq:TO C P ops rest ⟨tm2,hp⟩ Q):TO C P ops ({ dst:=dst,op:=.indexAddr t x y,type:=ty,pos:=pos,after:=aft,guard:=gd }::rest) ⟨tm,hp⟩ Q:=
 TO.pop1 hw (by simp only[tpop,hx,hy,hv]) ht hq
theorem TD.ia{t:TypeId}{x y:Operand}{q2:TV}(hw:twant ops tm { dst:=dst,op:=.indexAddr t x y,type:=ty,pos:=pos,after:=aft,guard:=gd }=some true)(hx:tev tm x=q)(hy:tev tm y=q2)(hv:aH P hp t q q2=some p)(ht:tput tm dst p=tm2)(hq:TD C P ops ms rest (i+1) np c ⟨tm2,hp⟩ Q):TD C P ops ms ({ dst:=dst,op:=.indexAddr t x y,type:=ty,pos:=pos,after:=aft,guard:=gd }::rest) i np c ⟨tm,hp⟩ Q:=
 TD.pop1 hw (by simp only[tpop,hx,hy,hv]) ht hq
theorem TO.pk{x y z:Operand}(hw:twant ops tm { dst:=dst,op:=.pick x y z,type:=ty,pos:=pos,after:=aft,guard:=gd }=some true)(hv:tpick (tev tm x) (tev tm y) (tev tm z)=some p)(ht:tput tm dst p=tm2)(hq:TO C P ops rest ⟨tm2,hp⟩ Q):TO C P ops ({ dst:=dst,op:=.pick x y z,type:=ty,pos:=pos,after:=aft,guard:=gd }::rest) ⟨tm,hp⟩ Q:=
 TO.pop1 hw (by simp only[tpop,hv]) ht hq
theorem TD.pk{x y z:Operand}(hw:twant ops tm { dst:=dst,op:=.pick x y z,type:=ty,pos:=pos,after:=aft,guard:=gd }=some true)(hv:tpick (tev tm x) (tev tm y) (tev tm z)=some p)(ht:tput tm dst p=tm2)(hq:TD C P ops ms rest (i+1) np c ⟨tm2,hp⟩ Q):TD C P ops ms ({ dst:=dst,op:=.pick x y z,type:=ty,pos:=pos,after:=aft,guard:=gd }::rest) i np c ⟨tm,hp⟩ Q:=
 TD.pop1 hw (by simp only[tpop,hv]) ht hq
theorem TO.len{x:Operand}{t:TypeId}{ts:List TypeId}(hw:twant ops tm { dst:=dst,op:=.call { callee:=.builtin .len,args:=#[x],argTypes:=⟨t::ts⟩ },type:=ty,pos:=pos,after:=aft,guard:=gd }=some true)(hx:tev tm x=q)(hv:tlen P (some t) q=some p)(ht:tput tm dst p=tm2)(hq:TO C P ops rest ⟨tm2,hp⟩ Q):TO C P ops ({ dst:=dst,op:=.call { callee:=.builtin .len,args:=#[x],argTypes:=⟨t::ts⟩ },type:=ty,pos:=pos,after:=aft,guard:=gd }::rest) ⟨tm,hp⟩ Q:=
 TO.pop1 hw (by simp only[tpop,if_true,hx,List.getElem?_toArray,List.getElem?_cons_zero,hv,orT]) ht hq
theorem TD.len{x:Operand}{t:TypeId}{ts:List TypeId}(hw:twant ops tm { dst:=dst,op:=.call { callee:=.builtin .len,args:=#[x],argTypes:=⟨t::ts⟩ },type:=ty,pos:=pos,after:=aft,guard:=gd }=some true)(hx:tev tm x=q)(hv:tlen P (some t) q=some p)(ht:tput tm dst p=tm2)(hq:TD C P ops ms rest (i+1) np c ⟨tm2,hp⟩ Q):TD C P ops ms ({ dst:=dst,op:=.call { callee:=.builtin .len,args:=#[x],argTypes:=⟨t::ts⟩ },type:=ty,pos:=pos,after:=aft,guard:=gd }::rest) i np c ⟨tm,hp⟩ Q:=
 TD.pop1 hw (by simp only[tpop,if_true,hx,List.getElem?_toArray,List.getElem?_cons_zero,hv,orT]) ht hq
theorem TO.bld{t:TypeId}{ps:Array (Nat×Operand)}{l:List (Nat×TV)}(hw:twant ops tm { dst:=dst,op:=.build t ps,type:=ty,pos:=pos,after:=aft,guard:=gd }=some true)(hx:ps.toList.map (fun q=>(q.1,tev tm q.2))=l)(hv:tbuild P t l=some p)(ht:tput tm dst p=tm2)(hq:TO C P ops rest ⟨tm2,hp⟩ Q):TO C P ops ({ dst:=dst,op:=.build t ps,type:=ty,pos:=pos,after:=aft,guard:=gd }::rest) ⟨tm,hp⟩ Q:=
 TO.pop1 hw (by simp only[tpop,hx,hv]) ht hq
theorem TD.bld{t:TypeId}{ps:Array (Nat×Operand)}{l:List (Nat×TV)}(hw:twant ops tm { dst:=dst,op:=.build t ps,type:=ty,pos:=pos,after:=aft,guard:=gd }=some true)(hx:ps.toList.map (fun q=>(q.1,tev tm q.2))=l)(hv:tbuild P t l=some p)(ht:tput tm dst p=tm2)(hq:TD C P ops ms rest (i+1) np c ⟨tm2,hp⟩ Q):TD C P ops ms ({ dst:=dst,op:=.build t ps,type:=ty,pos:=pos,after:=aft,guard:=gd }::rest) i np c ⟨tm,hp⟩ Q:=
 TD.pop1 hw (by simp only[tpop,hx,hv]) ht hq
theorem TO.mf{f:FuncId}{a b:Array Operand}{l1 l2:List TV}(hw:twant ops tm { dst:=dst,op:=.makeFunc (.func f) a b,type:=ty,pos:=pos,after:=aft,guard:=gd }=some true)(hx:a.toList.map (tev tm)=l1)(hy:b.toList.map (tev tm)=l2)(hv:(l1.all (lf 4)&&l2.all (lf 4))=true)(ht:tput tm dst (.func f l1 l2)=tm2)(hq:TO C P ops rest ⟨tm2,hp⟩ Q):TO C P ops ({ dst:=dst,op:=.makeFunc (.func f) a b,type:=ty,pos:=pos,after:=aft,guard:=gd }::rest) ⟨tm,hp⟩ Q:=
 TO.pop1 hw (by subst hx hy;simp only[tpop];rw[b5];simpa only[List.all_map,Function.comp_def] using hv) ht hq
theorem TD.mf{f:FuncId}{a b:Array Operand}{l1 l2:List TV}(hw:twant ops tm { dst:=dst,op:=.makeFunc (.func f) a b,type:=ty,pos:=pos,after:=aft,guard:=gd }=some true)(hx:a.toList.map (tev tm)=l1)(hy:b.toList.map (tev tm)=l2)(hv:(l1.all (lf 4)&&l2.all (lf 4))=true)(ht:tput tm dst (.func f l1 l2)=tm2)(hq:TD C P ops ms rest (i+1) np c ⟨tm2,hp⟩ Q):TD C P ops ms ({ dst:=dst,op:=.makeFunc (.func f) a b,type:=ty,pos:=pos,after:=aft,guard:=gd }::rest) i np c ⟨tm,hp⟩ Q:=
 TD.pop1 hw (by subst hx hy;simp only[tpop];rw[b5];simpa only[List.all_map,Function.comp_def] using hv) ht hq
theorem TO.ld{t:TypeId}{a:Operand}(hw:twant ops tm { dst:=dst,op:=.load t a,type:=ty,pos:=pos,after:=aft,guard:=gd }=some true)(hx:tev tm a=p)(hv:tload P hp t p=some q)(ht:tput tm dst q=tm2)(hh2:hp=hp2)(hq:TO C P ops rest ⟨tm2,hp2⟩ Q):TO C P ops ({ dst:=dst,op:=.load t a,type:=ty,pos:=pos,after:=aft,guard:=gd }::rest) ⟨tm,hp⟩ Q:=by
 subst ht hh2
 exact TO.g hw (OpG.load (by rw[show tev (TS.mk tm hp).tm a=p from hx];exact hv)) hq
theorem TD.ld{t:TypeId}{a:Operand}(hw:twant ops tm { dst:=dst,op:=.load t a,type:=ty,pos:=pos,after:=aft,guard:=gd }=some true)(hx:tev tm a=p)(hv:tload P hp t p=some q)(ht:tput tm dst q=tm2)(hh2:hp=hp2)(hq:TD C P ops ms rest (i+1) (i::np) 0 ⟨tm2,hp2⟩ Q):TD C P ops ms ({ dst:=dst,op:=.load t a,type:=ty,pos:=pos,after:=aft,guard:=gd }::rest) i np 0 ⟨tm,hp⟩ Q:=by
 subst ht hh2
 exact TD.g hw (OpG.load (by rw[show tev (TS.mk tm hp).tm a=p from hx];exact hv)) hq
theorem TO.al{e:TypeId}{z:List Value}{zt:List TV}(hw:twant ops tm { dst:=dst,op:=.alloc e,type:=ty,pos:=pos,after:=aft,guard:=gd }=some true)(hv:fK P e=some z)(hz:z.map TV.v=zt)(ht:tput tm dst (.lptr hp.length 0 0)=tm2)(hh2:(hp++[.var zt])=hp2)(hq:TO C P ops rest ⟨tm2,hp2⟩ Q):TO C P ops ({ dst:=dst,op:=.alloc e,type:=ty,pos:=pos,after:=aft,guard:=gd }::rest) ⟨tm,hp⟩ Q:=by
 subst ht hh2
 exact TO.g hw (by subst hz;exact OpG.alloc hv) hq
theorem TO.bf{e:TypeId}{x:Operand}{l:List TV}(hw:twant ops tm { dst:=dst,op:=.box e x,type:=ty,pos:=pos,after:=aft,guard:=gd }=some true)(hx:tev tm x=p)(hj:eB p=false)(hl:tcells p=l)(hlf:l.all (lf 4)=true)(ht:tput tm dst (.fptr true l 0)=tm2)(hh2:hp=hp2)(hq:TO C P ops rest ⟨tm2,hp2⟩ Q):TO C P ops ({ dst:=dst,op:=.box e x,type:=ty,pos:=pos,after:=aft,guard:=gd }::rest) ⟨tm,hp⟩ Q:=by
 subst ht hh2
 exact TO.g hw (by subst hl;exact OpG.boxF hx hj hlf) hq
theorem TO.bs{t:TypeId}{n:Nat}{ps:Array (Nat×Operand)}{l:List (Nat×TV)}{es:Nat}{rows:List (List TV)}(hw:twant ops tm { dst:=dst,op:=.buildSlice t n ps,type:=ty,pos:=pos,after:=aft,guard:=gd }=some true)(hx:ps.toList.map (fun q=>(q.1,tev tm q.2))=l)(hv:tslice P t n l=some (es,rows))(ht:tput tm dst (.list es rows)=tm2)(hh2:hp=hp2)(hq:TO C P ops rest ⟨tm2,hp2⟩ Q):TO C P ops ({ dst:=dst,op:=.buildSlice t n ps,type:=ty,pos:=pos,after:=aft,guard:=gd }::rest) ⟨tm,hp⟩ Q:=by
 subst ht hh2
 exact TO.g hw (OpG.buildSlice (s:=⟨tm,hp⟩) (by simp only[hx];exact hv)) hq
theorem TD.bs{t:TypeId}{n:Nat}{ps:Array (Nat×Operand)}{l:List (Nat×TV)}{es:Nat}{rows:List (List TV)}(hw:twant ops tm { dst:=dst,op:=.buildSlice t n ps,type:=ty,pos:=pos,after:=aft,guard:=gd }=some true)(hx:ps.toList.map (fun q=>(q.1,tev tm q.2))=l)(hv:tslice P t n l=some (es,rows))(ht:tput tm dst (.list es rows)=tm2)(hh2:hp=hp2)(hq:TD C P ops ms rest (i+1) (i::np) 0 ⟨tm2,hp2⟩ Q):TD C P ops ms ({ dst:=dst,op:=.buildSlice t n ps,type:=ty,pos:=pos,after:=aft,guard:=gd }::rest) i np 0 ⟨tm,hp⟩ Q:=by
 subst ht hh2
 exact TD.g hw (OpG.buildSlice (s:=⟨tm,hp⟩) (by simp only[hx];exact hv)) hq
theorem Ej(hsl0:True){α:Type}{x y:Operand}{t0 t1 e:TypeId}{tys:List TypeId}{n len es:Nat}{xs ys:List α}{f:α→List TV}{z:List Value}{new:List (List TV)}{xy:List α}(hx:tev tm x = .lsl n 0 len)(hb:hp[n]?=some (.rows es (xs.map f)))(hlen:len=xs.length)(hy:tev tm y = .list es new)(hnew:new=ys.map f)(hsl:bA P t0=some e)(hni:fV P (some t1)=true)(hz:fK P e=some z)(hes:z.length=es)(hap:qP (fU P e) xs ys=some xy)(hff:∀ a,(f a).length=es∧(f a).all tone=true∧(f a).all (lf 4)=true):OpW C P { dst:=dst,op:=.call { callee:=.builtin .append,args:=#[x,y],argTypes:=⟨t0::t1::tys⟩ },type:=ty,pos:=pos,after:=aft,guard:=gd } ⟨tm,hp⟩ ⟨tput (tm.map (kill n 4)) dst (.lsl n 0 xy.length),(hp.map (gW n)).set n (.rows es (xy.map f))⟩:=by
 unfold qP at hap
 split at hap
 ·rename_i hl
  obtain rfl:=a6 hap
  subst hnew
  have:=OpW.append (C:=C) (P:=P) (s:=⟨tm,hp⟩) (dst:=dst) (ty:=ty) (pos:=pos) (aft:=aft) (gd:=gd) (x:=x) (y:=y) (t0:=t0) (t1:=t1) (e:=e) (tys:=tys) (n:=n) (len:=len) (es:=es) (rows:=xs.map f) (new:=ys.map f) (z:=z) hx hb (by simp[hlen]) hy hsl hni hz hes (by simpa [Dy] using hl)
   (fun r hr=>by obtain⟨a,_,rfl⟩:=k8.1 hr;exact (hff a).1) (fun r hr=>by obtain⟨a,_,rfl⟩:=k8.1 hr;exact (hff a).2.1) (fun r hr=>by obtain⟨a,_,rfl⟩:=k8.1 hr;exact (hff a).2.2)
  simpa using this
 ·cases hap
theorem TO.ap{α:Type}{x y:Operand}{t0 t1 e:TypeId}{tys:List TypeId}{n len es:Nat}{xs ys:List α}{f:α→List TV}{z:List Value}{new:List (List TV)}{xy:List α}(hw:twant ops tm { dst:=dst,op:=.call { callee:=.builtin .append,args:=#[x,y],argTypes:=⟨t0::t1::tys⟩ },type:=ty,pos:=pos,after:=aft,guard:=gd }=some true)(hx:tev tm x = .lsl n 0 len)(hb:hp[n]?=some (.rows es (xs.map f)))(hlen:len=xs.length)(hy:tev tm y = .list es new)(hnew:new=ys.map f)(hsl:bA P t0=some e)(hni:fV P (some t1)=true)(hz:fK P e=some z)(hes:z.length=es)(hap:qP (fU P e) xs ys=some xy)(hff:∀ a,(f a).length=es∧(f a).all tone=true∧(f a).all (lf 4)=true)(ht:tput (tm.map (kill n 4)) dst (.lsl n 0 xy.length)=tm2)(hh2:(hp.map (gW n)).set n (.rows es (xy.map f))=hp2)(hq:TO C P ops rest ⟨tm2,hp2⟩ Q):TO C P ops ({ dst:=dst,op:=.call { callee:=.builtin .append,args:=#[x,y],argTypes:=⟨t0::t1::tys⟩ },type:=ty,pos:=pos,after:=aft,guard:=gd }::rest) ⟨tm,hp⟩ Q:=by
 subst ht hh2
 exact TO.w hw (Ej trivial hx hb hlen hy hnew hsl hni hz hes hap hff) hq
theorem TD.ap{α:Type}{x y:Operand}{t0 t1 e:TypeId}{tys:List TypeId}{n len es:Nat}{xs ys:List α}{f:α→List TV}{z:List Value}{new:List (List TV)}{xy:List α}(hw:twant ops tm { dst:=dst,op:=.call { callee:=.builtin .append,args:=#[x,y],argTypes:=⟨t0::t1::tys⟩ },type:=ty,pos:=pos,after:=aft,guard:=gd }=some true)(hx:tev tm x = .lsl n 0 len)(hb:hp[n]?=some (.rows es (xs.map f)))(hlen:len=xs.length)(hy:tev tm y = .list es new)(hnew:new=ys.map f)(hsl:bA P t0=some e)(hni:fV P (some t1)=true)(hz:fK P e=some z)(hes:z.length=es)(hap:qP (fU P e) xs ys=some xy)(hff:∀ a,(f a).length=es∧(f a).all tone=true∧(f a).all (lf 4)=true)(hnp:np.all (fun j=>(aC ms i).testBit j)=true)(ht:tput (tm.map (kill n 4)) dst (.lsl n 0 xy.length)=tm2)(hh2:(hp.map (gW n)).set n (.rows es (xy.map f))=hp2)(hq:TD C P ops ms rest (i+1) (i::np) 1 ⟨tm2,hp2⟩ Q):TD C P ops ms ({ dst:=dst,op:=.call { callee:=.builtin .append,args:=#[x,y],argTypes:=⟨t0::t1::tys⟩ },type:=ty,pos:=pos,after:=aft,guard:=gd }::rest) i np c ⟨tm,hp⟩ Q:=by
 subst ht hh2
 exact TD.w hw (Ej trivial hx hb hlen hy hnew hsl hni hz hes hap hff) hnp hq
theorem TO.cal{fo:Operand}{g:FuncId}{args:Array Operand}{tys:Array TypeId}{first caps as:List TV}{th:List TB}(hw:twant ops tm { dst:=dst,op:=.call { callee:=.value fo,args:=args,argTypes:=tys },type:=ty,pos:=pos,after:=aft,guard:=gd }=some true)(hf:tev tm fo = .func g first caps)(hg:cM P g=true)(hsp:Spec C g as ⟨[p],th⟩)(has:first++(args.toList.map (tev tm)++caps)=as)(hl:as.all (lf 4)=true)(hth:th.all lH=true)(ht:tput tm dst (shift hp.length 4 p)=tm2)(hh2:hp++th=hp2)(hq:TO C P ops rest ⟨tm2,hp2⟩ Q):TO C P ops ({ dst:=dst,op:=.call { callee:=.value fo,args:=args,argTypes:=tys },type:=ty,pos:=pos,after:=aft,guard:=gd }::rest) ⟨tm,hp⟩ Q:=by
 subst ht hh2
 exact TO.g hw (OpG.call (s:=⟨tm,hp⟩) hf hg has hl hsp hth) hq
theorem TD.cal{fo:Operand}{g:FuncId}{args:Array Operand}{tys:Array TypeId}{first caps as:List TV}{th:List TB}(hw:twant ops tm { dst:=dst,op:=.call { callee:=.value fo,args:=args,argTypes:=tys },type:=ty,pos:=pos,after:=aft,guard:=gd }=some true)(hf:tev tm fo = .func g first caps)(hg:cM P g=true)(hsp:Spec C g as ⟨[p],th⟩)(has:first++(args.toList.map (tev tm)++caps)=as)(hl:as.all (lf 4)=true)(hth:th.all lH=true)(ht:tput tm dst (shift hp.length 4 p)=tm2)(hh2:hp++th=hp2)(hq:TD C P ops ms rest (i+1) (i::np) 0 ⟨tm2,hp2⟩ Q):TD C P ops ms ({ dst:=dst,op:=.call { callee:=.value fo,args:=args,argTypes:=tys },type:=ty,pos:=pos,after:=aft,guard:=gd }::rest) i np 0 ⟨tm,hp⟩ Q:=by
 subst ht hh2
 exact TD.g hw (OpG.call (s:=⟨tm,hp⟩) hf hg has hl hsp hth) hq
theorem TO.lok{fo:Operand}{g:FuncId}{args:Array Operand}{tys:Array TypeId}{first caps as:List TV}{th:List TB}(hw:twant ops tm { dst:=dst,op:=.call { callee:=.value fo,args:=args,argTypes:=tys },type:=ty,pos:=pos,after:=aft,guard:=gd }=some true)(hf:tev tm fo = .func g first caps)(hg:cM P g=true)(hsp:Spec C g as ⟨[p],th⟩)(has:first++((args.toList.map (tev tm)).map (view hp 4)++caps)=as)(hth:th.all lH=true)(hcp:cl 4 p=true)(hcl:th.all iQ=true)(ht:tput tm dst (shift hp.length 4 p)=tm2)(hh2:hp++th=hp2)(hq:TO C P ops rest ⟨tm2,hp2⟩ Q):TO C P ops ({ dst:=dst,op:=.call { callee:=.value fo,args:=args,argTypes:=tys },type:=ty,pos:=pos,after:=aft,guard:=gd }::rest) ⟨tm,hp⟩ Q:=by
 subst ht hh2
 exact TO.g hw (OpG.look (s:=⟨tm,hp⟩) hf hg has hsp hth hcp hcl) hq
theorem TD.lok{fo:Operand}{g:FuncId}{args:Array Operand}{tys:Array TypeId}{first caps as:List TV}{th:List TB}(hw:twant ops tm { dst:=dst,op:=.call { callee:=.value fo,args:=args,argTypes:=tys },type:=ty,pos:=pos,after:=aft,guard:=gd }=some true)(hf:tev tm fo = .func g first caps)(hg:cM P g=true)(hsp:Spec C g as ⟨[p],th⟩)(has:first++((args.toList.map (tev tm)).map (view hp 4)++caps)=as)(hth:th.all lH=true)(hcp:cl 4 p=true)(hcl:th.all iQ=true)(ht:tput tm dst (shift hp.length 4 p)=tm2)(hh2:hp++th=hp2)(hq:TD C P ops ms rest (i+1) (i::np) 0 ⟨tm2,hp2⟩ Q):TD C P ops ms ({ dst:=dst,op:=.call { callee:=.value fo,args:=args,argTypes:=tys },type:=ty,pos:=pos,after:=aft,guard:=gd }::rest) i np 0 ⟨tm,hp⟩ Q:=by
 subst ht hh2
 exact TD.g hw (OpG.look (s:=⟨tm,hp⟩) hf hg has hsp hth hcp hcl) hq
theorem TD.frz(n:Nat){l:List Oper}{b:TB}(hb:hp[n]?=some b)(hl:lfB b=true)(ht:tm.map (frz n b 4)=tm2)(hh2:(hp.map (wK n b)).set n .dead=hp2)(hcb:Nat.ble c 1=true)(hq:TD C P ops ms l i np c ⟨tm2,hp2⟩ Q):TD C P ops ms l i np c ⟨tm,hp⟩ Q:=by
 subst ht hh2
 exact TD.weak hcb (Wk.freeze n hb hl) hq
end
end Go.Rex
namespace Go.Rex
open Go.RowKit
section
variable {P:Program} {tm:List TV} {hp:List TB}
variable {dst:Option Tmp} {ty:TypeId} {pos:String} {aft:Array Edge} {gd:Option (Nat×Bool)} {x y:Operand} {t u:TypeId} {tys:List TypeId}
theorem xH{o:Oper}{v:Value}(ha:o.op.operands.toList.all (fun x=>(er 3 (tev tm x)).isSome)=true)(hv:Rex.pop P (erased tm) o=some v)(hi:mP 3 v=true):tgen P tm o=some (inj 3 v):=by
 unfold tgen
 rw[b5 ha,hv]
 simp only
 rw[b5 hi]
theorem pZ{a:Value}(h:tev tm x = .v a):erased tm x=a:=by unfold erased;rw[h];rfl
theorem vM{a:Value}(h:tev tm x = .v a):(er 3 (tev tm x)).isSome=true:=by rw[h];rfl
theorem cN{b:Bool}(h:tev tm x = .v (.bool b)):tpop P hp tm { dst:=dst,op:=.unOp .not t x,type:=ty,pos:=pos,after:=aft,guard:=gd }=some (.v (.bool (!b))):=by
 have:tgen P tm { dst:=dst,op:=.unOp .not t x,type:=ty,pos:=pos,after:=aft,guard:=gd }=some (inj 3 (.bool (!b))):=
  xH (by simp[Op.operands,vM h]) (by simp only[Rex.pop,Rex.pop0,zQ,pZ h]) rfl
 exact this
theorem sP{k k':IntKind}{a b:Int}(h:tev tm x = .v (.int k a))(g:tev tm y = .v (.int k' b)):tpop P hp tm { dst:=dst,op:=.call { callee:=.builtin .min,args:=#[x,y],argTypes:=⟨tys⟩ },type:=ty,pos:=pos,after:=aft,guard:=gd }=some (.v (.int k (if b<a then b else a))):=by
 have:tgen P tm { dst:=dst,op:=.call { callee:=.builtin .min,args:=#[x,y],argTypes:=⟨tys⟩ },type:=ty,pos:=pos,after:=aft,guard:=gd }=some (inj 3 (.int k (if b<a then b else a))):=
  xH (by simpa [Op.operands,Call.operands] using ⟨vM h,vM g⟩) (by
   simp only[Rex.pop,Rex.pop0,bpop];rw[b6 (by decide),Aq,pZ h,pZ g]) rfl
 exact this
theorem bD{α β:Type}{s:Sem α}{f:α→Sem β}:prun P (s >>= f)=(prun P s).bind fun a=>prun P (f a):=by
 induction s with
 | pure a=>rfl
 | program k ih=>exact ih _
 | mark m k ih=>exact ih
 | _=>rfl
theorem lU{t:TypeId}{d:TypeDesc}(h:P.underlying t=some d):prun P (underlying t)=some d:=by
 unfold underlying
 rw[bD]
 show prun P (match P.underlying t with | some d => pure d | none => stuck "no such type") = some d
 rw[h]
 rfl
end
end Go.Rex
namespace Go.Rex
open Go.RowKit
section
variable {C:Ctx} {P:Program} {Fz:Nat→Prop} {h h0:List Blk} {L:Nat→LI} {s:TS} {tm:List Value}
variable {dst:Option Tmp} {ty:TypeId} {pos:String} {aft:Array Edge} {gd:Option (Nat×Bool)}
theorem OpM.slice{t:TypeId}{e:TypeId}{x:Operand}{lo hi:Option Operand}{es l k:Nat}{rows:List (List TV)}(hso:bA P t=some e)(hok:okT P e=true)(hes:P.cellsOf e=es)(hx:tev s.tm x = .list es rows)
 (hl:tbnd (lo.map (tev s.tm)) 0=some l) (hk:tbnd (hi.map (tev s.tm)) rows.length=some k) (hlk:l≤k) (hkr:k≤rows.length) :
 OpM C P { dst:=dst,op:=.slice t x lo hi none,type:=ty,pos:=pos,after:=aft,guard:=gd } s ⟨tput s.tm dst (.list es ((rows.drop l).take (k-l))),s.hp⟩:=by
 intro h0 Fz L tm h hs
 have hvx:=cA hs.fz hs.tmr x
 rw[hx] at hvx
 have hu:P.underlying t=some (.slice e):=by
  unfold bA at hso
  split at hso
  ·rename_i e' hu;rw[hu];exact congrArg some (congrArg TypeDesc.slice (a6 hso))
  ·cases hso
 have hb:∀(o:Option Operand) d k,tbnd (o.map (tev s.tm)) d=some k→bnd (o.map (ev tm)) d=some k∧(∀ y∈o,dU (ev tm y)=true):=by
  intro o d k hk
  refine⟨xC (Fz:=Fz) (h:=h) (L:=L) (fun p hp=>?_) (fun hn=>?_) hk,fun y hy=>?_⟩
  ·cases o with
   | none=>cases hp
   | some y=>obtain rfl:=a6 hp;exact⟨_,rfl,cA hs.fz hs.tmr y⟩
  ·cases o with
   | none=>rfl
   | some y=>cases hn
  ·obtain rfl:=hy
   simp only[Option.map_some] at hk
   have hv:=cA hs.fz hs.tmr y
   unfold tbnd at hk
   split at hk
   ·rename_i e;cases e
   ·rename_i _ kk i e
    obtain e:=a6 e
    rw[e] at hv
    rw[hv.bool_inv]
    rfl
   ·cases hk
 obtain⟨hl',cl1⟩:=hb lo _ _ hl
 obtain⟨hk',cl2⟩:=hb hi _ _ hk
 have nopop:aV (ev tm x)=false→Rex.pop P (ev tm) { dst:=dst,op:=.slice t x lo hi none,type:=ty,pos:=pos,after:=aft,guard:=gd }=none:=by
  intro hcl
  have e0:Rex.pop P (ev tm) { dst:=dst,op:=.slice t x lo hi none,type:=ty,pos:=pos,after:=aft,guard:=gd }=gL P (ev tm) { dst:=dst,op:=.slice t x lo hi none,type:=ty,pos:=pos,after:=aft,guard:=gd }:=lT rfl
  rw[e0]
  unfold gL
  simp only
  rw[b6]
  simp[Op.operands,iP hcl]
 have act : ∀ v, aV (ev tm x) = false → gP P t (ev tm x) (lo.map (ev tm)) (hi.map (ev tm)) h = some v → VL Fz h L (.list es ((rows.drop l).take (k - l))) v → (∃ v, Rex.pop P (ev tm) { dst := dst, op := .slice t x lo hi none, type := ty, pos := pos, after := aft, guard := gd } = some v ∧ ∃ Fz' L', Grow h0 Fz Fz' h h ∧ St h0 Fz' L' ⟨tput s.tm dst (.list es ((rows.drop l).take (k - l))), s.hp⟩ (aT tm dst v) h) ∨
     Rex.pop P (ev tm) { dst:=dst,op:=.slice t x lo hi none,type:=ty,pos:=pos,after:=aft,guard:=gd }=none∧∃ v h1,xop C P (ev tm) { dst:=dst,op:=.slice t x lo hi none,type:=ty,pos:=pos,after:=aft,guard:=gd } h=some (v,h1,none)∧Ext h h1∧∃ Fz' L',Grow h0 Fz Fz' h h1∧St h0 Fz' L' ⟨tput s.tm dst (.list es ((rows.drop l).take (k-l))),s.hp⟩ (aT tm dst v) h1:=by
  intro v hcl hv hvl
  exact .inr ⟨nopop hcl,v,h,by simp only[xop,hop,hv,Option.map_some],Ext.refl h,Fz,L,Grow.refl _ _,hs.put dst hvl⟩
 generalize hex:ev tm x=vx at *
 cases hvx with
 | nillist =>
  have hk0:k=0:=by simpa using hkr
  subst hk0
  obtain rfl:l=0:=by omega
  left
  refine⟨.slice none 0 0,?_,Fz,L,Grow.refl _ _,hs.put dst (by simpa using VL.nillist (Fz:=Fz) (h:=h) L es)⟩
  have e0:Rex.pop P (ev tm) { dst:=dst,op:=.slice t x lo hi none,type:=ty,pos:=pos,after:=aft,guard:=gd }=gL P (ev tm) { dst:=dst,op:=.slice t x lo hi none,type:=ty,pos:=pos,after:=aft,guard:=gd }:=lT rfl
  rw[e0]
  unfold gL
  simp only
  have hall:(Op.slice t x lo hi none).operands.toList.all (fun x=>dU (ev tm x))=true:=by
   rw[b9]
   intro y hy
   simp only[Op.operands] at hy
   have hy':y=x∨y∈lo∨y∈hi:=by
    cases lo<;>cases hi<;>simp at hy ⊢<;>first|exact hy|(rcases hy with rfl|rfl|rfl<;>simp)|(rcases hy with rfl|rfl<;>simp)
   rcases hy' with rfl|hy'|hy'
   ·rw[hex];rfl
   ·exact cl1 y hy'
   ·exact cl2 y hy'
  rw[b5 hall]
  have hrun:prun P (Instr.sliceAt t (.slice none 0 0) (lo.map (ev tm)) (hi.map (ev tm)) none)=some (.slice none 0 0):=by
   have b1:∀(y:Option Operand) (code:BoundsCode),bnd (y.map (ev tm)) 0=some 0→prun P (match y.map (ev tm) with|some v=>Instr.sliceBound v 0 code|none=>pure 0:Sem Nat)=some 0:=by
    intro y code hy
    cases y with
    | none=>rfl
    | some y =>
     simp only[Option.map_some] at hy ⊢
     generalize ev tm y=q at *
     unfold bnd at hy
     split at hy
     ·rename_i e;cases e
     ·rename_i _ kk i e
      obtain rfl:=a6 e
      split at hy
      ·rename_i h0'
       have hi0:i.toNat=0:=by simpa using hy
       have:i=0:=by omega
       subst this
       rfl
      ·cases hy
     ·cases hy
   have hsb:prun P (Instr.sliceBounds true 0 0 (lo.map (ev tm)) (hi.map (ev tm)) none)=some (0,0,0):=by
    have q1:=fun code=>b1 lo code hl'
    have q2:=fun code=>b1 hi code hk'
    unfold Instr.sliceBounds
    cases hi with
    | none =>
     cases lo with
     | none=>rfl
     | some y =>
      simp only[Option.map_some,Option.map_none] at q1 ⊢
      show prun P (Instr.sliceBound (ev tm y) 0 _ >>= fun l=>pure (l,0,0))=_
      rw[bD,q1]
      rfl
    | some z =>
     simp only[Option.map_some] at q2 ⊢
     cases lo with
     | none =>
      show prun P (Instr.sliceBound (ev tm z) 0 _ >>= fun h=>pure (0,h,0))=_
      rw[bD,q2]
      rfl
     | some y =>
      simp only[Option.map_some] at q1 ⊢
      show prun P (Instr.sliceBound (ev tm z) 0 _ >>= fun h=>Instr.sliceBound (ev tm y) h _ >>= fun l=>pure (l,h,0))=_
      rw[bD,q2,a8,bD,q1]
      rfl
   have hsz:prun P (sizeOf e)=some (P.cellsOf e):=by
    unfold okT at hok
    cases hi':P.info? e with
    | none=>rw[hi'] at hok;cases hok
    | some i =>
     have h1:prun P (typeInfo e)=some i:=by
      unfold typeInfo
      rw[bD]
      show prun P (match P.info? e with | some i => pure i | none => stuck "no such type") = some i
      rw[hi']
      rfl
     show prun P (typeInfo e >>= fun i=>pure i.size)=_
     rw[bD,h1]
     simp[prun,Program.cellsOf,hi',pure]
   show prun P (underlying t >>= fun d=>_)=_
   rw[bD,lU hu,a8]
   show prun P (Instr.slice t (.slice none 0 0) (lo.map (ev tm)) (hi.map (ev tm)) none)=_
   show prun P (underlying t >>= fun d=>_)=_
   rw[bD,lU hu,a8]
   show prun P (Instr.sliceBounds true 0 0 (lo.map (ev tm)) (hi.map (ev tm)) none >>= fun q=>_)=_
   rw[bD,hsb,a8]
   show prun P (sizeOf e >>= fun q=>_)=_
   rw[bD,hsz,a8]
   rfl
  have hrun':prun P (execOp (ev tm) { dst:=dst,op:=.slice t x lo hi none,type:=ty,pos:=pos,after:=aft,guard:=gd })=some (.value (.slice none 0 0)):=by
   show prun P (Instr.sliceAt t (ev tm x) (lo.map (ev tm)) (hi.map (ev tm)) none >>= fun v=>pure (Next.value v))=_
   rw[bD,hex,hrun]
   rfl
  rw[hrun']
  rfl
 | vague =>
  have hk0:k=0:=by simpa using hkr
  subst hk0
  obtain rfl:l=0:=by omega
  refine act vag rfl ?_ (by simpa using VL.vague (Fz:=Fz) (h:=h) L es)
  have hk2:bnd (hi.map (ev tm)) 0=some 0:=hk'
  have hok':(P.info? e).isSome=true:=hok
  simp only[vag,gP,hu,hl',hk2,hok',if_true]
 | list _ _ _ n o c cs eb hn hb' he hw hcc hle ha =>
  by_cases hlc:l=0∨l<c
  ·refine act (.slice (some ⟨n,o+l*es,none⟩) (k-l) (c-l)) rfl ?_ (VL.part hn hb' he hw hle ha l (k-l) (by omega) (by omega))
   simp only[gP,hu,hb',hl',hk',hes]
   rw[b5 ⟨he,hok,hlk,by omega,hlc⟩]
  ·have e1:k-l=0:=by omega
   refine act vag rfl ?_ (by rw[e1];simpa using VL.vague (Fz:=Fz) (h:=h) L es)
   simp only[gP,hu,hb',hl',hk',hes]
   rw[b6 (by omega),b5 ⟨he,hok,hlk,by omega,by omega⟩]
end
end Go.Rex
namespace Go.Rex
open Go.RowKit
section
variable {C:Ctx} {P:Program} {ops:Array Oper} {rest:List Oper} {tm tm2:List TV} {hp hp2:List TB} {Q:TS→Prop} {o:Oper}
variable {dst:Option Tmp} {ty:TypeId} {pos:String} {aft:Array Edge} {gd:Option (Nat×Bool)} {p q:TV} {ms:List Nat} {i:Nat} {np:List Nat} {c:Nat}
theorem stV{t:TypeId}{a x:Operand}{n ob:Nat}{row row2 l:List TV}(ha:tev tm a = .lptr n 0 ob)(hx:tev tm x=p)(hj:eB p=false)(hl:tcells p=l)(hb:hp[n]?=some (.var row))(ht:okT P t=true)(hlen:l.length=P.cellsOf t)(hone:l.all tone=true)(hfit:Nat.ble (ob+l.length) row.length=true)(hv:tsplice row ob l=row2) :
 OpW C P { dst:=none,op:=.store t a x,type:=ty,pos:=pos,after:=aft,guard:=gd } ⟨tm,hp⟩ ⟨tm,hp.set n (.var row2)⟩:=by
 subst hl hv
 refine OpW.store (s:=⟨tm,hp⟩) ?_
 rw[show tev (TS.mk tm hp).tm a=_ from ha,show tev (TS.mk tm hp).tm x=p from hx]
 simp only[tstore]
 rw[b5 ⟨hj,ht,hlen,hone⟩,hb]
 simp only
 rw[b5 ⟨trivial,Nat.le_of_ble_eq_true hfit⟩]
theorem stR{α:Type}{f:α→List TV}{xs:List α}{y:α}{u:α}{t:TypeId}{a x:Operand}{n r ob es:Nat}{l:List TV}(ha:tev tm a = .lptr n r ob)(hx:tev tm x=p)(hj:eB p=false)(hl:tcells p=l)(hb:hp[n]?=some (.rows es (xs.map f)))(hr:xs[r]?=some u)(ht:okT P t=true)(hlen:l.length=P.cellsOf t)(hone:l.all tone=true)
 (hlf:l.all (lf 4)=true) (hfit:Nat.ble (ob+l.length) (f u).length=true) (hv:tsplice (f u) ob l=f y) :
 OpW C P { dst:=none,op:=.store t a x,type:=ty,pos:=pos,after:=aft,guard:=gd } ⟨tm,hp⟩ ⟨tm,hp.set n (.rows es ((xs.set r y).map f))⟩:=by
 subst hl
 refine OpW.store (s:=⟨tm,hp⟩) ?_
 rw[show tev (TS.mk tm hp).tm a=_ from ha,show tev (TS.mk tm hp).tm x=p from hx]
 simp only[tstore]
 rw[b5 ⟨hj,ht,hlen,hone⟩,hb]
 simp only[List.getElem?_map,hr,Option.map_some]
 rw[b5 ⟨Nat.le_of_ble_eq_true hfit,hlf⟩,hv,List.map_set]
theorem TO.sv{t:TypeId}{a x:Operand}{n ob:Nat}{row row2 l:List TV}(hw:twant ops tm { dst:=none,op:=.store t a x,type:=ty,pos:=pos,after:=aft,guard:=gd }=some true)(ha:tev tm a = .lptr n 0 ob)(hx:tev tm x=p)(hj:eB p=false)(hl:tcells p=l)(hb:hp[n]?=some (.var row))(ht:okT P t=true)(hlen:l.length=P.cellsOf t)(hone:l.all tone=true)(hfit:Nat.ble (ob+l.length) row.length=true)(hv:tsplice row ob l=row2)
 (hh2:hp.set n (.var row2)=hp2) (hq:TO C P ops rest ⟨tm,hp2⟩ Q):TO C P ops ({ dst:=none,op:=.store t a x,type:=ty,pos:=pos,after:=aft,guard:=gd }::rest) ⟨tm,hp⟩ Q:=by
 subst hh2;exact TO.w hw (stV ha hx hj hl hb ht hlen hone hfit hv) hq
theorem TD.sr{α:Type}(f:α→List TV)(xs:List α)(u y:α){t:TypeId}{a x:Operand}{n r ob es:Nat}{l:List TV}(hr:xs[r]?=some u)(hw:twant ops tm { dst:=none,op:=.store t a x,type:=ty,pos:=pos,after:=aft,guard:=gd }=some true)(ha:tev tm a = .lptr n r ob)(hx:tev tm x=p)(hj:eB p=false)(hl:tcells p=l)(hb:hp[n]?=some (.rows es (xs.map f)))(ht:okT P t=true)(hlen:l.length=P.cellsOf t)(hone:l.all tone=true)
 (hlf:l.all (lf 4)=true) (hfit:Nat.ble (ob+l.length) (f u).length=true) (hv:tsplice (f u) ob l=f y) (hnp:okW ops ms i ⟨tm,hp⟩ n np=true) (hh2:hp.set n (.rows es ((xs.set r y).map f))=hp2) (hq:TD C P ops ms rest (i+1) (i::np) 1 ⟨tm,hp2⟩ Q):TD C P ops ms ({ dst:=none,op:=.store t a x,type:=ty,pos:=pos,after:=aft,guard:=gd }::rest) i np c ⟨tm,hp⟩ Q:=by
 subst hh2;exact TD.wF (s:=⟨tm,hp⟩) hw ha (stR ha hx hj hl hb hr ht hlen hone hlf hfit hv) hnp hq
end
section
variable {C:Ctx} {P:Program} {ops:Array Oper} {rest:List Oper} {tm tm2:List TV} {hp hp2:List TB} {Q:TS→Prop} {o:Oper}
variable {dst:Option Tmp} {ty:TypeId} {pos:String} {aft:Array Edge} {gd:Option (Nat×Bool)} {p q:TV} {ms:List Nat} {i:Nat} {np:List Nat} {c:Nat}
end
theorem z1:(∀ tm t,tev tm (.tmp t)=tnth tm t)∧(∀ tm k n,tev tm (.const (.int k n)) = .v (.int k n))∧(∀ tm b,tev tm (.const (.bool b)) = .v (.bool b))∧(∀ tm s,tev tm (.const (.string s)) = .v (.string s))∧(∀ tm k b,tev tm (.const (.float k b)) = .v (.float k b)) ∧
 (∀ tm k a b,tev tm (.const (.complex k a b)) = .v (.complex k a b))∧(∀ tm,tev tm (.const (.slice none 0 0)) = .v (.slice none 0 0))∧(∀ tm,tev tm (.const .nilFunc) = .v .nilFunc)∧(∀ tm,tev tm (.const .nilIface) = .v .nilIface)∧(∀ tm,tev tm (.const (.pointer none)) = .v (.pointer none)) ∧
 (∀ tm f,tev tm (.func f) = .func f [] [])∧(∀ a l,tnth (a::l) 0=a)∧(∀ a l n,tnth (a::l) (n+1)=tnth l n)∧(∀ tm p,tput tm none p=tm)∧(∀ tm d p,tput tm (some d) p=tm.set d p):=
 ⟨fun _ _=>rfl,fun _ _ _=>rfl,fun _ _=>rfl,fun _ _=>rfl,fun _ _ _=>rfl,fun _ _ _ _=>rfl,fun _=>rfl,fun _=>rfl,fun _=>rfl,fun _=>rfl,fun _ _=>rfl,fun _ _=>rfl,fun _ _ _=>rfl,fun _ _=>rfl,fun _ _ _=>rfl⟩
theorem z2:(∀ k a b,aZ .add (.int k a) (.int k b)=some (.int k (k.wrap (a+b))))∧(∀ k a b,aZ .sub (.int k a) (.int k b)=some (.int k (k.wrap (a-b))))∧(∀ k a b,aZ .mul (.int k a) (.int k b)=some (.int k (k.wrap (a*b)))) ∧
 (∀ k a b,aZ .lss (.int k a) (.int k b)=some (.bool (decide (a<b))))∧(∀ k a b,aZ .leq (.int k a) (.int k b)=some (.bool (decide (a≤b))))∧(∀ k a b,aZ .gtr (.int k a) (.int k b)=some (.bool (decide (a>b))))∧(∀ k a b,aZ .geq (.int k a) (.int k b)=some (.bool (decide (a≥b)))) ∧
 (∀ k a b,aZ .eql (.int k a) (.int k b)=some (.bool (decide (a=b))))∧(∀ k a b,aZ .neq (.int k a) (.int k b)=some (.bool (decide (a≠b))))∧(∀ k a b,aZ .quo (.int k a) (.int k b)=if b=0 then none else some (.int k (k.wrap (a.tdiv b))))∧(∀ k a b,aZ .rem (.int k a) (.int k b)=if b=0 then none else some (.int k (a.tmod b))):=by
 refine⟨?_,?_,?_,?_,?_,?_,?_,?_,?_,?_,?_⟩<;>(intro k a b;simp only[aZ,if_true])
end Go.Rex
namespace Go.Rex
open Go.RowKit
section
variable {C:Ctx} {P:Program} {ops:Array Oper} {rest:List Oper} {tm tm2:List TV} {hp hp2:List TB} {Q:TS→Prop} {o:Oper}
variable {dst:Option Tmp} {ty:TypeId} {pos:String} {aft:Array Edge} {gd:Option (Nat×Bool)} {p q:TV} {ms:List Nat} {i:Nat} {np:List Nat} {c:Nat}
theorem TO.here{l:List Oper}{s:TS}(h:TO C P ops l s Q):TO C P ops l s Q:=h
theorem TD.here{l:List Oper}{s:TS}(h:TD C P ops ms l i np c s Q):TD C P ops ms l i np c s Q:=h
theorem mkG{α:Type}{f:α→List TV}{z0:α}{xs:List α}{t e:TypeId}{x y:Operand}{k k':IntKind}{n:Int}{z:List Value}{es by':Nat}(hm:mkI by' n z0=some xs)(hx:tev tm x = .v (.int k n))(hy:tev tm y = .v (.int k' n))(hs:bA P t=some e)(hz:fK P e=some z)(hb:fU P e=by')(hne:z.length=es)(he:Nat.ble 1 es=true)(hf:z.map .v=f z0) :
 OpG C P { dst:=dst,op:=.makeSlice t x y,type:=ty,pos:=pos,after:=aft,guard:=gd } ⟨tm,hp⟩ ⟨tput tm dst (.lsl hp.length 0 xs.length),hp++[.rows es (xs.map f)]⟩:=by
 unfold mkI at hm
 split at hm
 ·rename_i hc
  obtain rfl:=a6 hm
  have:=OpG.makeSlice (C:=C) (P:=P) (s:=⟨tm,hp⟩) (dst:=dst) (ty:=ty) (pos:=pos) (aft:=aft) (gd:=gd) (t:=t) (l:=x) (c:=y) (n:=n.toNat) (z:=z) (by
   rw[show tev (TS.mk tm hp).tm x=_ from hx,show tev (TS.mk tm hp).tm y=_ from hy]
   simp only[tmake,hs,hz,hb]
   rw[b5 ⟨trivial,hc.1,hc.2.1,hc.2.2,fun h=>by rw[h] at hne;simp at hne;subst hne;simp[Nat.ble] at he⟩])
  rw[hne,hf] at this
  simpa using this
 ·cases hm
theorem TO.mk{α:Type}(f:α→List TV){z0:α}{xs:List α}{t e:TypeId}{x y:Operand}{k k':IntKind}{n:Int}{z:List Value}{es by':Nat}(hm:mkI by' n z0=some xs)(hw:twant ops tm { dst:=dst,op:=.makeSlice t x y,type:=ty,pos:=pos,after:=aft,guard:=gd }=some true)(hx:tev tm x = .v (.int k n))(hy:tev tm y = .v (.int k' n))(hs:bA P t=some e)(hz:fK P e=some z)(hb:fU P e=by')(hne:z.length=es)(he:Nat.ble 1 es=true)(hf:z.map .v=f z0)
 (ht:tput tm dst (.lsl hp.length 0 xs.length)=tm2) (hh2:hp++[.rows es (xs.map f)]=hp2) (hq:TO C P ops rest ⟨tm2,hp2⟩ Q):TO C P ops ({ dst:=dst,op:=.makeSlice t x y,type:=ty,pos:=pos,after:=aft,guard:=gd }::rest) ⟨tm,hp⟩ Q:=by
 subst ht hh2;exact TO.g hw (mkG hm hx hy hs hz hb hne he hf) hq
theorem boG{α:Type}{f:α→List TV}{xs:List α}{t:TypeId}{n es:Nat}{ps:Array (Nat×Operand)}{l:List (Nat×TV)}{rows:List (List TV)}(hx:ps.toList.map (fun q=>(q.1,tev tm q.2))=l)(hv:tslice P t n l=some (es,rows))(hr:rows=xs.map f)(hn:n=xs.length) :
 OpG C P { dst:=dst,op:=.buildSlice t n ps,type:=ty,pos:=pos,after:=aft,guard:=gd } ⟨tm,hp⟩ ⟨tput tm dst (.lsl hp.length 0 xs.length),hp++[.rows es (xs.map f)]⟩:=by
 subst hr hn
 exact OpG.buildOwn (s:=⟨tm,hp⟩) (by simp only[hx];exact hv)
theorem TO.bl{α:Type}(f:α→List TV)(xs:List α){t:TypeId}{n es:Nat}{ps:Array (Nat×Operand)}{l:List (Nat×TV)}{rows:List (List TV)}(hw:twant ops tm { dst:=dst,op:=.buildSlice t n ps,type:=ty,pos:=pos,after:=aft,guard:=gd }=some true)(hx:ps.toList.map (fun q=>(q.1,tev tm q.2))=l)(hv:tslice P t n l=some (es,rows))(hr:rows=xs.map f)(hn:n=xs.length)
 (ht:tput tm dst (.lsl hp.length 0 xs.length)=tm2) (hh2:hp++[.rows es (xs.map f)]=hp2) (hq:TO C P ops rest ⟨tm2,hp2⟩ Q):TO C P ops ({ dst:=dst,op:=.buildSlice t n ps,type:=ty,pos:=pos,after:=aft,guard:=gd }::rest) ⟨tm,hp⟩ Q:=by
 subst ht hh2;exact TO.g hw (boG hx hv hr hn) hq
theorem sbG{α:Type}{f:α→List TV}{xs ys:List α}{t e:TypeId}{x:Operand}{lo hi:Option Operand}{ql qh:Option TV}{es:Nat}{l k:Int}(hs:yH xs l k=some ys)(hx:tev tm x = .list es (xs.map f))(hl:lo.map (tev tm)=ql)(hh:hi.map (tev tm)=qh)(hso:bA P t=some e)(ho:okT P e=true)(hes:P.cellsOf e=es)
 (hl':(ql=none∧l=0)∨∃ k',ql=some (.v (.int k' l))) (hh':(qh=none∧k=xs.length)∨∃ k',qh=some (.v (.int k' k))) :
 OpM C P { dst:=dst,op:=.slice t x lo hi none,type:=ty,pos:=pos,after:=aft,guard:=gd } ⟨tm,hp⟩ ⟨tput tm dst (.list es (ys.map f)),hp⟩:=by
 unfold yH at hs
 split at hs
 ·rename_i hc
  obtain rfl:=a6 hs
  obtain⟨c1,c2,c3⟩:=hc
  have b1:tbnd ql 0=some l.toNat:=by
   rcases hl' with⟨rfl,rfl⟩|⟨k',rfl⟩
   ·rfl
   ·simp only[tbnd];rw[b5 c1]
  have b2:tbnd qh (xs.map f).length=some k.toNat:=by
   rcases hh' with⟨rfl,rfl⟩|⟨k',rfl⟩
   ·simp[tbnd]
   ·simp only[tbnd];rw[b5 (by omega)]
  have:=OpM.slice (C:=C) (s:=⟨tm,hp⟩) (dst:=dst) (ty:=ty) (pos:=pos) (aft:=aft) (gd:=gd) (lo:=lo) (hi:=hi) (l:=l.toNat) (k:=k.toNat) hso ho hes hx (by rw[show lo.map (tev (TS.mk tm hp).tm)=ql from hl];exact b1) (by rw[show hi.map (tev (TS.mk tm hp).tm)=qh from hh];exact b2) (by omega) (by simp;omega)
  rw[← List.map_drop,← List.map_take] at this
  exact this
 ·cases hs
theorem TD.sb{α:Type}(f:α→List TV){xs ys:List α}{t e:TypeId}{x:Operand}{lo hi:Option Operand}{ql qh:Option TV}{es:Nat}{l k:Int}(hs:yH xs l k=some ys)(hw:twant ops tm { dst:=dst,op:=.slice t x lo hi none,type:=ty,pos:=pos,after:=aft,guard:=gd }=some true)(hx:tev tm x = .list es (xs.map f))(hl:lo.map (tev tm)=ql)(hh:hi.map (tev tm)=qh)(hso:bA P t=some e)(ho:okT P e=true)(hes:P.cellsOf e=es)
 (hl':(ql=none∧l=0)∨∃ k',ql=some (.v (.int k' l))) (hh':(qh=none∧k=xs.length)∨∃ k',qh=some (.v (.int k' k))) (ht:tput tm dst (.list es (ys.map f))=tm2) (hq:TD C P ops ms rest (i+1) (i::np) 0 ⟨tm2,hp⟩ Q):TD C P ops ms ({ dst:=dst,op:=.slice t x lo hi none,type:=ty,pos:=pos,after:=aft,guard:=gd }::rest) i np 0 ⟨tm,hp⟩ Q:=by
 subst ht;exact TD.m hw (sbG hs hx hl hh hso ho hes hl' hh') hq
end
end Go.Rex
namespace Go.Rex
open Go.RowKit
theorem z3:(∀(α:Type) (a b:α) (l:List α),(a::l).set 0 b=b::l)∧(∀(α:Type) (a b:α) (l:List α) (n:Nat),(a::l).set (n+1) b=a::l.set n b)∧(∀(α:Type) (a:α) (l:List α),(a::l)[0]?=some a)∧(∀(α:Type) (a:α) (l:List α) (n:Nat),(a::l)[n+1]?=l[n]?) ∧
 (∀(α β:Type) (f:α→β) (a:α) (l:List α),(a::l).map f=f a::l.map f)∧(∀(α β:Type) (f:α→β),([]:List α).map f=[])∧(∀(α:Type) (a:α) (l m:List α),(a::l)++m=a::(l++m))∧(∀(α:Type) (l:List α),[]++l=l)∧(∀(α:Type) (a:α) (l:List α),(a::l).length=l.length+1)∧(∀(α:Type),([]:List α).length=0) ∧
 (∀(α:Type) (l:List α),l.drop 0=l)∧(∀(α:Type) (a:α) (l:List α) (n:Nat),(a::l).drop (n+1)=l.drop n)∧(∀(α:Type) (n:Nat),([]:List α).drop n=[])∧(∀(α:Type) (l:List α),l.take 0=[])∧(∀(α:Type) (a:α) (l:List α) (n:Nat),(a::l).take (n+1)=a::l.take n)∧(∀(α:Type) (n:Nat),([]:List α).take n=[]) ∧
 (∀(α β:Type) (f:α→β) (a:α),(some a).map f=some (f a))∧(∀(α β:Type) (f:α→β) (l:List α),(l.map f).length=l.length):=
 ⟨fun _ _ _ _=>rfl,fun _ _ _ _ _=>rfl,fun _ _ _=>rfl,fun _ _ _ _=>rfl,fun _ _ _ _ _=>rfl,fun _ _ _=>rfl,fun _ _ _ _=>rfl,fun _ _=>rfl,fun _ _ _=>rfl,fun _=>rfl,fun _ _=>rfl,fun _ _ _ _=>rfl,fun _ n=>by cases n<;>rfl,fun _ _=>rfl,fun _ _ _ _=>rfl,fun _ n=>by cases n<;>rfl,fun _ _ _ _=>rfl,fun _ _ _ _=>l4 _⟩
theorem z4:(∀ l,tcells (.agg l)=l)∧(∀ x,tcells (.v x)=[.v x])∧(∀ a b,tcells (.list a b)=[.list a b])∧(∀ a b c,tcells (.func a b c)=[.func a b c])∧(∀ v a b,tcells (.fptr v a b)=[.fptr v a b])∧(∀ a b c,tcells (.lptr a b c)=[.lptr a b c])∧(∀ a b c,tcells (.lsl a b c)=[.lsl a b c]) ∧
 (∀ l,eB (.agg l)=false)∧(∀ x,eB (.v x)=false)∧(∀ a b,eB (.list a b)=false)∧(∀ a b c,eB (.func a b c)=false)∧(∀ v a b,eB (.fptr v a b)=false)∧(∀ a b c,eB (.lptr a b c)=false)∧(∀ a b c,eB (.lsl a b c)=false) ∧
 (∀ a b,tpick (.v (.bool true)) a b=some a)∧(∀ a b,tpick (.v (.bool false)) a b=some b)∧(∀ ops tm dst op ty pos aft,twant ops tm { dst:=dst,op:=op,type:=ty,pos:=pos,after:=aft,guard:=none }=some true)∧(∀(c:List TV) o l,tsplice c o l=c.take o++l++c.drop (o+l.length)) ∧
 (∀ tm,tput tm none=fun _=>tm):=
 ⟨fun _=>rfl,fun _=>rfl,fun _ _=>rfl,fun _ _ _=>rfl,fun _ _ _=>rfl,fun _ _ _=>rfl,fun _ _ _=>rfl,fun _=>rfl,fun _=>rfl,fun _ _=>rfl,fun _ _ _=>rfl,fun _ _ _=>rfl,fun _ _ _=>rfl,fun _ _ _=>rfl,fun _ _=>rfl,fun _ _=>rfl,fun _ _ _ _ _ _ _=>rfl,fun _ _ _=>rfl,fun _=>rfl⟩
end Go.Rex
namespace Go.Rex
theorem z5:(∀ r,tidx r 0=r[0]?)∧(∀ r,tidx r 1=r[1]?)∧(∀ r,tidx r 2=r[2]?)∧(∀ r,tidx r 3=r[3]?)∧(∀ r,tidx r 4=r[4]?)∧(∀ r,tidx r 5=r[5]?)∧(∀ r,tidx r 6=r[6]?)∧(∀ r,tidx r 7=r[7]?)∧(∀ r,tidx r 8=r[8]?)∧(∀ r,tidx r 9=r[9]?):=by
 refine⟨?_,?_,?_,?_,?_,?_,?_,?_,?_,?_⟩<;>(intro r;rfl)
example:(0:Int)<((2:Nat):Int):=by simp only[Int.cast_ofNat_Int,Int.reduceLT]
theorem tml{α β:Type}{f:α→β}{xs:List α}:(xs.map f).take xs.length=xs.map f:=i7 (by simp)
end Go.Rex
namespace Go.Rex
open Go.RowKit
section
variable {C:Ctx} {P:Program} {ops:Array Oper} {rest:List Oper} {tm tm2:List TV} {hp hp2:List TB} {Q:TS→Prop} {o:Oper}
variable {dst:Option Tmp} {ty:TypeId} {pos:String} {aft:Array Edge} {gd:Option (Nat×Bool)} {p q:TV} {ms:List Nat} {i:Nat} {np:List Nat} {c:Nat}
theorem TX.unroll{b:Code}{s:TS}{Q:Exit→TS→Prop}(hx:TX C P b s (sG (fun s=>TX C P (.loop b) s Q) Q)):TX C P (.loop b) s Q:=by
 intro h0 Fz L tm h hs
 obtain⟨K,e,⟨tm',df'⟩,h',w1,h1,h2,hd,s',F',L',q,g,hs'⟩:=hx h0 Fz L tm h hs
 obtain rfl:df'=[]:=hd
 cases e with
 | normal =>
  obtain⟨K2,e2,a2,h2',w2,k1,k2,kd,s3,F3,L3,q3,g3,hs3⟩:=q h0 F' L' tm' h' hs'
  refine⟨max K K2+1,e2,a2,h2',wmin w1 w2,?_,jD h2 k2,kd,s3,F3,L3,q3,g.trans g3,hs3⟩
  simp only[exec]
  rw[jJ (Nat.le_max_left K K2) h1]
  simp only
  rw[jJ (Nat.le_max_right K K2) k1]
  rfl
 | _=>exact⟨K+1,_,_,h',w1,by simp only[exec,h1],h2,rfl,s',F',L',q,g,hs'⟩
theorem TX.vt{α:Type}(f:α→List TV)(t es:Nat){b:Code}{Q:Exit→TS→Prop}(ht:tnth tm t = .v (.slice none 0 0))(h1:tm.set t (.lsl hp.length 0 ([]:List α).length)=tm2)(h2:hp++[.rows es (([]:List α).map f)]=hp2)(hq:TX C P b ⟨tm2,hp2⟩ Q):TX C P b ⟨tm,hp⟩ Q:=by
 subst h1 h2
 exact TX.weak (Wk.nil t es ht) hq
theorem TX.here{b:Code}{s:TS}{Q:Exit→TS→Prop}(h:TX C P b s Q):TX C P b s Q:=h
theorem tmlc{α β:Type}{f:α→β}{xs:List α}{n:Nat}(h:xs.length=n):(xs.map f).take n=xs.map f:=by subst h;exact tml
variable {x y:Operand} {t u:TypeId}
variable {fo:Operand} {g:FuncId} {args:Array Operand} {tyA:Array TypeId} {F:Array Value→Sem Value}
end
end Go.Rex
namespace Go.Rex
open Go.RowKit
section
variable {P:Program} {tm:List TV} {hp:List TB}
variable {dst:Option Tmp} {ty:TypeId} {pos:String} {aft:Array Edge} {gd:Option (Nat×Bool)} {x y:Operand} {t u:TypeId}
inductive EqF (P:Program) (d:Nat) (X Y:Array Value):List Field→List Bool→Prop
 | nil:EqF P d X Y [] []
 | cons {f : Field} {fs : List Field} {b : Bool} {bs : List Bool} {u v : Value} (hn : f.name ≠ "_") (hu : prun P (part f.type X f.offset) = some u) (hv : prun P (part f.type Y f.offset) = some v) (he : prun P (Op.equalIn d f.type u v) = some b) (hr : EqF P d X Y fs bs) : EqF P d X Y (f :: fs) (b :: bs)
end
end Go.Rex
namespace Go.Rex
open Go.RowKit
class Mv (p:Prop) (q:outParam Prop):Prop where
 mv:q→p
theorem mv{p q:Prop}[i:Mv p q](h:q):p:=i.mv h
section
variable {C:Ctx} {P:Program} {s:TS} {Q:Exit→TS→Prop} {next:TS→Prop}
instance {x y:Code}:Mv (TX C P (.seq x y) s Q) (TX C P x s (sG (fun s=>TX C P y s Q) Q)):=⟨TX.seq⟩
instance {id:Nat} {b:Code}:Mv (TX C P (.block id b) s Q) (TX C P b s (gN id Q)):=⟨TX.block⟩
instance:Mv (TX C P .skip s Q) (Q .normal s):=⟨TX.skip⟩
instance {id:Nat}:Mv (TX C P (.exit id) s Q) (Q (.exit id) s):=⟨TX.exit⟩
instance:Mv (TX C P .ret s Q) (Q .ret s):=⟨TX.ret⟩
instance:Mv (sG next Q .normal s) (next s):=⟨Dw⟩
instance {id:Nat}:Mv (sG next Q (.exit id) s) (Q (.exit id) s):=⟨Dk⟩
instance:Mv (sG next Q .ret s) (Q .ret s):=⟨Cx⟩
instance {id:Nat}:Mv (gN id Q .normal s) (Q .normal s):=⟨Aa⟩
instance {id:Nat}:Mv (gN id Q .ret s) (Q .ret s):=⟨Bd⟩
instance {id:Nat}:Mv (gN id Q (.exit id) s) (Q .normal s):=⟨Ak⟩
end
def m12:=@yG
theorem k1{a:Bool}(h:a=true):a=true:=h
theorem k2{a:Option Bool}(h:a=some true):a=some true:=h
def an{p q:Prop}:=@And.intro p q
def z6:=And.intro @List.toList_toArray.{0} <| And.intro @ite_true.{1} <| And.intro @ite_false.{1} <| And.intro @true_and <| And.intro @and_true <| And.intro @and_self <| And.intro @Bool.false_eq_true <| And.intro @decide_true @decide_false
def z7:=And.intro @List.getElem?_toArray.{0} <| And.intro @List.getElem?_cons_succ.{0} <| And.intro @List.getElem?_cons_zero.{0} @Option.bind_some.{0,0}
def zy:=And.intro z1 <| And.intro z2 z3
def zz:=And.intro z1 <| And.intro z2 <| And.intro z3 <| And.intro z4 z6
theorem wr{tm tm':List TV}{hp hp':List TB}(fl:List (Option Nat))(hok:oN fl=true)(hB:RB fl hp hp' fl)(hT:RNs fl tm tm':=by (repeat (first|exact RNs.nil|refine RNs.cons .Z ?_|refine RNs.cons (.keep rfl rfl) ?_|refine RNs.cons (.lsl rfl rfl) ?_|refine RNs.cons (.lsl rfl (by simp only[List.length_set])) ?_|refine RNs.cons (.lptr rfl) ?_|refine RNs.cons (.nil rfl) ?_|refine RNs.cons .nl ?_|refine RNs.cons (.tuple' ?_) ?_|refine RNs.cons (.agg' ?_) ?_))):Wk ⟨tm,hp⟩ ⟨tm',hp'⟩:=Wk.ren fl hok hB hT
theorem rv{fl:List (Option Nat)}{hp:List TB}{n:Nat}{row row':List TV}{hp':List TB}{l:List (Option Nat)}(h:RB fl hp hp' l)(hb:hp[n]?=some (.var row))(hr:RNs fl row row':=by (repeat (first|exact RNs.nil|refine RNs.cons .Z ?_|refine RNs.cons (.keep rfl rfl) ?_|refine RNs.cons (.lsl rfl rfl) ?_|refine RNs.cons (.lsl rfl (by simp only[List.length_set])) ?_|refine RNs.cons (.lptr rfl) ?_|refine RNs.cons (.nil rfl) ?_|refine RNs.cons .nl ?_|refine RNs.cons (.tuple' ?_) ?_|refine RNs.cons (.agg' ?_) ?_))):RB fl hp (.var row'::hp') (some n::l):=.var h hb hr
section
variable {C:Ctx} {P:Program} {ops:Array Oper} {rest:List Oper} {tm tm2:List TV} {hp:List TB} {Q:TS→Prop}
variable {dst:Option Tmp} {ty:TypeId} {pos:String} {aft:Array Edge} {gd:Option (Nat×Bool)} {ms:List Nat} {i:Nat} {np:List Nat} {c:Nat}
theorem bmG{α:Type}{f:α→List TV}{xs:List α}{t:TypeId}{n es:Nat}{ps:Array (Nat×Operand)}{l:List (Nat×TV)}{rows:List (List TV)}(hx:ps.toList.map (fun q=>(q.1,tev tm q.2))=l)(hv:tslice P t n l=some (es,rows))(hr:rows=xs.map f) :
 OpG C P { dst:=dst,op:=.buildSlice t n ps,type:=ty,pos:=pos,after:=aft,guard:=gd } ⟨tm,hp⟩ ⟨tput tm dst (.list es (xs.map f)),hp⟩:=by
 subst hr
 exact OpG.buildSlice (s:=⟨tm,hp⟩) (by simp only[hx];exact hv)
theorem TD.bm{α:Type}(f:α→List TV)(xs:List α){t:TypeId}{n es:Nat}{ps:Array (Nat×Operand)}{l:List (Nat×TV)}{rows:List (List TV)}(hw:twant ops tm { dst:=dst,op:=.buildSlice t n ps,type:=ty,pos:=pos,after:=aft,guard:=gd }=some true)(hx:ps.toList.map (fun q=>(q.1,tev tm q.2))=l)(hv:tslice P t n l=some (es,rows))(hr:rows=xs.map f)
 (ht:tput tm dst (.list es (xs.map f))=tm2) (hq:TD C P ops ms rest (i+1) (i::np) 0 ⟨tm2,hp⟩ Q):TD C P ops ms ({ dst:=dst,op:=.buildSlice t n ps,type:=ty,pos:=pos,after:=aft,guard:=gd }::rest) i np 0 ⟨tm,hp⟩ Q:=by
 subst ht;exact TD.g hw (bmG hx hv hr) hq
end
end Go.Rex
namespace Go.Rex
open Go.RowKit
section
variable {C:Ctx} {P:Program} {ops:Array Oper} {rest:List Oper} {tm tm2:List TV} {hp hp2:List TB} {Q:TS→Prop} {o:Oper}
variable {dst:Option Tmp} {ty:TypeId} {pos:String} {aft:Array Edge} {gd:Option (Nat×Bool)} {p q:TV} {ms:List Nat} {i:Nat} {np:List Nat} {c:Nat}
end
inductive EqI (P:Program) (d:Nat) (X Y:Array Value) (e n:Nat):Nat→List Bool→Prop
 | nil (i:Nat):EqI P d X Y e n i []
 | cons {i:Nat} {b:Bool} {bs:List Bool} {u v:Value} (hu:prun P (part e X (i*n))=some u) (hv:prun P (part e Y (i*n))=some v) (he:prun P (Op.equalIn d e u v)=some b) (hr:EqI P d X Y e n (i+1) bs):EqI P d X Y e n i (b::bs)
section
variable {P:Program} {tm:List TV} {hp:List TB} {dst:Option Tmp} {ty:TypeId} {pos:String} {aft:Array Edge} {gd:Option (Nat×Bool)}
end
section
variable {P:Program} {tm:List TV} {hp:List TB} {dst:Option Tmp} {ty:TypeId} {pos:String} {aft:Array Edge} {gd:Option (Nat×Bool)}
end
end Go.Rex
namespace Go.Rex
open Go.RowKit
def Keeps(h h':List Blk):Prop:=h.length≤h'.length∧∀ m:Nat,h[m]?=some Blk.dfr→h'[m]?=some Blk.dfr
section
variable {P:Program} {C:Ctx}
structure CKeeps(C:Ctx):Prop where
 call:∀ {f args h v h' w},C.call f args h=some (v,h',w)→Keeps h h'
 round:∀ {l args h v h' w},C.round l args h=some (v,h',w)→Keeps h h'
end
end Go.Rex
namespace Go.Rex
open Go.RowKit
section
variable {Fz Fz':Nat→Prop} {h0 h h':List Blk} {L:Nat→LI} {s s':TS} {tm:List Value}
end
section
variable {C:Ctx} {P:Program} {s s':TS} {Q Q':Exit→TS→Prop}
end
end Go.Rex
namespace Go.Rex
open Go.RowKit
structure Out(X:Type) where
 lo:Nat
 base:Nat
 R:X→(Nat→Prop)→List Blk→Prop
 hlo:lo≤base
 stay:∀ {x:X} {Fz Fz':Nat→Prop} {h h':List Blk},R x Fz h→Ext h h'→Grow h Fz Fz' h h'→(FZ Fz' h')→R x Fz' h'
section
variable {E X:Type} {C:Ctx} {P:Program} {O:Out X}
variable {tm tm':List TV} {s s':TS} {x:X} {Q Q':Exit→List TV→X→Prop} {c:Code}
structure Back(o:Oper)(f:Operand)(args:List Operand)(dst:Option Tmp):Prop where
 eq:∃(tys:Array TypeId) (ty:TypeId) (pos:String) (aft:Array Edge) (gd:Option (Nat×Bool)),o={ dst:=dst,op:=.call { callee:=.value f,args:=⟨args⟩,argTypes:=tys },type:=ty,pos:=pos,after:=aft,guard:=gd }
section
variable {nexty:List TV→X→Prop}
end
end
end Go.Rex
namespace Go.Rex
open Go.RowKit
def odsts:List Oper→List Nat
 | []=>[]
 | o::l=>match o.dst with
  | some d=>d::odsts l
  | none=>odsts l
def cdsts:Code→List Nat
 | .seq x y=>cdsts x++cdsts y
 | .cond _ x y=>cdsts x++cdsts y
 | .block _ b=>cdsts b
 | .loop b=>cdsts b
 | .region _ ops _=>odsts ops.toList
 | _=>[]
section
variable {P:Program} {C:Ctx}
end
end Go.Rex
namespace Go.Rex
open Go.RowKit
section
variable {Fz Fz':Nat→Prop} {h0 h h':List Blk} {L:Nat→LI} {s s':TS} {tm:List Value}
end
section
variable {P:Program}
variable {s:TS} {Q:Exit→TS→Prop}
end
end Go.Rex
namespace Go.Rex
open Go.RowKit
section
variable {C:Ctx} {P:Program} {tm tm2:List TV} {hp:List TB} {ops:Array Oper} {rest:List Oper} {Q:TS→Prop}
variable {dst:Option Tmp} {ty:TypeId} {pos:String} {aft:Array Edge} {gd:Option (Nat×Bool)} {x y:Operand} {t u:TypeId}
open Classical in
noncomputable def nilq{α β:Type}(xs:List α)(a b:Option β):Option β:=if xs=[] then (if a=b then b else none) else b
theorem Cs{α β:Type}{xs:List α}{a b:Option β}{r:β}{f:α→List TV}(h:nilq xs a b=some r)(hx:xs.map f=[]):a=some r:=by
 unfold nilq at h
 rw[b5 (List.map_eq_nil_iff.1 hx)] at h
 split at h
 ·rename_i e;rw[e];exact h
 ·cases h
theorem Ds{α β:Type}{xs:List α}{a b:Option β}{r:β}(h:nilq xs a b=some r):b=some r:=by
 unfold nilq at h
 split at h
 ·split at h
  ·exact h
  ·cases h
 ·exact h
theorem TO.nq{b:BinOp}{e:TypeId}{es:Nat}{rows:List (List TV)}(hw:twant ops tm { dst:=dst,op:=.binOp b t x y u,type:=ty,pos:=pos,after:=aft,guard:=gd }=some true)(hb:b = .eql∨b = .neq)(hx:tev tm x = .list es rows)(hy:tev tm y = .v (.slice none 0 0))(hs:bA P t=some e)
 (h1:rows=[]→TO C P ops rest ⟨tput tm dst (.v (.bool (b==.eql))),hp⟩ Q) (h2:TO C P ops rest ⟨tput tm dst (.v (.bool (b==.neq))),hp⟩ Q):TO C P ops ({ dst:=dst,op:=.binOp b t x y u,type:=ty,pos:=pos,after:=aft,guard:=gd }::rest) ⟨tm,hp⟩ Q:=by
 have hu:P.underlying t=some (.slice e):=by
  unfold bA at hs
  split at hs
  ·rename_i hu;rw[hu];exact congrArg some (congrArg TypeDesc.slice (a6 hs))
  ·cases hs
 intro h0 Fz L vm h hst
 have hvx:=cA hst.fz hst.tmr x
 have hvy:=cA hst.fz hst.tmr y
 rw[show tev (TS.mk tm hp).tm x=_ from hx] at hvx
 rw[show tev (TS.mk tm hp).tm y=_ from hy] at hvy
 have ey:ev vm y = .slice none 0 0:=by generalize ev vm y=q at *;cases hvy;rfl
 generalize hex:ev vm x=vx at hvx
 cases hvx with
 | nillist =>
  obtain⟨tm',h',wr,q1,q2,s2,F2,L2,q3,g2,s3⟩:=h1 rfl h0 Fz L _ h (hst.put dst (.v L (.bool (b==.eql)) rfl))
  refine RO.pop (v:=.bool (b==.eql)) (bQ hst.tmr hw) ?_ rfl ⟨tm',h',wr,q1,q2,s2,F2,L2,q3,g2,s3⟩
  rw[lT (by show xA b (ev vm x) (ev vm y)=none;rw[hex,ey];rfl)]
  show eX P (ev vm) _ (aZ b (ev vm x) (ev vm y))=_
  rw[hex,ey]
  have hf:aZ b (Value.slice none 0 0) (.slice none 0 0)=none:=rfl
  rw[hf]
  simp only[eX]
  have he:prun P (Op.equal t (.slice none 0 0) (.slice none 0 0))=some true:=by
   unfold Op.equal Op.maxDepth Op.equalIn
   rw[bD,lU hu]
   rfl
  have h2':prun P (execOp (ev vm) { dst:=dst,op:=.binOp b t x y u,type:=ty,pos:=pos,after:=aft,guard:=gd })=some (.value (.bool (b==.eql))):=by
   show prun P ((eqGuard b t x y (ev vm x) (ev vm y) >>= fun _=>binOp b t (ev vm x) (ev vm y)) >>= fun r=>(pure (Next.value r):Sem Next))=_
   rw[bD,bD,hex,ey]
   rcases hb with rfl|rfl
   ·rw[show prun P (eqGuard .eql t x y (.slice none 0 0) (.slice none 0 0))=some () from rfl,a8]
    show (prun P (do pure (Value.bool (← Op.equal t (.slice none 0 0) (.slice none 0 0))))).bind _=_
    rw[bD,he]
    rfl
   ·rw[show prun P (eqGuard .neq t x y (.slice none 0 0) (.slice none 0 0))=some () from rfl,a8]
    show (prun P (do pure (Value.bool (!(← Op.equal t (.slice none 0 0) (.slice none 0 0)))))).bind _=_
    rw[bD,he]
    rfl
  unfold gL
  simp only
  rw[b5 (by simp[Op.operands,hex,ey];rfl),h2']
  rfl
 | vague =>
  obtain⟨tm',h',wr,q1,q2,s2,F2,L2,q3,g2,s3⟩:=h2 h0 Fz L _ h (hst.put dst (.v L (.bool (b==.neq)) rfl))
  refine RO.act (v:=.bool (b==.neq)) (w1:=none) (bQ hst.tmr hw) ?_ ?_ rfl rfl ⟨tm',h',wr,q1,q2,s2,F2,L2,q3,g2,s3⟩
  ·rw[lT (by show xA b (ev vm x) (ev vm y)=none;rw[hex,ey];rfl)]
   show eX P (ev vm) _ (aZ b (ev vm x) (ev vm y))=_
   rw[hex,ey]
   have hf:aZ b vag (.slice none 0 0)=none:=rfl
   rw[hf]
   simp only[eX]
   unfold gL
   simp only
   rw[b6]
   have hcl:aV (ev vm x)=false:=by rw[hex];rfl
   simp[Op.operands,iP hcl]
  ·simp only[xop,hop,hex,ey,jH,hu,vag]
   rcases hb with rfl|rfl<;>rfl
 | list _ es rows n o c cs eb hn hbb he hww hc hle ha =>
  obtain⟨tm',h',wr,q1,q2,s2,F2,L2,q3,g2,s3⟩:=h2 h0 Fz L _ h (hst.put dst (.v L (.bool (b==.neq)) rfl))
  refine RO.act (v:=.bool (b==.neq)) (w1:=none) (bQ hst.tmr hw) ?_ ?_ rfl rfl ⟨tm',h',wr,q1,q2,s2,F2,L2,q3,g2,s3⟩
  ·rw[lT (by show xA b (ev vm x) (ev vm y)=none;rw[hex,ey];rfl)]
   show eX P (ev vm) _ (aZ b (ev vm x) (ev vm y))=_
   rw[hex,ey]
   have hf:aZ b (Value.slice (some ⟨n,o,none⟩) rows.length c) (.slice none 0 0)=none:=rfl
   rw[hf]
   simp only[eX]
   unfold gL
   simp only
   rw[b6]
   have hcl:aV (ev vm x)=false:=by rw[hex];rfl
   simp[Op.operands,iP hcl]
  ·simp only[xop,hop,hex,ey,jH,hu]
   rcases hb with rfl|rfl<;>rfl
end
end Go.Rex
namespace Go.Rex
open Go.RowKit
section
variable {C:Ctx} {P:Program} {Fz:Nat→Prop} {h h0:List Blk} {L:Nat→LI} {s:TS} {tm:List Value}
variable {dst:Option Tmp} {ty:TypeId} {pos:String} {aft:Array Edge} {gd:Option (Nat×Bool)}
end
section
variable {C:Ctx} {P:Program} {ops:Array Oper} {rest:List Oper} {tm tm2:List TV} {hp hp2:List TB} {Q:TS→Prop} {o:Oper}
variable {dst:Option Tmp} {ty:TypeId} {pos:String} {aft:Array Edge} {gd:Option (Nat×Bool)} {p q:TV} {ms:List Nat} {i:Nat} {np:List Nat} {c:Nat}
end
section
variable {C:Ctx} {P:Program} {tm tm2:List TV} {hp hp2:List TB} {Q:Exit→TS→Prop} {c:Code}
end
end Go.Rex
namespace Go.Rex
open Go.RowKit
def uR(P:Program)(g:FuncId)(res:List Blk→Value×List Blk)(k:Nat):Nat→Ctx
 | 0=>⟨fun _ _ _=>none,fun _ _ _=>none⟩
 | d+1=>⟨fun f args h=>if f=g then (match args with|[]=>some ((res h).1,(res h).2,none)|_=>none) else dF (uR P g res k d) P k f args h,iY (uR P g res k d) P k⟩
def Cg(P:Program)(g:FuncId)(res:List Blk→Value×List Blk):Prop:=
 ∀(h:List Blk) (B lo:Nat) (D:Nat→Prop) (m:NMap) (w:World),Rel B lo D m h w→lo≤h.length→Calls P g ⟨[]⟩ w (Good B lo D m h w (res h).1 (res h).2)
theorem pG{P:Program}(hm:P.follows .mixedOrders=true){g:FuncId}{res:List Blk→Value×List Blk}(hres:Cg P g res)(k:Nat):∀ d,CtxOk P (uR P g res k d)
 | 0=>⟨fun h=>by simp[uR] at h,fun h=>by simp[uR] at h⟩
 | d+1 =>
  have hD:fX P (uR P g res k d):=fun {_ _ _ _ _ _ _} hv {_ _ _ _ _ _ _ _ _} hr hlo hA hw hQ=>iV (pG hm hres k d) hm hv hr hlo hA hw hQ
  ⟨fun {f args h v h' wr} hv {B lo D m w args'} hr hlo hw hargs=>by
   simp only[uR] at hv
   split at hv
   ·rename_i hf
    subst hf
    split at hv
    ·obtain⟨rfl,rfl,rfl⟩:(res h).1=v∧(res h).2=h'∧none=wr:=by simpa using hv
     obtain rfl:args'=[]:=by have:=hargs.len;simpa using this
     exact hres _ _ _ _ _ _ hr hlo
    ·cases hv
   ·exact eY (pG hm hres k d) hD hv hr hlo hw hargs,fun h=>hE (pG hm hres k d) hD h⟩
def Dl(P:Program)(g:FuncId)(res:List Blk→Value×List Blk)(k d:Nat)(f:FuncId)(args:List Value)(h:List Blk):AOut:=(uR P g res k d).call f args h
theorem Bj{P:Program}(hm:P.follows .mixedOrders=true){g:FuncId}{res:List Blk→Value×List Blk}(hres:Cg P g res){k d:Nat}{f:FuncId}(hv:nX (Dl P g res k d f [] GH)=true):AwT P f:=by
 intro w hgw hgs
 unfold nX at hv
 split at hv
 ·rename_i h' hx
  refine ((pG hm hres k d).call hx (Rel.start w hgw hgs) (b7 _) (fun n h=>by cases h) VRs.nil).mono ?_
  rintro e w' ⟨v',m',rfl,hp,hvr⟩
  cases hvr
  exact⟨rfl,hp.below⟩
 ·cases hv
def Olds(h h':List Blk)(w:Option Nat):Prop:=h.length≤h'.length∧∀ m:Nat,m<h.length→wge w (m+1)=true→h'[m]?=h[m]?
section
variable {P:Program} {C:Ctx}
structure COlds(C:Ctx):Prop where
 call:∀ {f args h v h' w},C.call f args h=some (v,h',w)→Olds h h' w
 round:∀ {l args h v h' w},C.round l args h=some (v,h',w)→Olds h h' w
end
end Go.Rex
namespace Go.Rex
open Go.RowKit
section
variable {C:Ctx} {P:Program} {h0 h h':List Blk} {Fz Fz':Nat→Prop} {L L':Nat→LI} {s s':TS} {tm:List Value}
def stays(args:List TV)(c:Code)(tm:List TV)(n:Nat):Bool:=(List.range args.length).any fun i=>match args[i]?,tm[i]? with
 | some (.lsl m 0 _),some (.lsl m' 0 _)=>m==n&&m'==n&&!(cdsts c).contains i
 | _,_=>false
end
end Go.Rex
namespace Go.Rex
open Go.RowKit
section
variable {C:Ctx} {P:Program} {h0 h h':List Blk} {Fz Fz':Nat→Prop} {L L':Nat→LI} {s s':TS} {tm:List Value} {dst:Option Tmp} {ty:TypeId} {pos:String} {aft:Array Edge} {gd:Option (Nat×Bool)}
variable {ops:Array Oper} {o:Oper} {rest:List Oper} {Q:TS→Prop} {ms:List Nat} {i:Nat} {np:List Nat} {c:Nat} {tv tv2:List TV} {hp hp2:List TB}
end
end Go.Rex
namespace Go.Rex
open Go.RowKit
section
variable {C:Ctx} {P:Program} {s s':TS} {dst:Option Tmp} {ty:TypeId} {pos:String} {aft:Array Edge} {gd:Option (Nat×Bool)}
noncomputable def Ee{α:Type}(a b:List α):List α:=if b.length=a.length then b else a
inductive Pair:List TB→List TB→List TB→Prop
 | nil:Pair [] [] []
 | cons {es:Nat} {α:Type} {f:α→List TV} {a b:List α} {B B' B2:List TB} (h:Pair B B' B2):Pair (.rows es (a.map f)::B) (.rows es (b.map f)::B') (.rows es ((Ee a b).map f)::B2)
variable {ops:Array Oper} {o:Oper} {rest:List Oper} {Q:TS→Prop} {ms:List Nat} {i:Nat} {np:List Nat} {c:Nat} {tv tv2:List TV} {hp hp2:List TB}
end
end Go.Rex
namespace Go.Rex
section
variable {P:Program} {tm:List TV} {hp:List TB} {dst:Option Tmp} {ty:TypeId} {pos:String} {aft:Array Edge} {gd:Option (Nat×Bool)} {x y z:Operand} {tys:List TypeId}
end
end Go.Rex
