/- An executor of the program's functions on trees of values, proved sound. -/
import Derived.Test.YtjhneebncpmneaaGreatDoorRexG8
import Derived.KernelRfl
import Derived.Test.YtjhneebncpmneaaGreatDoorRexG7
set_option linter.unusedSimpArgs false
set_option linter.unusedVariables false
set_option linter.defProp false
namespace Go.Rex
open Go.RowKit
section
variable {C:Ctx} {P:Program} {Fz:Nat→Prop} {h h0:List Blk} {L:Nat→LI} {s:TS} {tm:List Value}
variable {dst:Option Tmp} {ty:TypeId} {pos:String} {aft:Array Edge} {gd:Option (Nat×Bool)}
theorem Gu {g : FuncId} {f : Operand} {args : Array Operand} {tys : Array TypeId} {first caps : List Value} (hf : ev tm f = .func (.func g) ⟨first⟩ ⟨caps⟩) (hg : aV P g = true) :
    xop C P (ev tm) { dst:=dst,op:=.call { callee:=.value f,args:=args,argTypes:=tys },type:=ty,pos:=pos,after:=aft,guard:=gd } h=C.call g (first++(args.toList.map (ev tm)++caps)) h:=by
 simp only[xop,hop,bhop]
 rw[Hr]
 simp only[hf]
 rw[if_pos hg]
theorem zU(hz:FZ Fz h)(hs:VLs Fz h L s.tm tm)(args:List Operand):VLs Fz h L (args.map (tev s.tm)) (args.map (ev tm)):=by
 refine⟨by simp,fun i p x hp hx=>?_⟩
 rw[List.getElem?_map] at hp hx
 cases hq:args[i]? with
 | none=>rw[hq] at hp;cases hp
 | some q =>
  rw[hq] at hp hx
  obtain rfl:=Option.some.inj hp
  obtain rfl:=Option.some.inj hx
  exact fV hz hs q
theorem VLs.toNo{l:List TV}{x:List Value}(hs:VLs Fz h L l x)(hl:l.all (lf 4)=true){L':Nat→LI}:VLs Fz h L' l x :=
 ⟨hs.len,fun i p y hp hy=>VL.toNo 4 (by simpa using List.all_eq_true.1 hl p (List.mem_of_getElem? hp)) (hs.at' i p y hp hy)⟩
theorem OpG.call {f : Operand} {g : FuncId} {args : Array Operand} {tys : Array TypeId} {first caps as : List TV} {p : TV} {th : List TB} (hf : tev s.tm f = .func g first caps) (hg : aV P g = true) (has : first ++ (args.toList.map (tev s.tm) ++ caps) = as)
    (hl:as.all (lf 4)=true) (hsp:Spec C g as ⟨[p],th⟩) (hth:th.all zW=true) :
    OpG C P { dst:=dst,op:=.call { callee:=.value f,args:=args,argTypes:=tys },type:=ty,pos:=pos,after:=aft,guard:=gd } s ⟨tput s.tm dst (shift s.hp.length 4 p),s.hp++th⟩:=by
 intro h0 Fz L tm h hs
 subst has
 have hfv:=fV hs.fz hs.tmr f
 rw[hf] at hfv
 obtain⟨f',c',hfe,vf,vc⟩:∃ f' c',ev tm f = .func (.func g) ⟨f'⟩ ⟨c'⟩∧VLs Fz h noL first f'∧VLs Fz h noL caps c':=by
  generalize ev tm f=y at *
  cases hfv with
  | func _ _ _ _ a' b' la ha lb hb=>exact⟨a',b',rfl,⟨la,ha⟩,⟨lb,hb⟩⟩
 have hargs:VLs Fz h noL (first++(args.toList.map (tev s.tm)++caps)) (f'++(args.toList.map (ev tm)++c')):=by
  refine VLs.append vf (VLs.append (VLs.toNo (zU hs.fz hs.tmr args.toList) ?_) vc)
  simp only[List.all_append,Bool.and_eq_true] at hl
  exact hl.2.1
 obtain⟨v,h',F1,L1,hc,g1,hr⟩:=hsp Fz h _ hs.fz hargs
 obtain⟨L3,h3⟩:=hs.adopt dst hr hth g1
 refine⟨rfl,v,h',by rw[Gu hfe hg];exact hc,hr.ext,F1,L3,⟨g1.1,fun n hn=>?_,g1.3⟩,h3⟩
 rcases g1.2 n hn with h1|h1
 ·exact .inl h1
 ·exact .inr (Nat.le_trans hs.ext.le h1)
def view(hp:List TB):Nat→TV→TV
 | 0,_=>.junk
 | d+1,p=>match p with
  | .lsl n o len=>(match hp[n]? with
   | some (.rows es rows)=>.list es ((rows.drop o).take len)
   | _=>.junk)
  | .lptr n r o=>(match fB hp (.lptr n r o) with
   | some (row,o)=>if row.all (lf 4)=true then .fptr false row o else .junk
   | none=>.junk)
  | .agg l=>.agg (l.map (view hp d))
  | .tuple l=>.tuple (l.map (view hp d))
  | p=>p
def yA(Fz:Nat→Prop)(L:Nat→LI)(s:TS):Nat→Prop:=fun k=>Fz k∨∃ n b,s.hp[n]?=some b∧b.live=true∧(L n).nm=some k
theorem VL.view(hs:St h0 Fz L s tm h):∀(d:Nat) {p:TV} {x:Value},VL Fz h L p x→VL (yA Fz L s) h noL (view s.hp d p) x
 | 0,p,x,hp=>by rw[Rex.view];exact .junk noL x
 | d+1,p,x,hp=>by
  have hF:∀ n,Fz n→yA Fz L s n:=fun n hn=>.inl hn
  have key:∀(l:List TV) (l':List Value),(∀(i:Nat) p x,l[i]?=some p→l'[i]?=some x→VL Fz h L p x)→∀(i:Nat) p x,(l.map (Rex.view s.hp d))[i]?=some p→l'[i]?=some x→VL (yA Fz L s) h noL p x:=by
   intro l l' ha i p x hp hx
   rw[List.getElem?_map] at hp
   cases hq:l[i]? with
   | none=>rw[hq] at hp;cases hp
   | some q=>rw[hq] at hp;obtain rfl:=Option.some.inj hp;exact VL.view hs d (ha i q x hq hx)
  cases hp with
  | junk _ x=>exact .junk noL x
  | v _ x hx=>exact .v noL x hx
  | agg _ l l' hl ha=>exact .agg noL _ l' (by simp[hl]) (key l l' ha)
  | tuple _ l l' hl ha=>exact .tuple noL _ l' (by simp[hl]) (key l l' ha)
  | func _ f a b a' b' la ha lb hb=>exact (VL.func noL f a b a' b' la ha lb hb).mono hF (fun _ _=>rfl)
  | nillist _ es=>exact .nillist noL es
  | vague _ es=>exact .vague noL es
  | list _ es rows n o c cs eb hn hb he hw hc hle ha=>exact (VL.list noL es rows n o c cs eb hn hb he hw hc hle ha).mono hF (fun _ _=>rfl)
  | fptr _ vb row off n base es cs hn hb hv hle ha=>exact (VL.fptr noL vb row off n base es cs hn hb hv hle ha).mono hF (fun _ _=>rfl)
  | lptr _ n r o nm ok hn =>
   simp only[Rex.view]
   split
   ·rename_i row o' hr
    split
    ·rename_i hlf
     have hbl:∃ b,s.hp[n]?=some b∧b.live=true:=by
      simp only[fB] at hr
      split at hr
      ·rename_i hb;exact⟨_,hb,rfl⟩
      ·rename_i hb;exact⟨_,hb,rfl⟩
      ·cases hr
     obtain⟨b,hb,hlv⟩:=hbl
     obtain⟨n',bb,es,cs,he,hcs,hle,hv⟩:=yM hs (VL.lptr (Fz:=Fz) (h:=h) L n r o nm ok hn) hr
     injection he with he
     injection he with he
     injection he with he1 he2
     subst he1
     rw[he2]
     have:=VL.fptr (Fz:=yA Fz L s) (h:=h) noL false row o' nm bb es cs (.inr ⟨n,b,hb,hlv,hn⟩) hcs (fun h=>by cases h) hle (fun j p x h1 h2=>by
      have hjl:=(List.getElem?_eq_some_iff.1 h1).1
      have h3:((cs.drop bb).take row.length)[j]?=some x:=by
       rw[List.getElem?_take,if_pos hjl,List.getElem?_drop];exact h2
      exact (VL.toNo 4 (by simpa using List.all_eq_true.1 hlf p (List.mem_of_getElem? h1)) (hv.at' j p x h1 h3)).mono hF (fun _ _=>rfl))
     exact this
    ·exact .junk noL _
   ·exact .junk noL _
  | lslnil _ n ok hn =>
   simp only[Rex.view]
   split
   ·simp only[List.take_zero];exact .nillist noL _
   ·exact .junk noL _
  | lsl _ n o len nm ok hn hle =>
   simp only[Rex.view]
   split
   ·rename_i es rows hb
    obtain⟨q1,q2,q3,q4,q5⟩:=hs.blk n _ hb
    rcases q5 with q5|⟨nm',cs,e1,e2,e3,e4,e5⟩
    ·rw[q5.1] at hn;cases hn
    ·rw[hn] at e1
     obtain rfl:=Option.some.inj e1
     have hcl:cs.length=rows.length*es:=by rw[e5.len,iC q4]
     have:=VL.part (Fz:=yA Fz L s) (h:=h) (L:=noL) (es:=es) (rows:=rows) (n:=nm) (o:=0) (c:=(L n).tot-o) (cs:=cs) (.inr ⟨n,_,hb,rfl,hn⟩) e4 (.inl rfl) q4 (by omega) (fun j p x h1 h2=>by
      rw[Nat.zero_add] at h2
      exact (e5.at' j p x h1 h2).mono hF (fun _ _=>rfl)) o len (by rw[← q3];exact hle) (by omega)
     rw[Nat.zero_add] at this
     rw[q2]
     exact this
   ·exact .junk noL _
def qM:TB→Bool
 | .rows _ rows=>rows.all fun r=>r.all (cl 4)
 | .var row=>row.all (cl 4)
 | .dead=>true
theorem St.ofCl{L2:Nat→LI}{p:TV}{v:Value}{th:List TB}{Fz':Nat→Prop}{h':List Blk}(hr:St h Fz' L2 ⟨[p],th⟩ [v] h')(hp:cl 4 p=true)(hth:th.all qM=true){F:Nat→Prop}(hF:FZ F h):St h F L2 ⟨[p],th⟩ [v] h':=by
 have hv:VL Fz' h' L2 p v:=hr.tmr.at' 0 p v rfl rfl
 refine⟨VLs.cons (hv.ofCl 4 hp) VLs.nil,fun n b hb=>?_,hr.dom,hr.inj,⟨fun n hn=>Nat.lt_of_lt_of_le (hF n hn) hr.ext.le,fun g hg=>⟨(hF.gl g hg).1,(hr.fz.gl g hg).2⟩⟩,hr.ext⟩
 have hc:=List.all_eq_true.1 hth b (List.mem_of_getElem? hb)
 have hB:=hr.blk n b hb
 cases b with
 | dead=>trivial
 | rows es rows =>
  obtain⟨q1,q2,q3,q4,q5⟩:=hB
  refine⟨q1,q2,q3,q4,?_⟩
  rcases q5 with q5|⟨nm,cs,e1,e2,e3,e4,e5⟩
  ·exact .inl q5
  ·refine .inr ⟨nm,cs,e1,e2,fun hf=>by have:=hF _ hf;omega,e4,e5.len,fun i p x hp hx=>VL.ofCl 4 ?_ (e5.at' i p x hp hx)⟩
   have hm:=List.mem_of_getElem? hp
   simp only[List.mem_flatten] at hm
   obtain⟨r,hr,hpr⟩:=hm
   simp only[qM] at hc
   exact List.all_eq_true.1 (List.all_eq_true.1 hc r hr) p hpr
 | var row =>
  obtain⟨q1,nm,cs,e1,e2,e3,e4,e5⟩:=hB
  refine⟨q1,nm,cs,e1,e2,fun hf=>by have:=hF _ hf;omega,e4,e5.len,fun i p x hp hx=>VL.ofCl 4 ?_ (e5.at' i p x hp hx)⟩
  simp only[qM] at hc
  exact List.all_eq_true.1 hc p (List.mem_of_getElem? hp)
theorem OpG.look {f : Operand} {g : FuncId} {args : Array Operand} {tys : Array TypeId} {first caps as : List TV} {p : TV} {th : List TB} (hf : tev s.tm f = .func g first caps) (hg : aV P g = true) (has : first ++ ((args.toList.map (tev s.tm)).map (view s.hp 4) ++ caps) = as)
    (hsp:Spec C g as ⟨[p],th⟩) (hth:th.all zW=true) (hp:cl 4 p=true) (hcl:th.all qM=true) :
    OpG C P { dst:=dst,op:=.call { callee:=.value f,args:=args,argTypes:=tys },type:=ty,pos:=pos,after:=aft,guard:=gd } s ⟨tput s.tm dst (shift s.hp.length 4 p),s.hp++th⟩:=by
 intro h0 Fz L tm h hs
 subst has
 have hfv:=fV hs.fz hs.tmr f
 rw[hf] at hfv
 have hF:∀ n,Fz n→yA Fz L s n:=fun n hn=>.inl hn
 obtain⟨f',c',hfe,vf,vc⟩:∃ f' c',ev tm f = .func (.func g) ⟨f'⟩ ⟨c'⟩∧VLs Fz h noL first f'∧VLs Fz h noL caps c':=by
  generalize ev tm f=y at *
  cases hfv with
  | func _ _ _ _ a' b' la ha lb hb=>exact⟨a',b',rfl,⟨la,ha⟩,⟨lb,hb⟩⟩
 have hargs:VLs (yA Fz L s) h noL (first++((args.toList.map (tev s.tm)).map (Rex.view s.hp 4)++caps)) (f'++(args.toList.map (ev tm)++c')):=by
  refine VLs.append (vf.mono hF (fun _ _=>rfl)) (VLs.append ?_ (vc.mono hF (fun _ _=>rfl)))
  have ha:=zU hs.fz hs.tmr args.toList
  refine⟨by simp,fun i p x hp hx=>?_⟩
  rw[List.getElem?_map] at hp
  cases hq:(args.toList.map (tev s.tm))[i]? with
  | none=>rw[hq] at hp;cases hp
  | some q=>rw[hq] at hp;obtain rfl:=Option.some.inj hp;exact VL.view hs 4 (ha.at' i q x hq hx)
 have hall:FZ (yA Fz L s) h:=by
  refine hs.fz.to hF (fun _ _=>rfl) ?_
  rintro n (hn|⟨m,b,hb,hlv,hn⟩)
  ·exact hs.fz n hn
  ·exact (hs.lowB m b n hb hlv hn).1
 obtain⟨v,h',F1,L1,hc,g1,hr⟩:=hsp _ h _ hall hargs
 have hr':=hr.ofCl hp hcl hs.fz
 obtain⟨L3,h3⟩:=hs.adopt dst hr' hth (Grow.ext hs.fz hr.ext)
 exact⟨rfl,v,h',by rw[Gu hfe hg];exact hc,hr.ext,Fz,L3,Grow.ext hs.fz hr.ext,h3⟩
def pN(P:Program)(hp:List TB)(tm:List TV):List ResultVar→Option (List TV)
 | []=>some []
 | r::rs=>match tres (tload P hp) tm r with
  | some v=>(pN P hp tm rs).map fun vs=>v::vs
  | none=>none
theorem pZ(hs:St h0 Fz L s tm h):∀(rs:List ResultVar) (ps:List TV),pN P s.hp s.tm rs=some ps→∃ vs,nT P h tm rs=some vs∧VLs Fz h L ps vs
 | [],ps,hp=>by obtain rfl:=Option.some.inj hp;exact⟨[],rfl,VLs.nil⟩
 | r::rs,ps,hp=>by
  simp only[pN] at hp
  split at hp
  ·rename_i p hr
   obtain⟨ps',h1,rfl⟩:=Option.map_eq_some_iff.1 hp
   obtain⟨vs,h2,h3⟩:=pZ hs rs ps' h1
   have:∃ v,Tx P h tm r=some v∧VL Fz h L p v:=by
    cases r with
    | tmp t =>
     simp only[tres] at hr
     obtain rfl:=Option.some.inj hr
     exact⟨_,rfl,fV hs.fz hs.tmr (.tmp t)⟩
    | cell a t =>
     simp only[tres] at hr
     obtain⟨n,o,v,hx,hl,hv⟩:=tA hs (fV hs.fz hs.tmr (.tmp a)) hr
     refine⟨v,?_,hv⟩
     simp only[ev] at hx
     simp only[Tx,hx,hl]
   obtain⟨v,h4,h5⟩:=this
   exact⟨v::vs,by simp only[nT,h4,h2,Option.map_some],VLs.cons h5 h3⟩
  ·cases hp
theorem Spec.fn {f : FuncId} {fd : Func} {c : Code} {args : List TV} {r : TS} (hf : P.funcs[f]? = some fd) (hb : fd.body = some c) {tm0 : List TV} (htm : args ++ List.replicate (fd.ntmps - args.length) TV.junk = tm0)
    (hx:TX (lim P) P c ⟨tm0,[]⟩ (fun e s=>(e = .normal∨e = .ret)∧∃ ps,pN P s.hp s.tm fd.results.toList=some ps∧Wk ⟨[Xz ps],s.hp⟩ r)) (hcov:cov r=true):Spec (lim P) f args r:=by
 intro Fz h vs hfz hargs
 subst htm
 have hs:St h Fz noL ⟨args++List.replicate (fd.ntmps-args.length) TV.junk,[]⟩ (vs++List.replicate (fd.ntmps-vs.length) undef) h:=by
  refine⟨?_,fun n b hb=>by simp at hb,fun n hn=>by simp[noL] at hn,fun n n' b b' nm hb=>by simp at hb,hfz,Ext.refl h⟩
  refine VLs.append hargs ?_
  rw[hargs.len]
  exact VLs.replicate (.junk noL undef) _
 obtain⟨K,e,a1,h1,w1,hexec,hw,hdf,s1,F1,L1,⟨he,ps,hps,hwk⟩,g1,hs1⟩:=hx h Fz noL _ h hs
 obtain⟨vs1,hres,hvs1⟩:=pZ (P:=P) hs1 _ ps hps
 have hs2:St h F1 L1 ⟨[Xz ps],s1.hp⟩ [kL vs1] h1:=⟨VLs.cons (Ut hvs1) VLs.nil,hs1.blk,hs1.dom,hs1.inj,hs1.fz,hs1.ext⟩
 obtain⟨F2,L2,g2,hs3⟩:=hwk h F1 L1 _ h1 hs2
 have hm:wmin w1 none=w1:=by cases w1<;>rfl
 by_cases hcl:cJ (kL vs1)=true
 ·obtain⟨L4,hs4⟩:=hs3.clean hcl hcov hfz
  refine⟨kL vs1,h,Fz,L4,yL (K:=K) ?_,Grow.refl _ _,hs4⟩
  unfold iP
  simp only[hf,hb,hexec]
  have hend:qC P fd h.length h a1 h1 w1=some (kL vs1,h,none):=by
   simp only[qC,hdf,eQ,hres,hcl,if_true,hm,hw]
  rcases he with rfl|rfl<;>exact hend
 ·refine⟨kL vs1,h1,F2,L2,yL (K:=K) ?_,g1.trans g2,hs3⟩
  unfold iP
  simp only[hf,hb,hexec]
  have hend:qC P fd h.length h a1 h1 w1=some (kL vs1,h1,none):=by
   simp[qC,hdf,eQ,hres,hcl,hm,hw]
  rcases he with rfl|rfl<;>exact hend
theorem Spec.ov{f g:FuncId}{args:List TV}{r:TS}(hs:Spec (lim P) g args r)(hne:g≠f):Spec (over P f) g args r:=by
 intro Fz h vs hfz hargs
 obtain⟨v,h',F1,L1,hc,g1,hr⟩:=hs Fz h vs hfz hargs
 refine⟨v,h',F1,L1,?_,g1,hr⟩
 rw[Dd,if_neg (fun hh=>hne hh.1)]
 exact hc
theorem Spec.awake{f:FuncId}:Spec (over P f) f [] ⟨[.v (.bool true)],[]⟩:=by
 intro Fz h vs hfz hargs
 have:vs=[]:=by have:=hargs.len;simpa using this
 subst this
 exact⟨.bool true,h,Fz,noL,by rw[Dd,if_pos ⟨rfl,rfl⟩],Grow.refl _ _,⟨VLs.cons (.v noL _ rfl) VLs.nil,fun n b hb=>by simp at hb,fun n hn=>by simp[noL] at hn,fun n n' b b' nm hb=>by simp at hb,hfz,Ext.refl h⟩⟩
theorem Uu (hm : P.follows .mixedOrders = true) {f : FuncId} (hv : AwT P f) {g : FuncId} {fd : Func} {c : Code} {args : List TV} (hf : P.funcs[g]? = some fd) (hb : fd.body = some c)
    {tm0:List TV} (htm:args++List.replicate (fd.ntmps-args.length) TV.junk=tm0)
    (hx:TX (over P f) P c ⟨tm0,[]⟩ (fun e s=>(e = .normal∨e = .ret)∧pN P s.hp s.tm fd.results.toList=some [.v (.bool true)]))
    {Fz:Nat→Prop} {h:List Blk} {vs:List Value} (hfz:FZ Fz h) (hargs:VLs Fz h noL args vs)
    {B lo:Nat} {D:Nat→Prop} {m:NMap} {w:World} {args':List Value} (hr:Rel B lo D m h w) (hlo:lo≤h.length) (hargs':VRs D m vs args'):Calls P g ⟨args'⟩ w (fun e w'=>e = .returned (.bool true)∧Below w.heap.size w w'):=by
 refine Qu hm hv hf hb (args:=vs) rfl ?_ hr hlo hargs'
 subst htm
 have hs:St h Fz noL ⟨args++List.replicate (fd.ntmps-args.length) TV.junk,[]⟩ (vs++List.replicate (fd.ntmps-vs.length) undef) h:=by
  refine⟨?_,fun n b hb=>by simp at hb,fun n hn=>by simp[noL] at hn,fun n n' b b' nm hb=>by simp at hb,hfz,Ext.refl h⟩
  refine VLs.append hargs ?_
  rw[hargs.len]
  exact VLs.replicate (.junk noL undef) _
 refine (hx h Fz noL _ h hs).mono ?_
 rintro e a' h' ⟨hd,s',F',L',⟨he,hres⟩,g,hs'⟩
 refine⟨he,hd,?_⟩
 obtain⟨vs1,h1,h2⟩:=pZ (P:=P) hs' _ _ hres
 have hl:=h2.len
 match vs1,hl,h1,h2 with
 | [x],_,h1,h2 =>
  have:=h2.at' 0 _ x rfl rfl
  exact⟨[x],h1,by rw[this.bool_inv];rfl⟩
end
end Go.Rex
namespace Go.Rex
open Go.RowKit
section
inductive RN (fl:List (Option Nat)):TV→TV→Prop
 | junk {p:TV}:RN fl p .junk
 | keep {p q:TV} (e:p=q) (h:lf 4 q=true):RN fl p q
 | lsl {n o len j len':Nat} (h:fl[j]?=some (some n)) (e:len=len'):RN fl (.lsl n o len) (.lsl j o len')
 | lptr {n r o j:Nat} (h:fl[j]?=some (some n)):RN fl (.lptr n r o) (.lptr j r o)
 | nil {j:Nat} (h:fl[j]?=some none):RN fl (.v (.slice none 0 0)) (.lsl j 0 0)
 | nl {es:Nat}:RN fl (.v (.slice none 0 0)) (.list es [])
 | agg {l l':List TV} (hl:l'.length=l.length) (h:∀(i:Nat) p q,l[i]?=some p→l'[i]?=some q→RN fl p q):RN fl (.agg l) (.agg l')
 | tuple {l l':List TV} (hl:l'.length=l.length) (h:∀(i:Nat) p q,l[i]?=some p→l'[i]?=some q→RN fl p q):RN fl (.tuple l) (.tuple l')
structure RNs(fl:List (Option Nat))(l l':List TV):Prop where
 len:l'.length=l.length
 at':∀(i:Nat) p q,l[i]?=some p→l'[i]?=some q→RN fl p q
theorem RNs.nil{fl:List (Option Nat)}:RNs fl [] []:=⟨rfl,fun i p q h=>by simp at h⟩
theorem RNs.cons{fl:List (Option Nat)}{p q:TV}{l l':List TV}(h:RN fl p q)(hs:RNs fl l l'):RNs fl (p::l) (q::l'):=by
 refine⟨by simp[hs.len],fun i p q hp hq=>?_⟩
 cases i with
 | zero=>simp at hp hq;subst hp hq;exact h
 | succ i=>simp at hp hq;exact hs.at' i _ _ hp hq
theorem RN.agg'{fl:List (Option Nat)}{l l':List TV}(h:RNs fl l l'):RN fl (.agg l) (.agg l'):=.agg h.len h.at'
variable {Fz:Nat→Prop} {h:List Blk} {L L':Nat→LI}
theorem RN.vl{fl:List (Option Nat)}(hL:∀ j n,fl[j]?=some (some n)→L' j=L n)(hV:∀ j,fl[j]?=some none→(L' j).ok=true∧(L' j).nm=none){p q:TV}(hr:RN fl p q):∀ {x:Value},VL Fz h L p x→VL Fz h L' q x:=by
 induction hr with
 | junk=>intro x _;exact .junk L' x
 | keep e hl=>intro x hp;subst e;exact VL.toNo 4 hl hp
 | lsl hj e =>
  intro x hp
  subst e
  have e:=hL _ _ hj
  cases hp with
  | lslnil _ _ ok hn=>rw[← e] at ok hn;exact .lslnil L' _ ok hn
  | lsl _ _ _ _ nm ok hn hle=>rw[← e] at ok hn hle ⊢;exact .lsl L' _ _ _ nm ok hn hle
 | lptr hj =>
  intro x hp
  have e:=hL _ _ hj
  cases hp with
  | lptr _ _ _ _ nm ok hn=>rw[← e] at ok hn ⊢;exact .lptr L' _ _ _ nm ok hn
 | nil hj =>
  intro x hp
  obtain rfl:=hp.bool_inv
  exact .lslnil L' _ (hV _ hj).1 (hV _ hj).2
 | nl =>
  intro x hp
  obtain rfl:=hp.bool_inv
  exact .nillist L' _
 | @agg l l' hl hh ih =>
  intro x hp
  cases hp with
  | agg _ _ l2 hl2 ha =>
   refine .agg L' l' l2 (by omega) fun i p y h1 h2=>?_
   have hlt:=(List.getElem?_eq_some_iff.1 h1).1
   have h0:l[i]?=some l[i]:=List.getElem?_eq_getElem (by omega)
   exact ih i _ _ h0 h1 (ha i _ _ h0 h2)
 | @tuple l l' hl hh ih =>
  intro x hp
  cases hp with
  | tuple _ _ l2 hl2 ha =>
   refine .tuple L' l' l2 (by omega) fun i p y h1 h2=>?_
   have hlt:=(List.getElem?_eq_some_iff.1 h1).1
   have h0:l[i]?=some l[i]:=List.getElem?_eq_getElem (by omega)
   exact ih i _ _ h0 h1 (ha i _ _ h0 h2)
def yJ:List (Option Nat)→Bool
 | []=>true
 | none::l=>yJ l
 | some n::l=>l.all (fun x=>x != some n)&&yJ l
theorem xG:∀ {fl:List (Option Nat)},yJ fl=true→∀(i j n:Nat),fl[i]?=some (some n)→fl[j]?=some (some n)→i=j
 | [],_,i,j,n,h,_=>by simp at h
 | none::l,hr,i,j,n,h1,h2=>by
  cases i with
  | zero=>simp at h1
  | succ i=>cases j with
   | zero=>simp at h2
   | succ j=>rw[xG (fl:=l) (by simpa [yJ] using hr) i j n (by simpa using h1) (by simpa using h2)]
 | some m::l,hr,i,j,n,h1,h2=>by
  simp only[yJ,Bool.and_eq_true] at hr
  have hne:∀ k,l[k]?≠some (some m):=fun k hk=>by
   have:=List.all_eq_true.1 hr.1 _ (List.mem_of_getElem? hk)
   simp at this
  cases i with
  | zero=>cases j with
   | zero=>rfl
   | succ j=>simp at h1;subst h1;exact absurd (by simpa using h2) (hne j)
  | succ i=>cases j with
   | zero=>simp at h2;subst h2;exact absurd (by simpa using h1) (hne i)
   | succ j=>rw[xG (fl:=l) hr.2 i j n (by simpa using h1) (by simpa using h2)]
inductive RB (fl:List (Option Nat)) (hp:List TB):List TB→List (Option Nat)→Prop
 | nil:RB fl hp [] []
 | virt {es:Nat} {hp':List TB} {l:List (Option Nat)} (h:RB fl hp hp' l):RB fl hp (.rows es []::hp') (none::l)
 | rows {n es:Nat} {rows rows':List (List TV)} {hp':List TB} {l:List (Option Nat)} (h:RB fl hp hp' l) (hb:hp[n]?=some (.rows es rows)) (e:rows=rows'):RB fl hp (.rows es rows'::hp') (some n::l)
 | var {n:Nat} {row row':List TV} {hp':List TB} {l:List (Option Nat)} (h:RB fl hp hp' l) (hb:hp[n]?=some (.var row)) (hr:RNs fl row row'):RB fl hp (.var row'::hp') (some n::l)
theorem RB.at{fl:List (Option Nat)}{hp hp':List TB}{l:List (Option Nat)}(hb:RB fl hp hp' l):hp'.length=l.length∧∀(j:Nat) (b:TB),hp'[j]?=some b→(l[j]?=some none∧∃ es,b = .rows es [])∨∃ n,l[j]?=some (some n)∧((∃ es rows,b = .rows es rows∧hp[n]?=some b)∨∃ row row',b = .var row'∧hp[n]?=some (.var row)∧RNs fl row row'):=by
 induction hb with
 | nil=>exact⟨rfl,fun j b h=>by simp at h⟩
 | virt h ih =>
  refine⟨by simp[ih.1],fun j b hj=>?_⟩
  cases j with
  | zero=>simp at hj;subst hj;exact .inl ⟨rfl,_,rfl⟩
  | succ j=>exact ih.2 j b (by simpa using hj)
 | rows h hb e ih =>
  subst e
  refine⟨by simp[ih.1],fun j b hj=>?_⟩
  cases j with
  | zero=>simp at hj;subst hj;exact .inr ⟨_,rfl,.inl ⟨_,_,rfl,hb⟩⟩
  | succ j=>exact ih.2 j b (by simpa using hj)
 | var h hb hr ih =>
  refine⟨by simp[ih.1],fun j b hj=>?_⟩
  cases j with
  | zero=>simp at hj;subst hj;exact .inr ⟨_,rfl,.inr ⟨_,_,rfl,hb,hr⟩⟩
  | succ j=>exact ih.2 j b (by simpa using hj)
theorem Wk.ren{tm tm':List TV}{hp hp':List TB}(fl:List (Option Nat))(hok:yJ fl=true)(hB:RB fl hp hp' fl)(hT:RNs fl tm tm'):Wk ⟨tm,hp⟩ ⟨tm',hp'⟩:=by
 intro h0 Fz L vm h hs
 obtain⟨hlen,hat⟩:=hB.at
 have esOf':∀ j:Nat,∃ es:Nat,fl[j]?=some none→hp'[j]?=some (TB.rows es []):=by
  intro j
  cases hb:hp'[j]? with
  | none =>
   refine⟨0,fun hf=>?_⟩
   have h1:=(List.getElem?_eq_some_iff.1 hf).1
   rw[List.getElem?_eq_none_iff] at hb
   omega
  | some b =>
   rcases hat j b hb with⟨_,es,rfl⟩|⟨n,h1,_⟩
   ·exact⟨es,fun _=>rfl⟩
   ·exact⟨0,fun hf=>by rw[h1] at hf;cases hf⟩
 let es:Nat→Nat:=fun j=>Classical.choose (esOf' j)
 have hes:∀ j:Nat,fl[j]?=some none→hp'[j]?=some (TB.rows (es j) []):=fun j=>Classical.choose_spec (esOf' j)
 let L':Nat→LI:=fun j=>match fl[j]? with
  | some (some n)=>L n
  | some none=>⟨true,none,es j,0⟩
  | none=>⟨false,none,0,0⟩
 have hL:∀ j n:Nat,fl[j]?=some (some n)→L' j=L n:=fun j n hj=>by simp only[L',hj]
 have hV':∀ j:Nat,fl[j]?=some none→L' j=⟨true,none,es j,0⟩:=fun j hj=>by simp only[L',hj]
 have hV:∀ j:Nat,fl[j]?=some none→(L' j).ok=true∧(L' j).nm=none:=fun j hj=>by rw[hV' j hj];exact⟨rfl,rfl⟩
 have hN:∀ j:Nat,fl[j]?=none→(L' j).ok=false:=fun j hj=>by simp only[L',hj]
 clear_value L'
 have hmap:∀(l l':List TV) (x:List Value),RNs fl l l'→VLs Fz h L l x→VLs Fz h L' l' x:=by
  intro l l' x hr hx
  refine⟨by have:=hr.len;have:=hx.len;omega,fun i q y hq hy=>?_⟩
  have hlt:=(List.getElem?_eq_some_iff.1 hq).1
  have hll:=hr.len
  have h0:l[i]?=some l[i]:=List.getElem?_eq_getElem (by omega)
  exact (hr.at' i _ _ h0 hq).vl hL hV (hx.at' i _ _ h0 hy)
 refine⟨Fz,L',Grow.refl _ _,⟨hmap _ _ _ hT hs.tmr,?_,?_,?_,hs.fz,hs.ext⟩⟩
 ·intro j b hb
  rcases hat j b hb with⟨hj,es',rfl⟩|⟨n,hj,h1⟩
  ·have:=hes j hj
   rw[hb] at this
   injection this with this
   injection this with this _
   refine⟨(hV j hj).1,by rw[hV' j hj];exact this.symm,by rw[hV' j hj];rfl,by simp,.inl ⟨(hV j hj).2,rfl⟩⟩
  ·rcases h1 with⟨es',rows,rfl,hn⟩|⟨row,row',rfl,hn,hr⟩
   ·have:=hs.blk n _ hn
    unfold BR at this ⊢
    rw[hL j n hj]
    exact this
   ·obtain⟨q1,nm,cs,e1,e2,e3,e4,e5⟩:=hs.blk n _ hn
    unfold BR
    rw[hL j n hj]
    exact⟨q1,nm,cs,e1,e2,e3,e4,hmap _ _ _ hr e5⟩
 ·intro j hj
  show j<hp'.length
  rcases Nat.lt_or_ge j fl.length with hlt|hge
  ·omega
  ·rw[hN j (List.getElem?_eq_none_iff.2 hge)] at hj;cases hj
 ·intro j j' b b' nm hb hb' l1 l2 e1 e2
  have f:∀(j:Nat) (b:TB),hp'[j]?=some b→b.live=true→(L' j).nm=some nm→∃(n:Nat) (b0:TB),fl[j]?=some (some n)∧hp[n]?=some b0∧b0.live=true∧(L n).nm=some nm:=by
   intro j b hb hl he
   rcases hat j b hb with⟨hj,es',rfl⟩|⟨n,hj,h1⟩
   ·rw[(hV j hj).2] at he;cases he
   ·rw[hL j n hj] at he
    rcases h1 with⟨es',rows,rfl,hn⟩|⟨row,row',rfl,hn,hr⟩
    ·exact⟨n,_,hj,hn,rfl,he⟩
    ·exact⟨n,_,hj,hn,rfl,he⟩
  obtain⟨n,b0,g1,g2,g3,g4⟩:=f j b hb l1 e1
  obtain⟨n',b0',k1,k2,k3,k4⟩:=f j' b' hb' l2 e2
  obtain rfl:=hs.inj n n' b0 b0' nm g2 k2 g3 k3 g4 k4
  exact xG hok j j' n g1 k1
end
section
variable {C:Ctx} {P:Program} {ops:Array Oper} {rest:List Oper} {tm tm2:List TV} {hp hp2:List TB} {Q:TS→Prop} {o:Oper}
variable {dst:Option Tmp} {ty:TypeId} {pos:String} {aft:Array Edge} {gd:Option (Nat×Bool)}
def fR{α:Type}(xs:List α)(i:Int):Option α:=if 0≤i then xs[i.toNat]? else none
def mkI{α:Type}(bytes:Nat)(n:Int)(z:α):Option (List α):=if 0≤n∧n<2^63∧(bytes:Int)*n≤2^48 then some (List.replicate n.toNat z) else none
def Fi{α:Type}(bytes:Nat)(xs ys:List α):Option (List α):=if xs.length+ys.length≤2^40∧(xs.length+ys.length)*bytes≤140737488355328 then some (xs++ys) else none
theorem mZ{α:Type}{xs:List α}{i:Int}{x:α}(h:fR xs i=some x):0≤i∧i<xs.length:=by
 unfold fR at h
 split at h
 ·have:=(List.getElem?_eq_some_iff.1 h).1;omega
 ·cases h
theorem pQ{α:Type}{xs:List α}{i:Int}{x:α}(h:fR xs i=some x):xs[i.toNat]?=some x:=by
 unfold fR at h
 split at h
 ·exact h
 ·cases h
theorem qF{α:Type}{xs:List α}{f:α→List TV}{i:Int}{x:α}(h:fR xs i=some x):tidx (xs.map f) i=some (f x):=by
 unfold tidx
 rw[if_pos (mZ h).1,List.getElem?_map,pQ h]
 rfl
theorem TO.pop1{p:TV}(hw:twant ops tm o=some true)(hv:tpop P hp tm o=some p)(ht:tput tm o.dst p=tm2)(hq:TO C P ops rest ⟨tm2,hp⟩ Q):TO C P ops (o::rest) ⟨tm,hp⟩ Q:=by
 subst ht;exact TO.p hw (OpP.of hv) hq
theorem TO.skip1(hw:twant ops tm o=some false)(ht:tput tm o.dst (.tuple [])=tm2)(hq:TO C P ops rest ⟨tm2,hp⟩ Q):TO C P ops (o::rest) ⟨tm,hp⟩ Q:=by
 subst ht;exact TO.skip hw hq
variable {ms:List Nat} {i:Nat} {np:List Nat} {c:Nat}
theorem TD.pop1{p:TV}(hw:twant ops tm o=some true)(hv:tpop P hp tm o=some p)(ht:tput tm o.dst p=tm2)(hq:TD C P ops ms rest (i+1) np c ⟨tm2,hp⟩ Q):TD C P ops ms (o::rest) i np c ⟨tm,hp⟩ Q:=by
 subst ht;exact TD.p hw (OpP.of hv) hq
theorem TD.skip1(hw:twant ops tm o=some false)(ht:tput tm o.dst (.tuple [])=tm2)(hq:TD C P ops ms rest (i+1) np c ⟨tm2,hp⟩ Q):TD C P ops ms (o::rest) i np c ⟨tm,hp⟩ Q:=by
 subst ht;exact TD.skip hw hq
theorem TX.loopE {σ ε : Type} {b : Code} {step : σ → Option (σ ⊕ ε)} {x : σ} {e : ε} {Q : Exit → TS → Prop} (hr : run step x = some e) (I : σ → TS) (J : ε → Exit × TS)
    (hB:∀ x y,step x=some y→TX C P b (I x) (fun ex st=>match y with|.inl x'=>ex = .normal∧Wk st (I x')|.inr e=>ex=(J e).1∧Wk st (J e).2)) (hne:∀ e,(J e).1 ≠ .normal) (hq:Q (J e).1 (J e).2) {s:TS} (hw:Wk s (I x)):TX C P (.loop b) s Q:=by
 refine TX.weak hw (TX.post ((TX.loop hr I (fun e ex st=>ex=(J e).1∧Wk st (J e).2) (fun x x' h=>hB x _ h) (fun x e h=>?_)).mono ?_))
 ·exact (hB x _ h).mono fun ex st hh=>⟨by rw[hh.1];exact hne e,hh⟩
 ·rintro ex st ⟨rfl,hh⟩
  exact⟨_,hh,hq⟩
end
end Go.Rex
namespace Go.Rex
open Go.RowKit
section
variable {C:Ctx} {P:Program} {ops:Array Oper} {rest:List Oper} {tm tm2:List TV} {hp hp2:List TB} {Q:TS→Prop} {o:Oper}
variable {dst:Option Tmp} {ty:TypeId} {pos:String} {aft:Array Edge} {gd:Option (Nat×Bool)} {p q:TV} {ms:List Nat} {i:Nat} {np:List Nat} {c:Nat}
theorem TO.mv{x:Operand}(hw:twant ops tm { dst:=dst,op:=.move x,type:=ty,pos:=pos,after:=aft,guard:=gd }=some true)(hv:tev tm x=p)(ht:tput tm dst p=tm2)(hq:TO C P ops rest ⟨tm2,hp⟩ Q):TO C P ops ({ dst:=dst,op:=.move x,type:=ty,pos:=pos,after:=aft,guard:=gd }::rest) ⟨tm,hp⟩ Q :=
 TO.pop1 hw (by subst hv;rfl) ht hq
theorem TD.mv{x:Operand}(hw:twant ops tm { dst:=dst,op:=.move x,type:=ty,pos:=pos,after:=aft,guard:=gd }=some true)(hv:tev tm x=p)(ht:tput tm dst p=tm2)(hq:TD C P ops ms rest (i+1) np c ⟨tm2,hp⟩ Q):TD C P ops ms ({ dst:=dst,op:=.move x,type:=ty,pos:=pos,after:=aft,guard:=gd }::rest) i np c ⟨tm,hp⟩ Q :=
 TD.pop1 hw (by subst hv;rfl) ht hq
theorem TO.asg{x:Operand}(hw:twant ops tm { dst:=dst,op:=.assign x,type:=ty,pos:=pos,after:=aft,guard:=gd }=some true)(hv:tev tm x=p)(ht:tput tm dst p=tm2)(hq:TO C P ops rest ⟨tm2,hp⟩ Q):TO C P ops ({ dst:=dst,op:=.assign x,type:=ty,pos:=pos,after:=aft,guard:=gd }::rest) ⟨tm,hp⟩ Q :=
 TO.pop1 hw (by subst hv;rfl) ht hq
theorem TD.asg{x:Operand}(hw:twant ops tm { dst:=dst,op:=.assign x,type:=ty,pos:=pos,after:=aft,guard:=gd }=some true)(hv:tev tm x=p)(ht:tput tm dst p=tm2)(hq:TD C P ops ms rest (i+1) np c ⟨tm2,hp⟩ Q):TD C P ops ms ({ dst:=dst,op:=.assign x,type:=ty,pos:=pos,after:=aft,guard:=gd }::rest) i np c ⟨tm,hp⟩ Q :=
 TD.pop1 hw (by subst hv;rfl) ht hq
theorem TO.bin{b:BinOp}{t u:TypeId}{x y:Operand}{a d r:Value}(hw:twant ops tm { dst:=dst,op:=.binOp b t x y u,type:=ty,pos:=pos,after:=aft,guard:=gd }=some true)(hx:tev tm x = .v a)(hy:tev tm y = .v d)(hv:dC b a d=some r)(ht:tput tm dst (.v r)=tm2)(hq:TO C P ops rest ⟨tm2,hp⟩ Q):TO C P ops ({ dst:=dst,op:=.binOp b t x y u,type:=ty,pos:=pos,after:=aft,guard:=gd }::rest) ⟨tm,hp⟩ Q :=
 TO.pop1 hw (by simp only[tpop,hx,hy,tbin,hv,Option.map_some,orT]) ht hq
theorem TD.bin{b:BinOp}{t u:TypeId}{x y:Operand}{a d r:Value}(hw:twant ops tm { dst:=dst,op:=.binOp b t x y u,type:=ty,pos:=pos,after:=aft,guard:=gd }=some true)(hx:tev tm x = .v a)(hy:tev tm y = .v d)(hv:dC b a d=some r)(ht:tput tm dst (.v r)=tm2)(hq:TD C P ops ms rest (i+1) np c ⟨tm2,hp⟩ Q):TD C P ops ms ({ dst:=dst,op:=.binOp b t x y u,type:=ty,pos:=pos,after:=aft,guard:=gd }::rest) i np c ⟨tm,hp⟩ Q :=
 TD.pop1 hw (by simp only[tpop,hx,hy,tbin,hv,Option.map_some,orT]) ht hq
theorem TO.ext{x:Operand}{n:Nat}{l:List TV}(hw:twant ops tm { dst:=dst,op:=.extract x n,type:=ty,pos:=pos,after:=aft,guard:=gd }=some true)(hx:tev tm x = .tuple l)(hv:l[n]?=some p)(ht:tput tm dst p=tm2)(hq:TO C P ops rest ⟨tm2,hp⟩ Q):TO C P ops ({ dst:=dst,op:=.extract x n,type:=ty,pos:=pos,after:=aft,guard:=gd }::rest) ⟨tm,hp⟩ Q :=
 TO.pop1 hw (by simp only[tpop,hx,hv]) ht hq
theorem TD.ext{x:Operand}{n:Nat}{l:List TV}(hw:twant ops tm { dst:=dst,op:=.extract x n,type:=ty,pos:=pos,after:=aft,guard:=gd }=some true)(hx:tev tm x = .tuple l)(hv:l[n]?=some p)(ht:tput tm dst p=tm2)(hq:TD C P ops ms rest (i+1) np c ⟨tm2,hp⟩ Q):TD C P ops ms ({ dst:=dst,op:=.extract x n,type:=ty,pos:=pos,after:=aft,guard:=gd }::rest) i np c ⟨tm,hp⟩ Q :=
 TD.pop1 hw (by simp only[tpop,hx,hv]) ht hq
theorem TO.fa{t:TypeId}{x:Operand}{f:Nat}(hw:twant ops tm { dst:=dst,op:=.fieldAddr t x f,type:=ty,pos:=pos,after:=aft,guard:=gd }=some true)(hx:tev tm x=q)(hv:bB P t q f=some p)(ht:tput tm dst p=tm2)(hq:TO C P ops rest ⟨tm2,hp⟩ Q):TO C P ops ({ dst:=dst,op:=.fieldAddr t x f,type:=ty,pos:=pos,after:=aft,guard:=gd }::rest) ⟨tm,hp⟩ Q :=
 TO.pop1 hw (by simp only[tpop,hx,hv]) ht hq
theorem TD.fa{t:TypeId}{x:Operand}{f:Nat}(hw:twant ops tm { dst:=dst,op:=.fieldAddr t x f,type:=ty,pos:=pos,after:=aft,guard:=gd }=some true)(hx:tev tm x=q)(hv:bB P t q f=some p)(ht:tput tm dst p=tm2)(hq:TD C P ops ms rest (i+1) np c ⟨tm2,hp⟩ Q):TD C P ops ms ({ dst:=dst,op:=.fieldAddr t x f,type:=ty,pos:=pos,after:=aft,guard:=gd }::rest) i np c ⟨tm,hp⟩ Q :=
 TD.pop1 hw (by simp only[tpop,hx,hv]) ht hq
theorem TO.ia{t:TypeId}{x y:Operand}{q2:TV}(hw:twant ops tm { dst:=dst,op:=.indexAddr t x y,type:=ty,pos:=pos,after:=aft,guard:=gd }=some true)(hx:tev tm x=q)(hy:tev tm y=q2)(hv:bP P hp t q q2=some p)(ht:tput tm dst p=tm2)(hq:TO C P ops rest ⟨tm2,hp⟩ Q):TO C P ops ({ dst:=dst,op:=.indexAddr t x y,type:=ty,pos:=pos,after:=aft,guard:=gd }::rest) ⟨tm,hp⟩ Q :=
 TO.pop1 hw (by simp only[tpop,hx,hy,hv]) ht hq
theorem TD.ia{t:TypeId}{x y:Operand}{q2:TV}(hw:twant ops tm { dst:=dst,op:=.indexAddr t x y,type:=ty,pos:=pos,after:=aft,guard:=gd }=some true)(hx:tev tm x=q)(hy:tev tm y=q2)(hv:bP P hp t q q2=some p)(ht:tput tm dst p=tm2)(hq:TD C P ops ms rest (i+1) np c ⟨tm2,hp⟩ Q):TD C P ops ms ({ dst:=dst,op:=.indexAddr t x y,type:=ty,pos:=pos,after:=aft,guard:=gd }::rest) i np c ⟨tm,hp⟩ Q :=
 TD.pop1 hw (by simp only[tpop,hx,hy,hv]) ht hq
theorem TO.fld{t:TypeId}{x:Operand}{f:Nat}(hw:twant ops tm { dst:=dst,op:=.field t x f,type:=ty,pos:=pos,after:=aft,guard:=gd }=some true)(hx:tev tm x=q)(hv:tfield P t q f=some p)(ht:tput tm dst p=tm2)(hq:TO C P ops rest ⟨tm2,hp⟩ Q):TO C P ops ({ dst:=dst,op:=.field t x f,type:=ty,pos:=pos,after:=aft,guard:=gd }::rest) ⟨tm,hp⟩ Q :=
 TO.pop1 hw (by simp only[tpop,hx,hv]) ht hq
theorem TD.fld{t:TypeId}{x:Operand}{f:Nat}(hw:twant ops tm { dst:=dst,op:=.field t x f,type:=ty,pos:=pos,after:=aft,guard:=gd }=some true)(hx:tev tm x=q)(hv:tfield P t q f=some p)(ht:tput tm dst p=tm2)(hq:TD C P ops ms rest (i+1) np c ⟨tm2,hp⟩ Q):TD C P ops ms ({ dst:=dst,op:=.field t x f,type:=ty,pos:=pos,after:=aft,guard:=gd }::rest) i np c ⟨tm,hp⟩ Q :=
 TD.pop1 hw (by simp only[tpop,hx,hv]) ht hq
theorem TO.pk{x y z:Operand}(hw:twant ops tm { dst:=dst,op:=.pick x y z,type:=ty,pos:=pos,after:=aft,guard:=gd }=some true)(hv:tpick (tev tm x) (tev tm y) (tev tm z)=some p)(ht:tput tm dst p=tm2)(hq:TO C P ops rest ⟨tm2,hp⟩ Q):TO C P ops ({ dst:=dst,op:=.pick x y z,type:=ty,pos:=pos,after:=aft,guard:=gd }::rest) ⟨tm,hp⟩ Q :=
 TO.pop1 hw (by simp only[tpop,hv]) ht hq
theorem TD.pk{x y z:Operand}(hw:twant ops tm { dst:=dst,op:=.pick x y z,type:=ty,pos:=pos,after:=aft,guard:=gd }=some true)(hv:tpick (tev tm x) (tev tm y) (tev tm z)=some p)(ht:tput tm dst p=tm2)(hq:TD C P ops ms rest (i+1) np c ⟨tm2,hp⟩ Q):TD C P ops ms ({ dst:=dst,op:=.pick x y z,type:=ty,pos:=pos,after:=aft,guard:=gd }::rest) i np c ⟨tm,hp⟩ Q :=
 TD.pop1 hw (by simp only[tpop,hv]) ht hq
theorem TO.len{x:Operand}{t:TypeId}{ts:List TypeId}(hw:twant ops tm { dst:=dst,op:=.call { callee:=.builtin .len,args:=#[x],argTypes:=⟨t::ts⟩ },type:=ty,pos:=pos,after:=aft,guard:=gd }=some true)(hx:tev tm x=q)(hv:tlen P (some t) q=some p)(ht:tput tm dst p=tm2)(hq:TO C P ops rest ⟨tm2,hp⟩ Q):TO C P ops ({ dst:=dst,op:=.call { callee:=.builtin .len,args:=#[x],argTypes:=⟨t::ts⟩ },type:=ty,pos:=pos,after:=aft,guard:=gd }::rest) ⟨tm,hp⟩ Q :=
 TO.pop1 hw (by simp only[tpop,if_true,hx,List.getElem?_toArray,List.getElem?_cons_zero,hv,orT]) ht hq
theorem TD.len{x:Operand}{t:TypeId}{ts:List TypeId}(hw:twant ops tm { dst:=dst,op:=.call { callee:=.builtin .len,args:=#[x],argTypes:=⟨t::ts⟩ },type:=ty,pos:=pos,after:=aft,guard:=gd }=some true)(hx:tev tm x=q)(hv:tlen P (some t) q=some p)(ht:tput tm dst p=tm2)(hq:TD C P ops ms rest (i+1) np c ⟨tm2,hp⟩ Q):TD C P ops ms ({ dst:=dst,op:=.call { callee:=.builtin .len,args:=#[x],argTypes:=⟨t::ts⟩ },type:=ty,pos:=pos,after:=aft,guard:=gd }::rest) i np c ⟨tm,hp⟩ Q :=
 TD.pop1 hw (by simp only[tpop,if_true,hx,List.getElem?_toArray,List.getElem?_cons_zero,hv,orT]) ht hq
theorem TO.bld{t:TypeId}{ps:Array (Nat×Operand)}{l:List (Nat×TV)}(hw:twant ops tm { dst:=dst,op:=.build t ps,type:=ty,pos:=pos,after:=aft,guard:=gd }=some true)(hx:ps.toList.map (fun q=>(q.1,tev tm q.2))=l)(hv:tbuild P t l=some p)(ht:tput tm dst p=tm2)(hq:TO C P ops rest ⟨tm2,hp⟩ Q):TO C P ops ({ dst:=dst,op:=.build t ps,type:=ty,pos:=pos,after:=aft,guard:=gd }::rest) ⟨tm,hp⟩ Q :=
 TO.pop1 hw (by simp only[tpop,hx,hv]) ht hq
theorem TD.bld{t:TypeId}{ps:Array (Nat×Operand)}{l:List (Nat×TV)}(hw:twant ops tm { dst:=dst,op:=.build t ps,type:=ty,pos:=pos,after:=aft,guard:=gd }=some true)(hx:ps.toList.map (fun q=>(q.1,tev tm q.2))=l)(hv:tbuild P t l=some p)(ht:tput tm dst p=tm2)(hq:TD C P ops ms rest (i+1) np c ⟨tm2,hp⟩ Q):TD C P ops ms ({ dst:=dst,op:=.build t ps,type:=ty,pos:=pos,after:=aft,guard:=gd }::rest) i np c ⟨tm,hp⟩ Q :=
 TD.pop1 hw (by simp only[tpop,hx,hv]) ht hq
theorem TO.mf{f:FuncId}{a b:Array Operand}{l1 l2:List TV}(hw:twant ops tm { dst:=dst,op:=.makeFunc (.func f) a b,type:=ty,pos:=pos,after:=aft,guard:=gd }=some true)(hx:a.toList.map (tev tm)=l1)(hy:b.toList.map (tev tm)=l2)(hv:(l1.all (lf 4)&&l2.all (lf 4))=true)(ht:tput tm dst (.func f l1 l2)=tm2)(hq:TO C P ops rest ⟨tm2,hp⟩ Q):TO C P ops ({ dst:=dst,op:=.makeFunc (.func f) a b,type:=ty,pos:=pos,after:=aft,guard:=gd }::rest) ⟨tm,hp⟩ Q :=
 TO.pop1 hw (by subst hx hy;simp only[tpop];rw[if_pos];simpa only[List.all_map,Function.comp_def] using hv) ht hq
theorem TO.ld{t:TypeId}{a:Operand}(hw:twant ops tm { dst:=dst,op:=.load t a,type:=ty,pos:=pos,after:=aft,guard:=gd }=some true)(hx:tev tm a=p)(hv:tload P hp t p=some q)(ht:tput tm dst q=tm2)(hh2:hp=hp2)(hq:TO C P ops rest ⟨tm2,hp2⟩ Q):TO C P ops ({ dst:=dst,op:=.load t a,type:=ty,pos:=pos,after:=aft,guard:=gd }::rest) ⟨tm,hp⟩ Q:=by
 subst ht hh2
 exact TO.g hw (OpG.load (by rw[show tev (TS.mk tm hp).tm a=p from hx];exact hv)) hq
theorem TD.ld{t:TypeId}{a:Operand}(hw:twant ops tm { dst:=dst,op:=.load t a,type:=ty,pos:=pos,after:=aft,guard:=gd }=some true)(hx:tev tm a=p)(hv:tload P hp t p=some q)(ht:tput tm dst q=tm2)(hh2:hp=hp2)(hq:TD C P ops ms rest (i+1) (i::np) 0 ⟨tm2,hp2⟩ Q):TD C P ops ms ({ dst:=dst,op:=.load t a,type:=ty,pos:=pos,after:=aft,guard:=gd }::rest) i np 0 ⟨tm,hp⟩ Q:=by
 subst ht hh2
 exact TD.g hw (OpG.load (by rw[show tev (TS.mk tm hp).tm a=p from hx];exact hv)) hq
theorem TD.ldF{t:TypeId}{a:Operand}{idx:Nat}(hnf:kP ops=true)(hw:twant ops tm { dst:=dst,op:=.load t a,type:=ty,pos:=pos,after:=aft,guard:=gd }=some true)(hx:tev tm a=p)(hv:tload P hp t p=some q)(hap:apart hp idx p=true)(ht:tput tm dst q=tm2)(hh2:hp=hp2)(hq:TD C P ops ms rest (i+1) (i::np) (idx+2) ⟨tm2,hp2⟩ Q):TD C P ops ms ({ dst:=dst,op:=.load t a,type:=ty,pos:=pos,after:=aft,guard:=gd }::rest) i np (idx+2) ⟨tm,hp⟩ Q:=by
 subst ht hh2
 exact TD.ldF0 (s:=⟨tm,hp⟩) hnf hw (by rw[show tev (TS.mk tm hp).tm a=p from hx];exact hap) (OpL.load (s:=⟨tm,hp⟩) (by rw[show tev (TS.mk tm hp).tm a=p from hx];exact hv)) hq
theorem TO.al{e:TypeId}{z:List Value}{zt:List TV}(hw:twant ops tm { dst:=dst,op:=.alloc e,type:=ty,pos:=pos,after:=aft,guard:=gd }=some true)(hv:gU P e=some z)(hz:z.map TV.v=zt)(ht:tput tm dst (.lptr hp.length 0 0)=tm2)(hh2:(hp++[.var zt])=hp2)(hq:TO C P ops rest ⟨tm2,hp2⟩ Q):TO C P ops ({ dst:=dst,op:=.alloc e,type:=ty,pos:=pos,after:=aft,guard:=gd }::rest) ⟨tm,hp⟩ Q:=by
 subst ht hh2
 exact TO.g hw (by subst hz;exact OpG.alloc hv) hq
theorem TD.al{e:TypeId}{z:List Value}{zt:List TV}(hw:twant ops tm { dst:=dst,op:=.alloc e,type:=ty,pos:=pos,after:=aft,guard:=gd }=some true)(hv:gU P e=some z)(hz:z.map TV.v=zt)(ht:tput tm dst (.lptr hp.length 0 0)=tm2)(hh2:(hp++[.var zt])=hp2)(hq:TD C P ops ms rest (i+1) (i::np) 0 ⟨tm2,hp2⟩ Q):TD C P ops ms ({ dst:=dst,op:=.alloc e,type:=ty,pos:=pos,after:=aft,guard:=gd }::rest) i np 0 ⟨tm,hp⟩ Q:=by
 subst ht hh2
 exact TD.g hw (by subst hz;exact OpG.alloc hv) hq
theorem TO.bx{e:TypeId}{x:Operand}{l:List TV}(hw:twant ops tm { dst:=dst,op:=.box e x,type:=ty,pos:=pos,after:=aft,guard:=gd }=some true)(hx:tev tm x=p)(hj:iJ p=false)(hl:tcells p=l)(ht:tput tm dst (.lptr hp.length 0 0)=tm2)(hh2:(hp++[.var l])=hp2)(hq:TO C P ops rest ⟨tm2,hp2⟩ Q):TO C P ops ({ dst:=dst,op:=.box e x,type:=ty,pos:=pos,after:=aft,guard:=gd }::rest) ⟨tm,hp⟩ Q:=by
 subst ht hh2
 exact TO.g hw (by subst hl;exact OpG.box hx hj) hq
theorem TO.bf{e:TypeId}{x:Operand}{l:List TV}(hw:twant ops tm { dst:=dst,op:=.box e x,type:=ty,pos:=pos,after:=aft,guard:=gd }=some true)(hx:tev tm x=p)(hj:iJ p=false)(hl:tcells p=l)(hlf:l.all (lf 4)=true)(ht:tput tm dst (.fptr true l 0)=tm2)(hh2:hp=hp2)(hq:TO C P ops rest ⟨tm2,hp2⟩ Q):TO C P ops ({ dst:=dst,op:=.box e x,type:=ty,pos:=pos,after:=aft,guard:=gd }::rest) ⟨tm,hp⟩ Q:=by
 subst ht hh2
 exact TO.g hw (by subst hl;exact OpG.boxF hx hj hlf) hq
theorem Pl{n j:Nat}{b b':TB}(hj:((hp.map (pH n)).set n b)[j]?=some b')(hl:b'.live=true)(hne:j≠n):∃ b,hp[j]?=some b∧b.live=true:=by
 rw[List.getElem?_set_ne (Ne.symm hne),List.getElem?_map] at hj
 cases hq:hp[j]? with
 | none=>rw[hq] at hj;cases hj
 | some b0 =>
  rw[hq] at hj
  obtain rfl:=Option.some.inj hj
  refine⟨b0,rfl,?_⟩
  cases b0<;>first|rfl|exact hl
theorem aAo(hsl0:True){α:Type}{x y:Operand}{t0 t1 e:TypeId}{tys:List TypeId}{n len es:Nat}{xs ys:List α}{f:α→List TV}{z:List Value}{new:List (List TV)}{xy:List α}(hx:tev tm x = .lsl n 0 len)(hb:hp[n]?=some (.rows es (xs.map f)))(hlen:len=xs.length)(hy:tev tm y = .list es new)(hnew:new=ys.map f)(hsl:eT P t0=some e)(hni:qB P (some t1)=true)(hz:gU P e=some z)(hes:z.length=es)(hap:Fi (nS P e) xs ys=some xy)(hff:∀ a,(f a).length=es∧(f a).all tone=true∧(f a).all (lf 4)=true):OpA C P { dst:=dst,op:=.call { callee:=.builtin .append,args:=#[x,y],argTypes:=⟨t0::t1::tys⟩ },type:=ty,pos:=pos,after:=aft,guard:=gd } ⟨tm,hp⟩ ⟨tput (tm.map (kill n 4)) dst (.lsl n 0 xy.length),(hp.map (pH n)).set n (.rows es (xy.map f))⟩ n:=by
 unfold Fi at hap
 split at hap
 ·rename_i hl
  obtain rfl:=Option.some.inj hap
  subst hnew
  have:=OpA.append (C:=C) (P:=P) (s:=⟨tm,hp⟩) (dst:=dst) (ty:=ty) (pos:=pos) (aft:=aft) (gd:=gd) (x:=x) (y:=y) (t0:=t0) (t1:=t1) (e:=e) (tys:=tys) (n:=n) (len:=len) (es:=es) (rows:=xs.map f) (new:=ys.map f) (z:=z) hx hb (by simp[hlen]) hy hsl hni hz hes (by simpa [Zr] using hl)
   (fun r hr=>by obtain⟨a,_,rfl⟩:=List.mem_map.1 hr;exact (hff a).1) (fun r hr=>by obtain⟨a,_,rfl⟩:=List.mem_map.1 hr;exact (hff a).2.1) (fun r hr=>by obtain⟨a,_,rfl⟩:=List.mem_map.1 hr;exact (hff a).2.2)
  simpa using this
 ·cases hap
theorem TD.apf{α:Type}{x y:Operand}{t0 t1 e:TypeId}{tys:List TypeId}{n len es:Nat}{xs ys:List α}{f:α→List TV}{z:List Value}{new:List (List TV)}{xy:List α}(hw:twant ops tm { dst:=dst,op:=.call { callee:=.builtin .append,args:=#[x,y],argTypes:=⟨t0::t1::tys⟩ },type:=ty,pos:=pos,after:=aft,guard:=gd }=some true)(hx:tev tm x = .lsl n 0 len)(hb:hp[n]?=some (.rows es (xs.map f)))(hlen:len=xs.length)(hy:tev tm y = .list es new)(hnew:new=ys.map f)(hsl:eT P t0=some e)(hni:qB P (some t1)=true)(hz:gU P e=some z)(hes:z.length=es)(hap:Fi (nS P e) xs ys=some xy)(hff:∀ a,(f a).length=es∧(f a).all tone=true∧(f a).all (lf 4)=true)(hnp:okW ops ms i ⟨tm,hp⟩ n np=true)(ht:tput (tm.map (kill n 4)) dst (.lsl n 0 xy.length)=tm2)(hh2:(hp.map (pH n)).set n (.rows es (xy.map f))=hp2)(hq:TD C P ops ms rest (i+1) (i::np) (n+2) ⟨tm2,hp2⟩ Q):TD C P ops ms ({ dst:=dst,op:=.call { callee:=.builtin .append,args:=#[x,y],argTypes:=⟨t0::t1::tys⟩ },type:=ty,pos:=pos,after:=aft,guard:=gd }::rest) i np 0 ⟨tm,hp⟩ Q:=by
 subst ht hh2
 exact TD.apW hw (aAo trivial hx hb hlen hy hnew hsl hni hz hes hap hff) (fun j b' hj hl hne=>Pl hj hl hne) ⟨_,hb,rfl⟩ hnp hq
theorem TO.cal{fo:Operand}{g:FuncId}{args:Array Operand}{tys:Array TypeId}{first caps as:List TV}{th:List TB}(hw:twant ops tm { dst:=dst,op:=.call { callee:=.value fo,args:=args,argTypes:=tys },type:=ty,pos:=pos,after:=aft,guard:=gd }=some true)(hf:tev tm fo = .func g first caps)(hg:aV P g=true)(hsp:Spec C g as ⟨[p],th⟩)(has:first++(args.toList.map (tev tm)++caps)=as)(hl:as.all (lf 4)=true)(hth:th.all zW=true)(ht:tput tm dst (shift hp.length 4 p)=tm2)(hh2:hp++th=hp2)(hq:TO C P ops rest ⟨tm2,hp2⟩ Q):TO C P ops ({ dst:=dst,op:=.call { callee:=.value fo,args:=args,argTypes:=tys },type:=ty,pos:=pos,after:=aft,guard:=gd }::rest) ⟨tm,hp⟩ Q:=by
 subst ht hh2
 exact TO.g hw (OpG.call (s:=⟨tm,hp⟩) hf hg has hl hsp hth) hq
theorem TD.cal{fo:Operand}{g:FuncId}{args:Array Operand}{tys:Array TypeId}{first caps as:List TV}{th:List TB}(hw:twant ops tm { dst:=dst,op:=.call { callee:=.value fo,args:=args,argTypes:=tys },type:=ty,pos:=pos,after:=aft,guard:=gd }=some true)(hf:tev tm fo = .func g first caps)(hg:aV P g=true)(hsp:Spec C g as ⟨[p],th⟩)(has:first++(args.toList.map (tev tm)++caps)=as)(hl:as.all (lf 4)=true)(hth:th.all zW=true)(ht:tput tm dst (shift hp.length 4 p)=tm2)(hh2:hp++th=hp2)(hq:TD C P ops ms rest (i+1) (i::np) 0 ⟨tm2,hp2⟩ Q):TD C P ops ms ({ dst:=dst,op:=.call { callee:=.value fo,args:=args,argTypes:=tys },type:=ty,pos:=pos,after:=aft,guard:=gd }::rest) i np 0 ⟨tm,hp⟩ Q:=by
 subst ht hh2
 exact TD.g hw (OpG.call (s:=⟨tm,hp⟩) hf hg has hl hsp hth) hq
theorem TO.lok{fo:Operand}{g:FuncId}{args:Array Operand}{tys:Array TypeId}{first caps as:List TV}{th:List TB}(hw:twant ops tm { dst:=dst,op:=.call { callee:=.value fo,args:=args,argTypes:=tys },type:=ty,pos:=pos,after:=aft,guard:=gd }=some true)(hf:tev tm fo = .func g first caps)(hg:aV P g=true)(hsp:Spec C g as ⟨[p],th⟩)(has:first++((args.toList.map (tev tm)).map (view hp 4)++caps)=as)(hth:th.all zW=true)(hcp:cl 4 p=true)(hcl:th.all qM=true)(ht:tput tm dst (shift hp.length 4 p)=tm2)(hh2:hp++th=hp2)(hq:TO C P ops rest ⟨tm2,hp2⟩ Q):TO C P ops ({ dst:=dst,op:=.call { callee:=.value fo,args:=args,argTypes:=tys },type:=ty,pos:=pos,after:=aft,guard:=gd }::rest) ⟨tm,hp⟩ Q:=by
 subst ht hh2
 exact TO.g hw (OpG.look (s:=⟨tm,hp⟩) hf hg has hsp hth hcp hcl) hq
theorem TO.frz(n:Nat){l:List Oper}{b:TB}(hb:hp[n]?=some b)(hl:lfB b=true)(ht:tm.map (frz n b 4)=tm2)(hh2:(hp.map (Kc n b)).set n .dead=hp2)(hq:TO C P ops l ⟨tm2,hp2⟩ Q):TO C P ops l ⟨tm,hp⟩ Q:=by
 subst ht hh2
 exact TO.weak (Wk.freeze n hb hl) hq
end
end Go.Rex
namespace Go.Rex
open Go.RowKit
section
variable {P:Program} {tm:List TV} {hp:List TB}
variable {dst:Option Tmp} {ty:TypeId} {pos:String} {aft:Array Edge} {gd:Option (Nat×Bool)} {x y:Operand} {t u:TypeId} {tys:List TypeId}
theorem pG{o:Oper}{v:Value}(ha:o.op.operands.toList.all (fun x=>(er 3 (tev tm x)).isSome)=true)(hv:Rex.pop P (erased tm) o=some v)(hi:nN 3 v=true):tgen P tm o=some (inj 3 v):=by
 unfold tgen
 rw[if_pos ha,hv]
 simp only
 rw[if_pos hi]
theorem bX{a:Value}(h:tev tm x = .v a):erased tm x=a:=by unfold erased;rw[h];rfl
theorem kY{a:Value}(h:tev tm x = .v a):(er 3 (tev tm x)).isSome=true:=by rw[h];rfl
theorem kT{b:Bool}(h:tev tm x = .v (.bool b)):tpop P hp tm { dst:=dst,op:=.unOp .not t x,type:=ty,pos:=pos,after:=aft,guard:=gd }=some (.v (.bool (!b))):=by
 have:tgen P tm { dst:=dst,op:=.unOp .not t x,type:=ty,pos:=pos,after:=aft,guard:=gd }=some (inj 3 (.bool (!b))) :=
  pG (by simp[Op.operands,kY h]) (by simp only[Rex.pop,Rex.pop0,Qi,bX h]) rfl
 exact this
theorem Em{k:IntKind}{n:Int}(h:tev tm x = .v (.int k n)):tpop P hp tm { dst:=dst,op:=.unOp .neg t x,type:=ty,pos:=pos,after:=aft,guard:=gd }=some (.v (.int k (k.wrap (0-n)))):=by
 have:tgen P tm { dst:=dst,op:=.unOp .neg t x,type:=ty,pos:=pos,after:=aft,guard:=gd }=some (inj 3 (.int k (k.wrap (0-n)))) :=
  pG (by simp[Op.operands,kY h]) (by simp only[Rex.pop,Rex.pop0,Rm,bX h]) rfl
 exact this
theorem pC{k k':IntKind}{a b:Int}(h:tev tm x = .v (.int k a))(g:tev tm y = .v (.int k' b)):tpop P hp tm { dst:=dst,op:=.call { callee:=.builtin .max,args:=#[x,y],argTypes:=⟨tys⟩ },type:=ty,pos:=pos,after:=aft,guard:=gd }=some (.v (.int k (if b>a then b else a))):=by
 have:tgen P tm { dst:=dst,op:=.call { callee:=.builtin .max,args:=#[x,y],argTypes:=⟨tys⟩ },type:=ty,pos:=pos,after:=aft,guard:=gd }=some (inj 3 (.int k (if b>a then b else a))) :=
  pG (by simpa [Op.operands,Call.operands] using ⟨kY h,kY g⟩) (by
   simp only[Rex.pop,Rex.pop0,bpop];rw[if_neg (by decide),Sc,bX h,bX g]) rfl
 exact this
theorem Mk{k k':IntKind}{a b:Int}(h:tev tm x = .v (.int k a))(g:tev tm y = .v (.int k' b)):tpop P hp tm { dst:=dst,op:=.call { callee:=.builtin .min,args:=#[x,y],argTypes:=⟨tys⟩ },type:=ty,pos:=pos,after:=aft,guard:=gd }=some (.v (.int k (if b<a then b else a))):=by
 have:tgen P tm { dst:=dst,op:=.call { callee:=.builtin .min,args:=#[x,y],argTypes:=⟨tys⟩ },type:=ty,pos:=pos,after:=aft,guard:=gd }=some (inj 3 (.int k (if b<a then b else a))) :=
  pG (by simpa [Op.operands,Call.operands] using ⟨kY h,kY g⟩) (by
   simp only[Rex.pop,Rex.pop0,bpop];rw[if_neg (by decide),Tz,bX h,bX g]) rfl
 exact this
theorem wP {o : Oper} {v : Value} (hp0 : Rex.pop0 P (erased tm) o = mF P (erased tm) o) (hsel : ∀ cs b, o.op ≠ .select cs b) (ha : o.op.operands.toList.all (fun x => (er 3 (tev tm x)).isSome) = true) (hc : o.op.operands.toList.all (fun x => cH (erased tm x)) = true)
    (hv:prun P (execOp (erased tm) o)=some (.value v)) (hi:nN 3 v=true) (hcv:cJ v=true):tgen P tm o=some (inj 3 v):=by
 refine pG ha (Mz ?_) hi
 rw[hp0]
 unfold mF
 split
 ·rename_i cs b e;exact absurd e (hsel _ _)
 ·rw[if_pos hc,hv]
  simp only
  rw[if_pos hcv]
theorem aT{α β:Type}{s:Sem α}{f:α→Sem β}:prun P (s >>= f)=(prun P s).bind fun a=>prun P (f a):=by
 induction s with
 | pure a=>rfl
 | program k ih=>exact ih _
 | mark m k ih=>exact ih
 | _=>rfl
theorem Nl{α:Type}{a:α}:prun P (pure a:Sem α)=some a:=rfl
theorem eW{t:TypeId}{d:TypeDesc}(h:P.underlying t=some d):prun P (underlying t)=some d:=by
 unfold underlying
 rw[aT]
 show prun P (match P.underlying t with | some d => pure d | none => stuck "no such type") = some d
 rw[h]
 rfl
theorem Jh{v w:Value}(h:tev tm x = .v v)(hc:cH v=true)(hw:prun P (convert t u v)=some w)(hi:nN 3 w=true)(hcw:cJ w=true):tpop P hp tm { dst:=dst,op:=.convert t u x,type:=ty,pos:=pos,after:=aft,guard:=gd }=some (inj 3 w):=by
 have:tgen P tm { dst:=dst,op:=.convert t u x,type:=ty,pos:=pos,after:=aft,guard:=gd }=some (inj 3 w):=by
  refine wP rfl (fun cs b e=>by cases e) (by simpa [Op.operands] using kY h) (by simpa [Op.operands,bX h] using hc) ?_ hi hcw
  show prun P (convert t u (erased tm x) >>= fun r=>(pure (Next.value r):Sem Next))=_
  rw[aT,bX h,hw]
  rfl
 exact this
theorem tY{k ks:IntKind}{kd:FloatKind}{n:Int}(hs:P.underlying t=some (.int ks))(hd:P.underlying u=some (.float kd))(h:tev tm x = .v (.int k n)):tpop P hp tm { dst:=dst,op:=.convert t u x,type:=ty,pos:=pos,after:=aft,guard:=gd }=some (.v (.float kd (kd.nearest n))):=by
 refine Jh (w:=.float kd (kd.nearest n)) h rfl ?_ rfl rfl
 unfold convert
 rw[aT,eW hs,Option.bind_some,aT,eW hd,Option.bind_some]
 rfl
theorem bM{k ks kd:IntKind}{n:Int}(hs:P.underlying t=some (.int ks))(hd:P.underlying u=some (.int kd))(h:tev tm x = .v (.int k n)):tpop P hp tm { dst:=dst,op:=.convert t u x,type:=ty,pos:=pos,after:=aft,guard:=gd }=some (.v (.int kd (kd.wrap n))):=by
 refine Jh (w:=.int kd (kd.wrap n)) h rfl ?_ rfl rfl
 unfold convert
 rw[aT,eW hs,Option.bind_some,aT,eW hd,Option.bind_some]
 rfl
theorem Vo{v w:Value}(h:tev tm x = .v v)(hn:Tq P t u v=some w)(hw:prun P (convert t u v)=some w∨prun P (convert t u v)=none)(hi:nN 3 w=true):tpop P hp tm { dst:=dst,op:=.convert t u x,type:=ty,pos:=pos,after:=aft,guard:=gd }=some (inj 3 w):=by
 have:tgen P tm { dst:=dst,op:=.convert t u x,type:=ty,pos:=pos,after:=aft,guard:=gd }=some (inj 3 w):=by
  refine pG (by simpa [Op.operands] using kY h) (El rfl ?_ ?_) hi
  ·show Tq P t u (erased tm x)=some w
   rw[bX h];exact hn
  ·show prun P (convert t u (erased tm x) >>= fun r=>(pure (Next.value r):Sem Next))=_∨prun P (convert t u (erased tm x) >>= fun r=>(pure (Next.value r):Sem Next))=_
   rw[aT,bX h]
   rcases hw with hw|hw
   ·rw[hw];exact .inl rfl
   ·rw[hw];exact .inr rfl
 exact this
theorem Sn{k kd:FloatKind}{b r:Nat}(hr:f2f k b kd=some r):prun P (Conv.floatToFloat k b kd)=some (.float kd r)∨prun P (Conv.floatToFloat k b kd)=none:=by
 unfold Conv.floatToFloat
 unfold f2f at hr
 split at hr
 ·rename_i e;rw[if_pos e];obtain rfl:=Option.some.inj hr;exact .inl rfl
 ·rename_i e
  rw[if_neg e]
  split at hr
  ·rename_i hn
   obtain⟨s,t,e2⟩:=kM hn
   have e3:k.decode b = .nan s t:=e2
   rw[e3]
   exact .inr rfl
  ·split at hr
   ·cases hr
   ·rename_i hd;obtain rfl:=Option.some.inj hr;simp only[hd];exact .inl rfl
   ·rename_i hd
    simp only[hd]
    split at hr
    ·cases hr
    ·rename_i hi
     obtain rfl:=Option.some.inj hr
     rw[if_neg hi]
     exact .inl rfl
theorem rV{k ks kd:FloatKind}{b r:Nat}(hs:P.underlying t=some (.float ks))(hd:P.underlying u=some (.float kd))(h:tev tm x = .v (.float k b))(hr:f2f k b kd=some r):tpop P hp tm { dst:=dst,op:=.convert t u x,type:=ty,pos:=pos,after:=aft,guard:=gd }=some (.v (.float kd r)):=by
 refine Vo (w:=.float kd r) h ?_ ?_ rfl
 ·simp only[Tq,hs,hd,hr,Option.map_some]
 ·have e : prun P (convert t u (.float k b)) = prun P (Conv.floatToFloat k b kd) := by
    unfold convert
    rw[aT,eW hs,Option.bind_some,aT,eW hd,Option.bind_some]
  rw[e]
  exact Sn hr
def f2i(s:FloatKind)(b:Nat)(d:IntKind):Option Int :=
 match (s.decode b).toInt .zero with
 | some n=>if d.min≤n∧n≤d.max then some n else none
 | none=>none
theorem uA{k ks:FloatKind}{kd:IntKind}{b:Nat}{r:Int}(hs:P.underlying t=some (.float ks))(hd:P.underlying u=some (.int kd))(h:tev tm x = .v (.float k b))(hr:f2i k b kd=some r):tpop P hp tm { dst:=dst,op:=.convert t u x,type:=ty,pos:=pos,after:=aft,guard:=gd }=some (.v (.int kd r)):=by
 have hnb:gV k b=false:=by
  cases hq:gV k b with
  | false=>rfl
  | true =>
   obtain⟨s,t,e⟩:=kM hq
   have e:k.decode b = .nan s t:=e
   unfold f2i at hr
   rw[e] at hr
   cases hr
 refine Jh (w:=.int kd r) h (by simp only[cH,depth,clean,nW,hnb];rfl) ?_ rfl rfl
 unfold convert
 rw[aT,eW hs,Option.bind_some,aT,eW hd,Option.bind_some]
 show prun P (Conv.floatToInt k b kd)=_
 unfold Conv.floatToInt
 unfold f2i at hr
 split at hr
 ·rename_i n hn
  split at hr
  ·rename_i hc
   obtain rfl:=Option.some.inj hr
   simp only[hn]
   rw[if_pos hc]
   rfl
  ·cases hr
 ·cases hr
def gZ(op:BinOp)(k:IntKind)(a b:Int):Int :=
 let x:=BitVec.ofInt k.bits a
 let y:=BitVec.ofInt k.bits b
 match op with
 | .and=>k.wrap (x &&& y).toNat
 | .or=>k.wrap (x ||| y).toNat
 | .xor=>k.wrap (x ^^^ y).toNat
 | _=>k.wrap (x &&& ~~~y).toNat
def shI(op:BinOp)(k:IntKind)(a b:Int):Option Int :=
 if b<0 then none else match op with
 | .shl=>some (k.wrap (a*2^(min b.toNat k.bits)))
 | _=>some (a.fdiv (2^(min b.toNat k.bits)))
theorem To {b : BinOp} {v w r : Value} (h : tev tm x = .v v) (g : tev tm y = .v w) (hf : dC b v w = none) (hc : cH v = true) (hd : cH w = true) (he : prun P (eqGuard b t x y v w) = some ()) (hw : prun P (binOp b t v w) = some r) (hi : nN 3 r = true) (hcr : cJ r = true) :
    tpop P hp tm { dst:=dst,op:=.binOp b t x y u,type:=ty,pos:=pos,after:=aft,guard:=gd }=some (inj 3 r):=by
 have h1:tgen P tm { dst:=dst,op:=.binOp b t x y u,type:=ty,pos:=pos,after:=aft,guard:=gd }=some (inj 3 r):=by
  refine wP ?_ (fun cs b e=>by cases e) (by simpa [Op.operands] using ⟨kY h,kY g⟩) (by simpa [Op.operands,bX h,bX g] using ⟨hc,hd⟩) ?_ hi hcr
  ·simp only[Rex.pop0,bX h,bX g,hf,mG]
  ·show prun P ((eqGuard b t x y (erased tm x) (erased tm y) >>= fun _=>binOp b t (erased tm x) (erased tm y)) >>= fun r=>(pure (Next.value r):Sem Next))=_
   rw[aT,bX h,bX g,aT,he,Option.bind_some,hw]
   rfl
 simp only[tpop,h,g,tbin,hf,Option.map_none,orT]
 exact h1
theorem Mm {b : BinOp} {v w r : Value} (h : tev tm x = .v v) (g : tev tm y = .v w) (hf : dC b v w = none) (hn : Gi b v w = some r) (hw : prun P (eqGuard b t x y v w >>= fun _ => binOp b t v w) = some r ∨ prun P (eqGuard b t x y v w >>= fun _ => binOp b t v w) = none) (hi : nN 3 r = true) :
    tpop P hp tm { dst:=dst,op:=.binOp b t x y u,type:=ty,pos:=pos,after:=aft,guard:=gd }=some (inj 3 r):=by
 have h1:tgen P tm { dst:=dst,op:=.binOp b t x y u,type:=ty,pos:=pos,after:=aft,guard:=gd }=some (inj 3 r):=by
  refine pG (by simpa [Op.operands] using ⟨kY h,kY g⟩) (El ?_ ?_ ?_) hi
  ·simp only[Rex.pop0,bX h,bX g,hf,mG]
  ·show Gi b (erased tm x) (erased tm y)=some r
   rw[bX h,bX g];exact hn
  ·show prun P ((eqGuard b t x y (erased tm x) (erased tm y) >>= fun _=>binOp b t (erased tm x) (erased tm y)) >>= fun r=>(pure (Next.value r):Sem Next))=_∨prun P ((eqGuard b t x y (erased tm x) (erased tm y) >>= fun _=>binOp b t (erased tm x) (erased tm y)) >>= fun r=>(pure (Next.value r):Sem Next))=_
   rw[bX h,bX g,aT]
   rcases hw with hw|hw
   ·rw[hw];exact .inl rfl
   ·rw[hw];exact .inr rfl
 simp only[tpop,h,g,tbin,hf,Option.map_none,orT]
 exact h1
theorem Co{b:BinOp}{v w:Value}(hb:b ≠ .eql∧b ≠ .neq):prun P (eqGuard b t x y v w)=some ():=by
 cases b<;>first|rfl|exact absurd rfl hb.1|exact absurd rfl hb.2
theorem oM{b:BinOp}{k:IntKind}{a d:Int}(h:tev tm x = .v (.int k a))(g:tev tm y = .v (.int k d))(hb:b = .and∨b = .or∨b = .xor∨b = .andNot):tpop P hp tm { dst:=dst,op:=.binOp b t x y u,type:=ty,pos:=pos,after:=aft,guard:=gd }=some (.v (.int k (gZ b k a d))):=by
 refine To (r:=.int k (gZ b k a d)) h g ?_ rfl rfl (Co ?_) ?_ rfl rfl
 ·rcases hb with rfl|rfl|rfl|rfl<;>simp[dC]
 ·rcases hb with rfl|rfl|rfl|rfl<;>exact⟨by decide,by decide⟩
 ·rcases hb with rfl|rfl|rfl|rfl<;>simp[binOp,Op.intBits,gZ]<;>rfl
theorem dE{b:BinOp}{k k':IntKind}{a d r:Int}(h:tev tm x = .v (.int k a))(g:tev tm y = .v (.int k' d))(hb:b = .shl∨b = .shr)(hr:shI b k a d=some r):tpop P hp tm { dst:=dst,op:=.binOp b t x y u,type:=ty,pos:=pos,after:=aft,guard:=gd }=some (.v (.int k r)):=by
 unfold shI at hr
 split at hr
 ·cases hr
 ·rename_i hd
  refine To (r:=.int k r) h g ?_ rfl rfl (Co ?_) ?_ rfl rfl
  ·rcases hb with rfl|rfl<;>simp[dC]
  ·rcases hb with rfl|rfl<;>exact⟨by decide,by decide⟩
  ·rcases hb with rfl|rfl<;>(obtain rfl:=Option.some.inj hr;simp only[binOp,Op.shift,if_neg hd];rfl)
end
end Go.Rex
namespace Go.Rex
open Go.RowKit
section
variable {C:Ctx} {P:Program} {Fz:Nat→Prop} {h h0:List Blk} {L:Nat→LI} {s:TS} {tm:List Value}
variable {dst:Option Tmp} {ty:TypeId} {pos:String} {aft:Array Edge} {gd:Option (Nat×Bool)}
end
end Go.Rex
namespace Go.Rex
open Go.RowKit
section
variable {C:Ctx} {P:Program} {ops:Array Oper} {rest:List Oper} {tm tm2:List TV} {hp hp2:List TB} {Q:TS→Prop} {o:Oper}
variable {dst:Option Tmp} {ty:TypeId} {pos:String} {aft:Array Edge} {gd:Option (Nat×Bool)} {p q:TV} {ms:List Nat} {i:Nat} {np:List Nat} {c:Nat}
theorem stV {t : TypeId} {a x : Operand} {n ob : Nat} {row row2 l : List TV} (ha : tev tm a = .lptr n 0 ob) (hx : tev tm x = p) (hj : iJ p = false) (hl : tcells p = l) (hb : hp[n]? = some (.var row)) (ht : okT P t = true) (hlen : l.length = P.cellsOf t) (hone : l.all tone = true) (hfit : Nat.ble (ob + l.length) row.length = true) (hv : tsplice row ob l = row2) :
    OpW C P { dst:=none,op:=.store t a x,type:=ty,pos:=pos,after:=aft,guard:=gd } ⟨tm,hp⟩ ⟨tm,hp.set n (.var row2)⟩:=by
 subst hl hv
 refine OpW.store (s:=⟨tm,hp⟩) ?_
 rw[show tev (TS.mk tm hp).tm a=_ from ha,show tev (TS.mk tm hp).tm x=p from hx]
 simp only[tstore]
 rw[if_pos ⟨hj,ht,hlen,hone⟩,hb]
 simp only
 rw[if_pos ⟨trivial,Nat.le_of_ble_eq_true hfit⟩]
theorem stR {α : Type} {f : α → List TV} {xs : List α} {y : α} {u : α} {t : TypeId} {a x : Operand} {n r ob es : Nat} {l : List TV} (ha : tev tm a = .lptr n r ob) (hx : tev tm x = p) (hj : iJ p = false) (hl : tcells p = l) (hb : hp[n]? = some (.rows es (xs.map f))) (hr : xs[r]? = some u) (ht : okT P t = true) (hlen : l.length = P.cellsOf t) (hone : l.all tone = true)
    (hlf:l.all (lf 4)=true) (hfit:Nat.ble (ob+l.length) (f u).length=true) (hv:tsplice (f u) ob l=f y) :
    OpW C P { dst:=none,op:=.store t a x,type:=ty,pos:=pos,after:=aft,guard:=gd } ⟨tm,hp⟩ ⟨tm,hp.set n (.rows es ((xs.set r y).map f))⟩:=by
 subst hl
 refine OpW.store (s:=⟨tm,hp⟩) ?_
 rw[show tev (TS.mk tm hp).tm a=_ from ha,show tev (TS.mk tm hp).tm x=p from hx]
 simp only[tstore]
 rw[if_pos ⟨hj,ht,hlen,hone⟩,hb]
 simp only[List.getElem?_map,hr,Option.map_some]
 rw[if_pos ⟨Nat.le_of_ble_eq_true hfit,hlf⟩,hv,List.map_set]
theorem TO.sv {t : TypeId} {a x : Operand} {n ob : Nat} {row row2 l : List TV} (hw : twant ops tm { dst := none, op := .store t a x, type := ty, pos := pos, after := aft, guard := gd } = some true) (ha : tev tm a = .lptr n 0 ob) (hx : tev tm x = p) (hj : iJ p = false) (hl : tcells p = l) (hb : hp[n]? = some (.var row)) (ht : okT P t = true) (hlen : l.length = P.cellsOf t) (hone : l.all tone = true) (hfit : Nat.ble (ob + l.length) row.length = true) (hv : tsplice row ob l = row2)
    (hh2:hp.set n (.var row2)=hp2) (hq:TO C P ops rest ⟨tm,hp2⟩ Q):TO C P ops ({ dst:=none,op:=.store t a x,type:=ty,pos:=pos,after:=aft,guard:=gd }::rest) ⟨tm,hp⟩ Q:=by
 subst hh2;exact TO.w hw (stV ha hx hj hl hb ht hlen hone hfit hv) hq
theorem TD.sv {t : TypeId} {a x : Operand} {n ob : Nat} {row row2 l : List TV} (hw : twant ops tm { dst := none, op := .store t a x, type := ty, pos := pos, after := aft, guard := gd } = some true) (ha : tev tm a = .lptr n 0 ob) (hx : tev tm x = p) (hj : iJ p = false) (hl : tcells p = l) (hb : hp[n]? = some (.var row)) (ht : okT P t = true) (hlen : l.length = P.cellsOf t) (hone : l.all tone = true) (hfit : Nat.ble (ob + l.length) row.length = true) (hv : tsplice row ob l = row2)
    (hnp:okW ops ms i ⟨tm,hp⟩ n np=true) (hh2:hp.set n (.var row2)=hp2) (hq:TD C P ops ms rest (i+1) (i::np) 1 ⟨tm,hp2⟩ Q):TD C P ops ms ({ dst:=none,op:=.store t a x,type:=ty,pos:=pos,after:=aft,guard:=gd }::rest) i np c ⟨tm,hp⟩ Q:=by
 subst hh2;exact TD.wF (s:=⟨tm,hp⟩) hw ha (stV ha hx hj hl hb ht hlen hone hfit hv) hnp hq
theorem TD.sr {α : Type} (f : α → List TV) (xs : List α) (u y : α) {t : TypeId} {a x : Operand} {n r ob es : Nat} {l : List TV} (hr : xs[r]? = some u) (hw : twant ops tm { dst := none, op := .store t a x, type := ty, pos := pos, after := aft, guard := gd } = some true) (ha : tev tm a = .lptr n r ob) (hx : tev tm x = p) (hj : iJ p = false) (hl : tcells p = l) (hb : hp[n]? = some (.rows es (xs.map f))) (ht : okT P t = true) (hlen : l.length = P.cellsOf t) (hone : l.all tone = true)
    (hlf:l.all (lf 4)=true) (hfit:Nat.ble (ob+l.length) (f u).length=true) (hv:tsplice (f u) ob l=f y) (hnp:okW ops ms i ⟨tm,hp⟩ n np=true) (hh2:hp.set n (.rows es ((xs.set r y).map f))=hp2) (hq:TD C P ops ms rest (i+1) (i::np) 1 ⟨tm,hp2⟩ Q):TD C P ops ms ({ dst:=none,op:=.store t a x,type:=ty,pos:=pos,after:=aft,guard:=gd }::rest) i np c ⟨tm,hp⟩ Q:=by
 subst hh2;exact TD.wF (s:=⟨tm,hp⟩) hw ha (stR ha hx hj hl hb hr ht hlen hone hlf hfit hv) hnp hq
end
section
variable {C:Ctx} {P:Program} {ops:Array Oper} {rest:List Oper} {tm tm2:List TV} {hp hp2:List TB} {Q:TS→Prop} {o:Oper}
variable {dst:Option Tmp} {ty:TypeId} {pos:String} {aft:Array Edge} {gd:Option (Nat×Bool)} {p q:TV} {ms:List Nat} {i:Nat} {np:List Nat} {c:Nat}
theorem Uj{α:Type}{f:α→List TV}{xs:List α}{u:α}{es k:Nat}(hf:∀ a,(f a).length=es)(hk:xs[k]?=some u):(((xs.map f).flatten).drop (k*es)).take es=f u∧k*es+es≤(xs.map f).flatten.length:=by
 have hw:∀ r∈xs.map f,r.length=es:=fun r hr=>by obtain⟨a,_,rfl⟩:=List.mem_map.1 hr;exact hf a
 have hr:(xs.map f)[k]?=some (f u):=by rw[List.getElem?_map,hk];rfl
 constructor
 ·apply List.ext_getElem?
  intro j
  rw[List.getElem?_take,List.getElem?_drop]
  split
  ·rename_i hj;exact tG hw hr hj
  ·rename_i hj
   rw[List.getElem?_eq_none (by rw[hf u];omega)]
 ·rw[iC hw,← Nat.succ_mul]
  have:=(List.getElem?_eq_some_iff.1 hr).1
  exact Nat.mul_le_mul_right _ this
end
theorem z1 : (∀ tm t, tev tm (.tmp t) = tnth tm t) ∧ (∀ tm k n, tev tm (.const (.int k n)) = .v (.int k n)) ∧ (∀ tm b, tev tm (.const (.bool b)) = .v (.bool b)) ∧ (∀ tm s, tev tm (.const (.string s)) = .v (.string s)) ∧ (∀ tm k b, tev tm (.const (.float k b)) = .v (.float k b)) ∧
    (∀ tm k a b,tev tm (.const (.complex k a b)) = .v (.complex k a b))∧(∀ tm,tev tm (.const (.slice none 0 0)) = .v (.slice none 0 0))∧(∀ tm,tev tm (.const .nilFunc) = .v .nilFunc)∧(∀ tm,tev tm (.const .nilIface) = .v .nilIface)∧(∀ tm,tev tm (.const (.pointer none)) = .v (.pointer none)) ∧
    (∀ tm f,tev tm (.func f) = .func f [] [])∧(∀ a l,tnth (a::l) 0=a)∧(∀ a l n,tnth (a::l) (n+1)=tnth l n)∧(∀ tm p,tput tm none p=tm)∧(∀ tm d p,tput tm (some d) p=tm.set d p) :=
 ⟨fun _ _=>rfl,fun _ _ _=>rfl,fun _ _=>rfl,fun _ _=>rfl,fun _ _ _=>rfl,fun _ _ _ _=>rfl,fun _=>rfl,fun _=>rfl,fun _=>rfl,fun _=>rfl,fun _ _=>rfl,fun _ _=>rfl,fun _ _ _=>rfl,fun _ _=>rfl,fun _ _ _=>rfl⟩
theorem z2 : (∀ k a b, dC .add (.int k a) (.int k b) = some (.int k (k.wrap (a + b)))) ∧ (∀ k a b, dC .sub (.int k a) (.int k b) = some (.int k (k.wrap (a - b)))) ∧ (∀ k a b, dC .mul (.int k a) (.int k b) = some (.int k (k.wrap (a * b)))) ∧
    (∀ k a b,dC .lss (.int k a) (.int k b)=some (.bool (decide (a<b))))∧(∀ k a b,dC .leq (.int k a) (.int k b)=some (.bool (decide (a≤b))))∧(∀ k a b,dC .gtr (.int k a) (.int k b)=some (.bool (decide (a>b))))∧(∀ k a b,dC .geq (.int k a) (.int k b)=some (.bool (decide (a≥b)))) ∧
    (∀ k a b,dC .eql (.int k a) (.int k b)=some (.bool (decide (a=b))))∧(∀ k a b,dC .neq (.int k a) (.int k b)=some (.bool (decide (a≠b))))∧(∀ k a b,dC .quo (.int k a) (.int k b)=if b=0 then none else some (.int k (k.wrap (a.tdiv b))))∧(∀ k a b,dC .rem (.int k a) (.int k b)=if b=0 then none else some (.int k (a.tmod b))):=by
 refine⟨?_,?_,?_,?_,?_,?_,?_,?_,?_,?_,?_⟩<;>(intro k a b;simp only[dC,if_true])
end Go.Rex
namespace Go.Rex
open Go.RowKit
section
variable {C:Ctx} {P:Program} {ops:Array Oper} {rest:List Oper} {tm tm2:List TV} {hp hp2:List TB} {Q:TS→Prop} {o:Oper}
variable {dst:Option Tmp} {ty:TypeId} {pos:String} {aft:Array Edge} {gd:Option (Nat×Bool)} {p q:TV} {ms:List Nat} {i:Nat} {np:List Nat} {c:Nat}
theorem TO.here{l:List Oper}{s:TS}(h:TO C P ops l s Q):TO C P ops l s Q:=h
theorem TD.here{l:List Oper}{s:TS}(h:TD C P ops ms l i np c s Q):TD C P ops ms l i np c s Q:=h
theorem mkG {α : Type} {f : α → List TV} {z0 : α} {xs : List α} {t e : TypeId} {x y : Operand} {k k' : IntKind} {n : Int} {z : List Value} {es by' : Nat} (hm : mkI by' n z0 = some xs) (hx : tev tm x = .v (.int k n)) (hy : tev tm y = .v (.int k' n)) (hs : eT P t = some e) (hz : gU P e = some z) (hb : nS P e = by') (hne : z.length = es) (he : Nat.ble 1 es = true) (hf : z.map .v = f z0) :
    OpG C P { dst:=dst,op:=.makeSlice t x y,type:=ty,pos:=pos,after:=aft,guard:=gd } ⟨tm,hp⟩ ⟨tput tm dst (.lsl hp.length 0 xs.length),hp++[.rows es (xs.map f)]⟩:=by
 unfold mkI at hm
 split at hm
 ·rename_i hc
  obtain rfl:=Option.some.inj hm
  have:=OpG.makeSlice (C:=C) (P:=P) (s:=⟨tm,hp⟩) (dst:=dst) (ty:=ty) (pos:=pos) (aft:=aft) (gd:=gd) (t:=t) (l:=x) (c:=y) (n:=n.toNat) (z:=z) (by
   rw[show tev (TS.mk tm hp).tm x=_ from hx,show tev (TS.mk tm hp).tm y=_ from hy]
   simp only[tmake,hs,hz,hb]
   rw[if_pos ⟨trivial,hc.1,hc.2.1,hc.2.2,fun h=>by rw[h] at hne;simp at hne;subst hne;simp[Nat.ble] at he⟩])
  rw[hne,hf] at this
  simpa using this
 ·cases hm
theorem TO.mk {α : Type} (f : α → List TV) {z0 : α} {xs : List α} {t e : TypeId} {x y : Operand} {k k' : IntKind} {n : Int} {z : List Value} {es by' : Nat} (hm : mkI by' n z0 = some xs) (hw : twant ops tm { dst := dst, op := .makeSlice t x y, type := ty, pos := pos, after := aft, guard := gd } = some true) (hx : tev tm x = .v (.int k n)) (hy : tev tm y = .v (.int k' n)) (hs : eT P t = some e) (hz : gU P e = some z) (hb : nS P e = by') (hne : z.length = es) (he : Nat.ble 1 es = true) (hf : z.map .v = f z0)
    (ht:tput tm dst (.lsl hp.length 0 xs.length)=tm2) (hh2:hp++[.rows es (xs.map f)]=hp2) (hq:TO C P ops rest ⟨tm2,hp2⟩ Q):TO C P ops ({ dst:=dst,op:=.makeSlice t x y,type:=ty,pos:=pos,after:=aft,guard:=gd }::rest) ⟨tm,hp⟩ Q:=by
 subst ht hh2;exact TO.g hw (mkG hm hx hy hs hz hb hne he hf) hq
theorem boG {α : Type} {f : α → List TV} {xs : List α} {t : TypeId} {n es : Nat} {ps : Array (Nat × Operand)} {l : List (Nat × TV)} {rows : List (List TV)} (hx : ps.toList.map (fun q => (q.1, tev tm q.2)) = l) (hv : tslice P t n l = some (es, rows)) (hr : rows = xs.map f) (hn : n = xs.length) :
    OpG C P { dst:=dst,op:=.buildSlice t n ps,type:=ty,pos:=pos,after:=aft,guard:=gd } ⟨tm,hp⟩ ⟨tput tm dst (.lsl hp.length 0 xs.length),hp++[.rows es (xs.map f)]⟩:=by
 subst hr hn
 exact OpG.buildOwn (s:=⟨tm,hp⟩) (by simp only[hx];exact hv)
theorem TD.bl {α : Type} (f : α → List TV) (xs : List α) {t : TypeId} {n es : Nat} {ps : Array (Nat × Operand)} {l : List (Nat × TV)} {rows : List (List TV)} (hw : twant ops tm { dst := dst, op := .buildSlice t n ps, type := ty, pos := pos, after := aft, guard := gd } = some true) (hx : ps.toList.map (fun q => (q.1, tev tm q.2)) = l) (hv : tslice P t n l = some (es, rows)) (hr : rows = xs.map f) (hn : n = xs.length)
    (ht:tput tm dst (.lsl hp.length 0 xs.length)=tm2) (hh2:hp++[.rows es (xs.map f)]=hp2) (hq:TD C P ops ms rest (i+1) (i::np) 0 ⟨tm2,hp2⟩ Q):TD C P ops ms ({ dst:=dst,op:=.buildSlice t n ps,type:=ty,pos:=pos,after:=aft,guard:=gd }::rest) i np 0 ⟨tm,hp⟩ Q:=by
 subst ht hh2;exact TD.g hw (boG hx hv hr hn) hq
end
end Go.Rex
namespace Go.Rex
open Go.RowKit
theorem z3 : (∀ (α : Type) (a b : α) (l : List α), (a :: l).set 0 b = b :: l) ∧ (∀ (α : Type) (a b : α) (l : List α) (n : Nat), (a :: l).set (n + 1) b = a :: l.set n b) ∧ (∀ (α : Type) (a : α) (l : List α), (a :: l)[0]? = some a) ∧ (∀ (α : Type) (a : α) (l : List α) (n : Nat), (a :: l)[n + 1]? = l[n]?) ∧
    (∀(α β:Type) (f:α→β) (a:α) (l:List α),(a::l).map f=f a::l.map f)∧(∀(α β:Type) (f:α→β),([]:List α).map f=[])∧(∀(α:Type) (a:α) (l m:List α),(a::l)++m=a::(l++m))∧(∀(α:Type) (l:List α),[]++l=l)∧(∀(α:Type) (a:α) (l:List α),(a::l).length=l.length+1)∧(∀(α:Type),([]:List α).length=0) ∧
    (∀(α:Type) (l:List α),l.drop 0=l)∧(∀(α:Type) (a:α) (l:List α) (n:Nat),(a::l).drop (n+1)=l.drop n)∧(∀(α:Type) (n:Nat),([]:List α).drop n=[])∧(∀(α:Type) (l:List α),l.take 0=[])∧(∀(α:Type) (a:α) (l:List α) (n:Nat),(a::l).take (n+1)=a::l.take n)∧(∀(α:Type) (n:Nat),([]:List α).take n=[]) ∧
    (∀(α β:Type) (f:α→β) (a:α),(some a).map f=some (f a))∧(∀(α β:Type) (f:α→β) (l:List α),(l.map f).length=l.length) :=
 ⟨fun _ _ _ _=>rfl,fun _ _ _ _ _=>rfl,fun _ _ _=>rfl,fun _ _ _ _=>rfl,fun _ _ _ _ _=>rfl,fun _ _ _=>rfl,fun _ _ _ _=>rfl,fun _ _=>rfl,fun _ _ _=>rfl,fun _=>rfl,fun _ _=>rfl,fun _ _ _ _=>rfl,fun _ n=>by cases n<;>rfl,fun _ _=>rfl,fun _ _ _ _=>rfl,fun _ n=>by cases n<;>rfl,fun _ _ _ _=>rfl,fun _ _ _ _=>List.length_map _⟩
theorem z4 : (∀ l, tcells (.agg l) = l) ∧ (∀ x, tcells (.v x) = [.v x]) ∧ (∀ a b, tcells (.list a b) = [.list a b]) ∧ (∀ a b c, tcells (.func a b c) = [.func a b c]) ∧ (∀ v a b, tcells (.fptr v a b) = [.fptr v a b]) ∧ (∀ a b c, tcells (.lptr a b c) = [.lptr a b c]) ∧ (∀ a b c, tcells (.lsl a b c) = [.lsl a b c]) ∧
    (∀ l,iJ (.agg l)=false)∧(∀ x,iJ (.v x)=false)∧(∀ a b,iJ (.list a b)=false)∧(∀ a b c,iJ (.func a b c)=false)∧(∀ v a b,iJ (.fptr v a b)=false)∧(∀ a b c,iJ (.lptr a b c)=false)∧(∀ a b c,iJ (.lsl a b c)=false) ∧
    (∀ a b,tpick (.v (.bool true)) a b=some a)∧(∀ a b,tpick (.v (.bool false)) a b=some b)∧(∀ ops tm dst op ty pos aft,twant ops tm { dst:=dst,op:=op,type:=ty,pos:=pos,after:=aft,guard:=none }=some true)∧(∀(c:List TV) o l,tsplice c o l=c.take o++l++c.drop (o+l.length)) ∧
    (∀ tm,tput tm none=fun _=>tm) :=
 ⟨fun _=>rfl,fun _=>rfl,fun _ _=>rfl,fun _ _ _=>rfl,fun _ _ _=>rfl,fun _ _ _=>rfl,fun _ _ _=>rfl,fun _=>rfl,fun _=>rfl,fun _ _=>rfl,fun _ _ _=>rfl,fun _ _ _=>rfl,fun _ _ _=>rfl,fun _ _ _=>rfl,fun _ _=>rfl,fun _ _=>rfl,fun _ _ _ _ _ _ _=>rfl,fun _ _ _=>rfl,fun _=>rfl⟩
end Go.Rex
namespace Go.Rex
example:(0:Int)<((2:Nat):Int):=by simp only[Int.cast_ofNat_Int,Int.reduceLT]
end Go.Rex
namespace Go.Rex
theorem tml{α β:Type}{f:α→β}{xs:List α}:(xs.map f).take xs.length=xs.map f:=List.take_of_length_le (by simp)
end Go.Rex
namespace Go.Rex
open Go.RowKit
section
variable {C:Ctx} {P:Program} {ops:Array Oper} {rest:List Oper} {tm tm2:List TV} {hp hp2:List TB} {Q:TS→Prop} {o:Oper}
variable {dst:Option Tmp} {ty:TypeId} {pos:String} {aft:Array Edge} {gd:Option (Nat×Bool)} {p q:TV} {ms:List Nat} {i:Nat} {np:List Nat} {c:Nat}
theorem tmlc{α β:Type}{f:α→β}{xs:List α}{n:Nat}(h:xs.length=n):(xs.map f).take n=xs.map f:=by subst h;exact tml
theorem iaP {α : Type} {xs : List α} {u : α} {t e : TypeId} {x y : Operand} {n es : Nat} {k : IntKind} {iv : Int} {row : List TV} {vb : Bool} (hg : fR xs iv = some u) (hx : tev tm x = .fptr vb row 0) (hy : tev tm y = .v (.int k iv)) (hso : eT P t = none) (ha : kS P t = some (n, e)) (hn : xs.length = n) (ho : okT P e = true) (hes : P.cellsOf e = es) :
    tpop P hp tm { dst:=dst,op:=.indexAddr t x y,type:=ty,pos:=pos,after:=aft,guard:=gd }=some (.fptr vb row (0+iv.toNat*es)):=by
 have h1:=mZ hg
 simp only[tpop,hx,hy,bP,hso,ha]
 rw[if_pos ⟨h1.1,by omega,ho⟩,hes]
def Ej(P:Program)(g:FuncId):Option (Array Value→Sem Value) :=
 match P.funcs[g]? with
 | some fd => if fd.body.isNone = true ∧ (fd.name == "runtime.NumGoroutine") = false ∧ (Extern.findNext fd).isNone = true then Extern.find fd else none
 | none=>none
theorem Vl{g:FuncId}{F:Array Value→Sem Value}{vals:List Value}{v:Value}(hF:Ej P g=some F)(hc:vals.all cH=true)(hv:prun P (F ⟨vals⟩)=some v)(hcv:cJ v=true)(h:List Blk):aV P g=false∧xslow P g vals h=some (v,h,none):=by
 unfold Ej at hF
 split at hF
 ·rename_i fd hfd
  split at hF
  ·rename_i hcond
   obtain⟨h1,h2,h3⟩:=hcond
   have hb:fd.body=none:=by simpa using h1
   refine⟨by simp[aV,hfd,hb],?_⟩
   have hcall:prun P (callFunc g ⟨vals⟩)=some (.value v):=by
    unfold callFunc
    rw[aT]
    show prun P (match P.funcs[g]? with|none=>_|some fn=>_)=_
    rw[hfd]
    simp only[h2,Bool.false_eq_true,if_false,h1,if_true]
    have hn:Extern.findNext fd=none:=by simpa using h3
    rw[hn]
    rw[aT]
    show prun P _=_
    simp only[hF]
    show prun P (F ⟨vals⟩ >>= fun r=>(pure (Next.value r):Sem Next))=_
    rw[aT,hv]
    rfl
   simp only[xslow,hfd,hb,Qv,Ui,hc,if_true,hcall,hcv,Option.map_some]
  ·cases hF
 ·cases hF
theorem Zu {fo : Operand} {g : FuncId} {args : Array Operand} {tys : Array TypeId} {l : List TV} {vals : List Value} {v : Value} (hf : tev tm fo = .func g [] []) (hl : args.toList.map (tev tm) = l) (he : l.mapM (er 3) = some vals) (hs0 : ∀ h, aV P g = false ∧ xslow P g vals h = some (v, h, none)) (hi : nN 3 v = true) (hp1 : inj 3 v = p) :
    OpG C P { dst:=dst,op:=.call { callee:=.value fo,args:=args,argTypes:=tys },type:=ty,pos:=pos,after:=aft,guard:=gd } ⟨tm,hp⟩ ⟨tput tm dst p,hp⟩:=by
 subst hp1
 intro h0 Fz L vm h hs
 have hfv:=fV hs.fz hs.tmr fo
 rw[show tev (TS.mk tm hp).tm fo=_ from hf] at hfv
 obtain⟨f',c',hfe,vf,vc⟩:∃ f' c',ev vm fo = .func (.func g) ⟨f'⟩ ⟨c'⟩∧VLs Fz h noL [] f'∧VLs Fz h noL [] c':=by
  generalize ev vm fo=y at *
  cases hfv with
  | func _ _ _ _ a' b' la ha lb hb=>exact⟨a',b',rfl,⟨la,ha⟩,⟨lb,hb⟩⟩
 have hf0:f'=[]:=by have:=vf.len;simpa using this
 have hc0:c'=[]:=by have:=vc.len;simpa using this
 subst hf0 hc0
 have hargs:=zU hs.fz hs.tmr args.toList
 rw[show args.toList.map (tev (TS.mk tm hp).tm)=l from hl] at hargs
 obtain⟨q1,q2⟩:=xU he
 have hve:args.toList.map (ev vm)=vals:=by
  apply List.ext_getElem?
  intro j
  cases hx:(args.toList.map (ev vm))[j]? with
  | none =>
   rw[List.getElem?_eq_none_iff] at hx
   rw[eq_comm,List.getElem?_eq_none_iff]
   have:=hargs.len
   omega
  | some x =>
   have hj:=(List.getElem?_eq_some_iff.1 hx).1
   have hll:=hargs.len
   have hp':l[j]?=some l[j]:=List.getElem?_eq_getElem (by omega)
   have hy:vals[j]?=some vals[j]:=List.getElem?_eq_getElem (by omega)
   rw[hy,VL.er 3 (q2 j _ _ hp' hy) (hargs.at' j _ _ hp' hx)]
 obtain⟨hg,hx⟩:=hs0 h
 refine⟨rfl,v,h,?_,Ext.refl h,Fz,L,Grow.refl _ _,hs.put dst (VL.inj 3 hi)⟩
 simp only[xop,hop,bhop]
 rw[Hr]
 simp only[hfe]
 rw[if_neg (by rw[hg];exact Bool.false_ne_true)]
 simp only[List.nil_append,List.append_nil,hve]
 exact hx
theorem Zi {fo : Operand} {g : FuncId} {args : Array Operand} {tys : Array TypeId} {F : Array Value → Sem Value} {l : List TV} {vals : List Value} {v : Value} (hf : tev tm fo = .func g [] []) (hF : Ej P g = some F) (hl : args.toList.map (tev tm) = l) (he : l.mapM (er 3) = some vals) (hc : vals.all cH = true) (hv : prun P (F ⟨vals⟩) = some v) (hcv : cJ v = true) (hi : nN 3 v = true) (hp1 : inj 3 v = p) :
    OpG C P { dst:=dst,op:=.call { callee:=.value fo,args:=args,argTypes:=tys },type:=ty,pos:=pos,after:=aft,guard:=gd } ⟨tm,hp⟩ ⟨tput tm dst p,hp⟩:=Zu hf hl he (fun h=>Vl hF hc hv hcv h) hi hp1
theorem TO.ex {fo : Operand} {g : FuncId} {args : Array Operand} {tys : Array TypeId} {F : Array Value → Sem Value} {l : List TV} {vals : List Value} {v : Value} (hw : twant ops tm { dst := dst, op := .call { callee := .value fo, args := args, argTypes := tys }, type := ty, pos := pos, after := aft, guard := gd } = some true) (hf : tev tm fo = .func g [] []) (hF : Ej P g = some F) (hl : args.toList.map (tev tm) = l) (he : l.mapM (er 3) = some vals) (hc : vals.all cH = true) (hv : prun P (F ⟨vals⟩) = some v) (hcv : cJ v = true) (hi : nN 3 v = true) (hp1 : inj 3 v = p)
    (ht:tput tm dst p=tm2) (hq:TO C P ops rest ⟨tm2,hp⟩ Q):TO C P ops ({ dst:=dst,op:=.call { callee:=.value fo,args:=args,argTypes:=tys },type:=ty,pos:=pos,after:=aft,guard:=gd }::rest) ⟨tm,hp⟩ Q:=by
 subst ht;exact TO.g hw (Zi hf hF hl he hc hv hcv hi hp1) hq
variable {x y:Operand} {t u:TypeId}
theorem zS{b:BinOp}{v w:Value}{r:Option Value}(he:prun P (eqGuard b t x y v w)=some ())(hw:prun P (binOp b t v w)=r):prun P (eqGuard b t x y v w >>= fun _=>binOp b t v w)=r:=by
 rw[aT,he,Option.bind_some,hw]
theorem wX{b:BinOp}{k k':FloatKind}{a d:Nat}:prun P (eqGuard b t x y (.float k a) (.float k' d))=some ():=by
 cases b<;>rfl
theorem gL{b:BinOp}{k:FloatKind}{a d:Nat}(h:tev tm x = .v (.float k a))(g:tev tm y = .v (.float k d))(hb:b = .eql∨b = .neq∨b = .lss∨b = .leq∨b = .gtr∨b = .geq):tpop P hp tm { dst:=dst,op:=.binOp b t x y u,type:=ty,pos:=pos,after:=aft,guard:=gd }=some (.v (.bool (fcmp b k a d))):=by
 refine Mm (r:=.bool (fcmp b k a d)) h g ?_ ?_ (.inl (zS wX ?_)) rfl
 ·simp[dC]
 ·rcases hb with rfl|rfl|rfl|rfl|rfl|rfl<;>simp[Gi]
 ·rcases hb with rfl|rfl|rfl|rfl|rfl|rfl<;>(simp[binOp,Op.floatCmp,fcmp];rfl)
def farith(op:BinOp)(k:FloatKind)(a b:Nat):Option Nat:=some (arN op k a b)
theorem Ss{b:BinOp}{k:FloatKind}{a d:Nat}(hb:b = .add∨b = .sub∨b = .mul∨b = .quo):prun P (Op.floatArith b k a d)=some (.float k (arN b k a d))∨prun P (Op.floatArith b k a d)=none:=by
 have e:prun P (Op.floatArith b k a d)=prun P (match farith0 b k a d with|some r=>pure (.float k r)|none=>do pure (.float k (← choose (.nanBits k a d))):Sem Value):=by
  rcases hb with rfl|rfl|rfl|rfl<;>rfl
 rw[e]
 unfold arN
 cases farith0 b k a d with
 | some r=>exact .inl rfl
 | none=>exact .inr rfl
theorem Ae{b:BinOp}{k:FloatKind}{a d r:Nat}(h:tev tm x = .v (.float k a))(g:tev tm y = .v (.float k d))(hb:b = .add∨b = .sub∨b = .mul∨b = .quo)(hr:farith b k a d=some r):tpop P hp tm { dst:=dst,op:=.binOp b t x y u,type:=ty,pos:=pos,after:=aft,guard:=gd }=some (.v (.float k r)):=by
 obtain rfl:=Option.some.inj hr
 refine Mm (r:=.float k (arN b k a d)) h g ?_ ?_ ?_ rfl
 ·simp[dC]
 ·rcases hb with rfl|rfl|rfl|rfl<;>simp[Gi]
 ·have e : binOp b t (.float k a) (.float k d) = Op.floatArith b k a d := by
    rcases hb with rfl|rfl|rfl|rfl<;>simp[binOp]
  rcases Ss (P:=P) (k:=k) (a:=a) (d:=d) hb with h1|h1
  ·exact .inl (zS wX (by rw[e];exact h1))
  ·exact .inr (zS wX (by rw[e];exact h1))
theorem Qs{k:FloatKind}{a:Nat}(h:tev tm x = .v (.float k a)):tpop P hp tm { dst:=dst,op:=.unOp .neg t x,type:=ty,pos:=pos,after:=aft,guard:=gd }=some (.v (.float k (Op.negFloat k a))):=by
 have h1:tgen P tm { dst:=dst,op:=.unOp .neg t x,type:=ty,pos:=pos,after:=aft,guard:=gd }=some (inj 3 (.float k (Op.negFloat k a))):=by
  refine pG (by simpa [Op.operands] using kY h) (El rfl ?_ (.inl ?_)) rfl
  ·show Xw .neg (erased tm x)=_
   rw[bX h]
   rfl
  ·show prun P (Op.unary .neg (erased tm x) >>= fun r=>(pure (Next.value r):Sem Next))=_
   rw[aT,bX h]
   rfl
 exact h1
def trI(way:Ieee.Toward)(b:Nat):Option Nat :=
 if gV .f64 b=true then some b else some (FloatKind.f64.encode ((FloatKind.f64.decode b).integral way))
theorem Xy{n:String}{way:Ieee.Toward}{b r:Nat}(hn:gV .f64 b=false)(h:trI way b=some r):prun P (Extern.MathFloor.toIntegral n way #[.float .f64 b])=some (.float .f64 r):=by
 unfold trI at h
 rw[hn] at h
 obtain rfl:=Option.some.inj h
 show prun P (match FloatKind.f64.decode b with
  | .nan s t=>if FloatKind.f64.format.quiet t=t then (pure (Value.float .f64 b):Sem Value) else do
   let kept ← choose (.extern "math.Floor,Ceil,Trunc,RoundToEven.signallingNaN kept" 2)
   pure (Value.float .f64 (if kept==1 then b else FloatKind.f64.encode (.nan s (FloatKind.f64.format.quiet t))))
  | d=>pure (Value.float .f64 (FloatKind.f64.encode (d.integral way))))=_
 have hr:=Qm hn
 split
 ·rename_i s t e;exact absurd e (hr s t)
 ·rfl
variable {fo:Operand} {g:FuncId} {args:Array Operand} {tyA:Array TypeId} {F:Array Value→Sem Value}
theorem yH{k:FloatKind}{b:Nat}(h:gV k b=false):[Value.float k b].all cH=true:=by
 have e:cH (.float k b)=(true&&!gV k b):=rfl
 rw[List.all_cons,List.all_nil,e,h]
 rfl
def fbits(k:FloatKind)(b:Nat):Option Int:=if gV k b=true then none else some ((b:Nat):Int)
theorem TO.fb {k : FloatKind} {ik : IntKind} {b : Nat} {n : Int} (hw : twant ops tm { dst := dst, op := .call { callee := .value fo, args := args, argTypes := tyA }, type := ty, pos := pos, after := aft, guard := gd } = some true) (hf : tev tm fo = .func g [] []) (hF : Ej P g = some F) (hl : args.toList.map (tev tm) = [.v (.float k b)]) (hb : fbits k b = some n) (hv : prun P (F ⟨[.float k b]⟩) = some (.int ik ((b : Nat) : Int)))
    (ht:tput tm dst (.v (.int ik n))=tm2) (hq:TO C P ops rest ⟨tm2,hp⟩ Q):TO C P ops ({ dst:=dst,op:=.call { callee:=.value fo,args:=args,argTypes:=tyA },type:=ty,pos:=pos,after:=aft,guard:=gd }::rest) ⟨tm,hp⟩ Q:=by
 unfold fbits at hb
 split at hb
 ·cases hb
 ·rename_i hn
  obtain rfl:=Option.some.inj hb
  exact TO.ex hw hf hF hl rfl (yH (Bool.eq_false_iff.2 hn)) hv rfl rfl rfl ht hq
def Ln(P:Program)(g:FuncId):Bool:=match P.funcs[g]? with
 | some fd=>Mp fd&&fd.body.isNone
 | none=>false
theorem Nk{b:Nat}(hA:Ln P g=true)(hn:gV .f64 b=true)(h:List Blk):aV P g=false∧xslow P g [.float .f64 b] h=some (.float .f64 b,h,none):=by
 unfold Ln at hA
 split at hA
 ·rename_i fd hfd
  simp only[Bool.and_eq_true] at hA
  obtain⟨h1,h2⟩:=hA
  have hb:fd.body=none:=by simpa using h2
  refine⟨by simp[aV,hfd,hb],?_⟩
  have hv:Ui P g [.float .f64 b]=none:=by
   unfold Ui
   rw[if_neg]
   simp only[List.all_cons,List.all_nil,cH,depth,clean,nW,hn]
   decide
  have hz:Fo fd=false:=by
   unfold Mp at h1
   simp only[Bool.and_eq_true,Bool.or_eq_true,beq_iff_eq] at h1
   unfold Fo
   rcases h1.1 with e|e|e<;>rw[e]<;>rfl
  simp only[xslow,hfd,hb,Qv,hv,Wn,hz,h1,hn,Bool.false_eq_true,if_false,if_true,ite_self]
 ·cases hA
theorem TO.tr {n : String} {way : Ieee.Toward} {b r : Nat} (hw : twant ops tm { dst := dst, op := .call { callee := .value fo, args := args, argTypes := tyA }, type := ty, pos := pos, after := aft, guard := gd } = some true) (hf : tev tm fo = .func g [] []) (hF : Ej P g = some (Extern.MathFloor.toIntegral n way)) (hA : Ln P g = true) (hl : args.toList.map (tev tm) = [.v (.float .f64 b)]) (hr : trI way b = some r)
    (ht:tput tm dst (.v (.float .f64 r))=tm2) (hq:TO C P ops rest ⟨tm2,hp⟩ Q):TO C P ops ({ dst:=dst,op:=.call { callee:=.value fo,args:=args,argTypes:=tyA },type:=ty,pos:=pos,after:=aft,guard:=gd }::rest) ⟨tm,hp⟩ Q:=by
 subst ht
 refine TO.g hw ?_ hq
 cases hn:gV .f64 b with
 | true =>
  have e:r=b:=by unfold trI at hr;rw[hn] at hr;exact (Option.some.inj hr).symm
  subst e
  exact Zu hf hl rfl (Nk hA hn) rfl rfl
 | false=>exact Zi hf hF hl rfl (yH hn) (Xy hn hr) rfl rfl rfl
end
end Go.Rex
namespace Go.Rex
open Go.RowKit
section
variable {P:Program} {tm:List TV} {hp:List TB}
variable {dst:Option Tmp} {ty:TypeId} {pos:String} {aft:Array Edge} {gd:Option (Nat×Bool)} {x y:Operand} {t u:TypeId}
theorem Lb{g:Bool}(h:mN P t=some g):prun P (isAgg t)=some g:=by
 unfold mN at h
 unfold isAgg
 rw[aT]
 split at h
 ·rename_i hu;rw[eW hu];exact h
 ·rename_i hu;rw[eW hu];exact h
 ·rename_i d h1 h2 hu
  rw[eW hu,Option.bind_some]
  obtain rfl:=Option.some.inj h
  split
  ·exact absurd rfl (h1 _)
  ·exact absurd rfl (h2 _ _)
  ·rfl
 ·cases h
theorem lD{cs:Array Value}{off:Nat}{v:Value}(h:mN P t=some false)(hg:cs[off]?=some v):prun P (part t cs off)=some v:=by
 unfold part
 rw[aT,Lb h,Option.bind_some]
 simp only[Bool.false_eq_true,if_false,hg]
 rfl
theorem Eq{d:Nat}{k:IntKind}{a b:Int}(ht:P.underlying t=some (.int k)):prun P (Op.equalIn (d+1) t (.int k a) (.int k b))=some (a==b):=by
 unfold Op.equalIn
 rw[aT,eW ht]
 simp
 rfl
inductive EqF (P:Program) (d:Nat) (X Y:Array Value):List Field→List Bool→Prop
 | nil:EqF P d X Y [] []
 | cons {f : Field} {fs : List Field} {b : Bool} {bs : List Bool} {u v : Value} (hn : f.name ≠ "_") (hu : prun P (part f.type X f.offset) = some u) (hv : prun P (part f.type Y f.offset) = some v) (he : prun P (Op.equalIn d f.type u v) = some b) (hr : EqF P d X Y fs bs) : EqF P d X Y (f :: fs) (b :: bs)
theorem Mn {d : Nat} {X Y : Array Value} : ∀ (fs : List Field) (bs : List Bool), EqF P d X Y fs bs →
    prun P (forIn fs ((none, ()) : Option Bool × Unit) fun f _ => if f.name ≠ "_" then do
     if !(← Op.equalIn d f.type (← part f.type X f.offset) (← part f.type Y f.offset)) then pure (.done (some false,())) else pure (.yield (none,()))
     else pure (.yield (none,())))=some (if bs.all id then (none,()) else (some false,()))
 | [],[],.nil=>rfl
 | f::fs,b::bs,.cons hn hu hv he hr=>by
  rw[List.forIn_cons,aT]
  simp only[hn,ne_eq,not_false_eq_true,if_true]
  rw[aT,hu,Option.bind_some,aT,hv,Option.bind_some,aT,he,Option.bind_some]
  cases b with
  | false=>rfl
  | true =>
   simp only[Bool.not_true,Bool.false_eq_true,if_false,Nl,Option.bind_some,List.all_cons,id,Bool.true_and]
   exact Mn fs bs hr
theorem Cw{d:Nat}{fields:Array Field}{X Y:Array Value}{bs:List Bool}(ht:P.underlying t=some (.struct fields))(hs:P.stoodInHeld t=false)(hf:EqF P d X Y fields.toList bs):prun P (Op.equalIn (d+1) t (.agg X) (.agg Y))=some (bs.all id):=by
 unfold Op.equalIn
 rw[aT,eW ht]
 simp only[Option.bind_some]
 rw[aT,show prun P program=some P from rfl,Option.bind_some]
 simp only[hs,Bool.false_eq_true,if_false]
 have:=Mn fields.toList bs hf
 rw[aT,← Array.forIn_toList,this,Option.bind_some]
 cases bs.all id<;>rfl
theorem Ry{b:BinOp}{X Y:Array Value}(hg:P.eqGuardType P.depth t=false):prun P (eqGuard b t x y (.agg X) (.agg Y))=some ():=by
 unfold eqGuard
 cases b<;>first|rfl|(simp only[Bool.not_true,Bool.false_eq_true,if_false];rw[aT,show prun P program=some P from rfl,Option.bind_some,aT,show prun P program=some P from rfl,Option.bind_some];simp only[hg,Bool.not_false,if_true];rfl)
theorem Sr{a b:Value}{r:Bool}(h:prun P (Op.equalIn (9999+1) t a b)=some r):prun P (Op.equal t a b)=some r:=h
theorem Lp {b : BinOp} {p q : TV} {X Y : Array Value} {r : Bool} (h : tev tm x = p) (g : tev tm y = q) (hX : er 3 p = some (.agg X)) (hY : er 3 q = some (.agg Y)) (cX : cH (.agg X) = true) (cY : cH (.agg Y) = true) (hn : tbin b p q = none) (hg : P.eqGuardType P.depth t = false)
    (he:prun P (Op.equal t (.agg X) (.agg Y))=some r) (hb:b = .eql∨b = .neq) :
    tpop P hp tm { dst:=dst,op:=.binOp b t x y u,type:=ty,pos:=pos,after:=aft,guard:=gd }=some (.v (.bool (if b = .eql then r else !r))):=by
 have ex:erased tm x = .agg X:=by unfold erased;rw[h,hX];rfl
 have ey:erased tm y = .agg Y:=by unfold erased;rw[g,hY];rfl
 have sx:(er 3 (tev tm x)).isSome=true:=by rw[h,hX];rfl
 have sy:(er 3 (tev tm y)).isSome=true:=by rw[g,hY];rfl
 have h1:tgen P tm { dst:=dst,op:=.binOp b t x y u,type:=ty,pos:=pos,after:=aft,guard:=gd }=some (inj 3 (.bool (if b = .eql then r else !r))):=by
  refine wP ?_ (fun cs b e=>by cases e) (by simpa [Op.operands] using ⟨sx,sy⟩) (by simpa [Op.operands,ex,ey] using ⟨cX,cY⟩) ?_ rfl rfl
  ·simp only[Rex.pop0,ex,ey]
   rcases hb with rfl|rfl<;>rfl
  ·show prun P ((eqGuard b t x y (erased tm x) (erased tm y) >>= fun _=>binOp b t (erased tm x) (erased tm y)) >>= fun r=>(pure (Next.value r):Sem Next))=_
   rw[aT,ex,ey,aT,Ry hg,Option.bind_some]
   rcases hb with rfl|rfl
   ·simp only[binOp,if_true]
    rw[aT,he]
    rfl
   ·simp only[binOp]
    rw[aT,he]
    rfl
 simp only[tpop,h,g,hn,orT]
 exact h1
theorem Ak {b : BinOp} {p q : TV} {X Y : Array Value} {r : Bool} (h : tev tm x = p) (g : tev tm y = q) (hX : er 3 p = some (.agg X)) (hY : er 3 q = some (.agg Y)) (cX : cH (.agg X) = true) (cY : cH (.agg Y) = true) (hn : tbin b p q = none) (hg : P.eqGuardType P.depth t = false)
    (he:prun P (Op.equal t (.agg X) (.agg Y))=some r) (hb:b = .eql) :
    tpop P hp tm { dst:=dst,op:=.binOp b t x y u,type:=ty,pos:=pos,after:=aft,guard:=gd }=some (.v (.bool r)):=by
 subst hb
 exact Lp h g hX hY cX cY hn hg he (.inl rfl)
theorem Ra {b : BinOp} {p q : TV} {X Y : Array Value} {r : Bool} (h : tev tm x = p) (g : tev tm y = q) (hX : er 3 p = some (.agg X)) (hY : er 3 q = some (.agg Y)) (cX : cH (.agg X) = true) (cY : cH (.agg Y) = true) (hn : tbin b p q = none) (hg : P.eqGuardType P.depth t = false)
    (he:prun P (Op.equal t (.agg X) (.agg Y))=some r) (hb:b = .neq) :
    tpop P hp tm { dst:=dst,op:=.binOp b t x y u,type:=ty,pos:=pos,after:=aft,guard:=gd }=some (.v (.bool (!r))):=by
 subst hb
 exact Lp h g hX hY cX cY hn hg he (.inr rfl)
end
end Go.Rex
namespace Go.Rex
open Go.RowKit
class Mv (p:Prop) (q:outParam Prop):Prop where
 mv:q→p
theorem mv{p q:Prop}[i:Mv p q](h:q):p:=i.mv h
section
variable {C:Ctx} {P:Program} {s:TS} {Q:Exit→TS→Prop} {next:TS→Prop}
instance {x y:Code}:Mv (TX C P (.seq x y) s Q) (TX C P x s (Ht (fun s=>TX C P y s Q) Q)):=⟨TX.seq⟩
instance {id:Nat} {b:Code}:Mv (TX C P (.block id b) s Q) (TX C P b s (nQ id Q)):=⟨TX.block⟩
instance:Mv (TX C P .skip s Q) (Q .normal s):=⟨TX.skip⟩
instance {id:Nat}:Mv (TX C P (.exit id) s Q) (Q (.exit id) s):=⟨TX.exit⟩
instance:Mv (TX C P .ret s Q) (Q .ret s):=⟨TX.ret⟩
instance:Mv (Ht next Q .normal s) (next s):=⟨Xq⟩
instance {id:Nat}:Mv (Ht next Q (.exit id) s) (Q (.exit id) s):=⟨Yb⟩
instance:Mv (Ht next Q .ret s) (Q .ret s):=⟨Yp⟩
instance {id:Nat}:Mv (nQ id Q .normal s) (Q .normal s):=⟨Qw⟩
instance {id:Nat}:Mv (nQ id Q .ret s) (Q .ret s):=⟨Rl⟩
instance {id:Nat}:Mv (nQ id Q (.exit id) s) (Q .normal s):=⟨Qt⟩
end
def m12:=@Qc
theorem k1{a:Bool}(h:a=true):a=true:=h
theorem k2{a:Option Bool}(h:a=some true):a=some true:=h
def an{p q:Prop}:=@And.intro p q
def z6:=And.intro @List.toList_toArray.{0} <| And.intro @ite_true.{1} <| And.intro @ite_false.{1} <| And.intro @true_and <| And.intro @and_true <| And.intro @and_self <| And.intro @Bool.false_eq_true <| And.intro @decide_true @decide_false
def z7:=And.intro @List.getElem?_toArray.{0} <| And.intro @List.getElem?_cons_succ.{0} <| And.intro @List.getElem?_cons_zero.{0} @Option.bind_some.{0,0}
def zy:=And.intro z1 <| And.intro z2 z3
def zz:=And.intro z1 <| And.intro z2 <| And.intro z3 <| And.intro z4 z6
theorem wr{tm tm':List TV}{hp hp':List TB}(fl:List (Option Nat))(hok:yJ fl=true)(hB:RB fl hp hp' fl)(hT:RNs fl tm tm':=by (repeat (first|exact RNs.nil|refine RNs.cons .junk ?_|refine RNs.cons (.keep rfl rfl) ?_|refine RNs.cons (.lsl rfl rfl) ?_|refine RNs.cons (.lsl rfl (by simp only[List.length_set])) ?_|refine RNs.cons (.lptr rfl) ?_|refine RNs.cons (.nil rfl) ?_|refine RNs.cons .nl ?_|refine RNs.cons (.tuple' ?_) ?_|refine RNs.cons (.agg' ?_) ?_))):Wk ⟨tm,hp⟩ ⟨tm',hp'⟩:=Wk.ren fl hok hB hT
theorem rv{fl:List (Option Nat)}{hp:List TB}{n:Nat}{row row':List TV}{hp':List TB}{l:List (Option Nat)}(h:RB fl hp hp' l)(hb:hp[n]?=some (.var row))(hr:RNs fl row row':=by (repeat (first|exact RNs.nil|refine RNs.cons .junk ?_|refine RNs.cons (.keep rfl rfl) ?_|refine RNs.cons (.lsl rfl rfl) ?_|refine RNs.cons (.lsl rfl (by simp only[List.length_set])) ?_|refine RNs.cons (.lptr rfl) ?_|refine RNs.cons (.nil rfl) ?_|refine RNs.cons .nl ?_|refine RNs.cons (.tuple' ?_) ?_|refine RNs.cons (.agg' ?_) ?_))):RB fl hp (.var row'::hp') (some n::l):=.var h hb hr
section
variable {C:Ctx} {P:Program} {ops:Array Oper} {rest:List Oper} {tm tm2:List TV} {hp:List TB} {Q:TS→Prop}
variable {dst:Option Tmp} {ty:TypeId} {pos:String} {aft:Array Edge} {gd:Option (Nat×Bool)} {ms:List Nat} {i:Nat} {np:List Nat} {c:Nat}
theorem bmG {α : Type} {f : α → List TV} {xs : List α} {t : TypeId} {n es : Nat} {ps : Array (Nat × Operand)} {l : List (Nat × TV)} {rows : List (List TV)} (hx : ps.toList.map (fun q => (q.1, tev tm q.2)) = l) (hv : tslice P t n l = some (es, rows)) (hr : rows = xs.map f) :
    OpG C P { dst:=dst,op:=.buildSlice t n ps,type:=ty,pos:=pos,after:=aft,guard:=gd } ⟨tm,hp⟩ ⟨tput tm dst (.list es (xs.map f)),hp⟩:=by
 subst hr
 exact OpG.buildSlice (s:=⟨tm,hp⟩) (by simp only[hx];exact hv)
theorem TO.bm {α : Type} (f : α → List TV) (xs : List α) {t : TypeId} {n es : Nat} {ps : Array (Nat × Operand)} {l : List (Nat × TV)} {rows : List (List TV)} (hw : twant ops tm { dst := dst, op := .buildSlice t n ps, type := ty, pos := pos, after := aft, guard := gd } = some true) (hx : ps.toList.map (fun q => (q.1, tev tm q.2)) = l) (hv : tslice P t n l = some (es, rows)) (hr : rows = xs.map f)
    (ht:tput tm dst (.list es (xs.map f))=tm2) (hq:TO C P ops rest ⟨tm2,hp⟩ Q):TO C P ops ({ dst:=dst,op:=.buildSlice t n ps,type:=ty,pos:=pos,after:=aft,guard:=gd }::rest) ⟨tm,hp⟩ Q:=by
 subst ht;exact TO.g hw (bmG hx hv hr) hq
theorem TD.bm {α : Type} (f : α → List TV) (xs : List α) {t : TypeId} {n es : Nat} {ps : Array (Nat × Operand)} {l : List (Nat × TV)} {rows : List (List TV)} (hw : twant ops tm { dst := dst, op := .buildSlice t n ps, type := ty, pos := pos, after := aft, guard := gd } = some true) (hx : ps.toList.map (fun q => (q.1, tev tm q.2)) = l) (hv : tslice P t n l = some (es, rows)) (hr : rows = xs.map f)
    (ht:tput tm dst (.list es (xs.map f))=tm2) (hq:TD C P ops ms rest (i+1) (i::np) 0 ⟨tm2,hp⟩ Q):TD C P ops ms ({ dst:=dst,op:=.buildSlice t n ps,type:=ty,pos:=pos,after:=aft,guard:=gd }::rest) i np 0 ⟨tm,hp⟩ Q:=by
 subst ht;exact TD.g hw (bmG hx hv hr) hq
end
end Go.Rex
namespace Go.Rex
open Go.RowKit
theorem Jx{α:Type}{f:α→List TV}{xs:List α}{u:α}{es k fo:Nat}{P:Program}{p:TV}{t:TypeId}(hf:∀ a,(f a).length=es)(hk:xs[k]?=some u)(hp:dW P t (f u) fo=some p):dW P t ((xs.map f).flatten) (k*es+fo)=some p:=by
 obtain⟨h1,h2⟩:=Uj hf hk
 unfold dW at hp ⊢
 split at hp
 ·rename_i ha
  split at hp
  ·rename_i hc
   obtain⟨ho,hle⟩:=hc
   rw[hf] at hle
   obtain rfl:=Option.some.inj hp
   rw[if_pos ⟨ho,by omega⟩,← h1,List.drop_take,List.take_take,List.drop_drop,Nat.min_eq_left (by omega)]
  ·cases hp
 ·have hlt:=(List.getElem?_eq_some_iff.1 hp).1
  rw[hf] at hlt
  rw[← h1,List.getElem?_take,if_pos hlt,List.getElem?_drop] at hp
  exact hp
 ·cases hp
theorem Lj{α:Type}{f:α→List TV}{xs:List α}{u:α}{es fo off:Nat}{P:Program}{hp:List TB}{p:TV}{t:TypeId}{iv:Int}{row:List TV}{vb:Bool}(hg:fR xs iv=some u)(hc:row=(xs.map f).flatten)(hf:∀ a,(f a).length=es)(hoff:off=0+iv.toNat*es+fo)(hpp:dW P t (f u) fo=some p):tload P hp t (.fptr vb row off)=some p:=by
 subst hoff hc
 simp only[tload,fB,Nat.zero_add]
 exact Jx hf (pQ hg) hpp
section
variable {C:Ctx} {P:Program} {ops:Array Oper} {rest:List Oper} {tm tm2:List TV} {hp hp2:List TB} {Q:TS→Prop} {o:Oper}
variable {dst:Option Tmp} {ty:TypeId} {pos:String} {aft:Array Edge} {gd:Option (Nat×Bool)} {p q:TV} {ms:List Nat} {i:Nat} {np:List Nat} {c:Nat}
end
inductive EqI (P:Program) (d:Nat) (X Y:Array Value) (e n:Nat):Nat→List Bool→Prop
 | nil (i:Nat):EqI P d X Y e n i []
 | cons {i:Nat} {b:Bool} {bs:List Bool} {u v:Value} (hu:prun P (part e X (i*n))=some u) (hv:prun P (part e Y (i*n))=some v) (he:prun P (Op.equalIn d e u v)=some b) (hr:EqI P d X Y e n (i+1) bs):EqI P d X Y e n i (b::bs)
def xP(s:ByteArray)(i:Int):Option Int:=if 0≤i then (s[i.toNat]?).map fun b=>((b.toNat:Nat):Int) else none
section
variable {P:Program} {tm:List TV} {hp:List TB} {dst:Option Tmp} {ty:TypeId} {pos:String} {aft:Array Edge} {gd:Option (Nat×Bool)}
theorem lJ{t:TypeId}{x y:Operand}{s:ByteArray}{k:IntKind}{iv r:Int}(h:tev tm x = .v (.string s))(g:tev tm y = .v (.int k iv))(ht:P.underlying t=some .string)(hr:xP s iv=some r):tpop P hp tm { dst:=dst,op:=.index t x y,type:=ty,pos:=pos,after:=aft,guard:=gd }=some (.v (.int .u8 r)):=by
 have h1:tgen P tm { dst:=dst,op:=.index t x y,type:=ty,pos:=pos,after:=aft,guard:=gd }=some (.v (.int .u8 r)):=by
  refine wP (v:=.int .u8 r) ?_ (fun cs b e=>by cases e) (by simpa [Op.operands] using ⟨kY h,kY g⟩) (by simp[Op.operands,bX h,bX g,cJ];exact⟨rfl,rfl⟩) ?_ rfl rfl
  ·simp only[Rex.pop0,bX h,bX g,zZ,ht,mG]
  ·show prun P ((Instr.index t (erased tm x) (erased tm y)) >>= fun r=>(pure (Next.value r):Sem Next))=_
   rw[aT,bX h,bX g]
   unfold Instr.index
   unfold xP at hr
   rw[aT,show prun P (asIntOf (.int k iv))=some (k,iv) from rfl,Option.bind_some]
   simp only
   rw[aT,eW ht,Option.bind_some]
   simp only
   split at hr
   ·rename_i hi
    simp only[hi,if_true]
    rw[Option.map_eq_some_iff] at hr
    obtain⟨b,hb,rfl⟩:=hr
    rw[hb]
    rfl
   ·cases hr
 simp only[tpop,h,g,tindex,kS,ht,orT]
 exact h1
end
end Go.Rex
namespace Go.Rex
open Go.RowKit
end Go.Rex
namespace Go.Rex
open Go.RowKit
def Keeps(h h':List Blk):Prop:=h.length≤h'.length∧∀ m:Nat,h[m]?=some Blk.dfr→h'[m]?=some Blk.dfr
section
variable {P:Program} {C:Ctx}
structure CKeeps(C:Ctx):Prop where
 call:∀ {f args h v h' w},C.call f args h=some (v,h',w)→Keeps h h'
 round:∀ {l args h v h' w},C.round l args h=some (v,h',w)→Keeps h h'
end
end Go.Rex
namespace Go.Rex
open Go.RowKit
section
variable {Fz Fz':Nat→Prop} {h0 h h':List Blk} {L:Nat→LI} {s s':TS} {tm:List Value}
end
section
variable {C:Ctx} {P:Program} {s s':TS} {Q Q':Exit→TS→Prop}
end
end Go.Rex
namespace Go.Rex
open Go.RowKit
structure Out(X:Type) where
 lo:Nat
 base:Nat
 R:X→(Nat→Prop)→List Blk→Prop
 hlo:lo≤base
 stay:∀ {x:X} {Fz Fz':Nat→Prop} {h h':List Blk},R x Fz h→Ext h h'→Grow h Fz Fz' h h'→(FZ Fz' h')→R x Fz' h'
section
variable {E X:Type} {C:Ctx} {P:Program} {O:Out X}
variable {tm tm':List TV} {s s':TS} {x:X} {Q Q':Exit→List TV→X→Prop} {c:Code}
structure Back(o:Oper)(f:Operand)(args:List Operand)(dst:Option Tmp):Prop where
 eq:∃(tys:Array TypeId) (ty:TypeId) (pos:String) (aft:Array Edge) (gd:Option (Nat×Bool)),o={ dst:=dst,op:=.call { callee:=.value f,args:=⟨args⟩,argTypes:=tys },type:=ty,pos:=pos,after:=aft,guard:=gd }
section
variable {nexty:List TV→X→Prop}
end
end
end Go.Rex
namespace Go.Rex
open Go.RowKit
def odsts:List Oper→List Nat
 | []=>[]
 | o::l=>match o.dst with
  | some d=>d::odsts l
  | none=>odsts l
def cdsts:Code→List Nat
 | .seq x y=>cdsts x++cdsts y
 | .cond _ x y=>cdsts x++cdsts y
 | .block _ b=>cdsts b
 | .loop b=>cdsts b
 | .region _ ops _=>odsts ops.toList
 | _=>[]
section
variable {P:Program} {C:Ctx}
end
end Go.Rex
namespace Go.Rex
open Go.RowKit
section
variable {Fz Fz':Nat→Prop} {h0 h h':List Blk} {L:Nat→LI} {s s':TS} {tm:List Value}
end
section
variable {P:Program}
variable {s:TS} {Q:Exit→TS→Prop}
end
end Go.Rex
namespace Go.Rex
open Go.RowKit
section
variable {C:Ctx} {P:Program} {tm tm2:List TV} {hp:List TB} {ops:Array Oper} {rest:List Oper} {Q:TS→Prop}
variable {dst:Option Tmp} {ty:TypeId} {pos:String} {aft:Array Edge} {gd:Option (Nat×Bool)} {x y:Operand} {t u:TypeId}
open Classical in
end
end Go.Rex
namespace Go.Rex
open Go.RowKit
section
variable {C:Ctx} {P:Program} {Fz:Nat→Prop} {h h0:List Blk} {L:Nat→LI} {s:TS} {tm:List Value}
variable {dst:Option Tmp} {ty:TypeId} {pos:String} {aft:Array Edge} {gd:Option (Nat×Bool)}
end
def aAw{α:Type}(xs:List α)(k:Int):Option Nat:=if 0≤k∧k≤xs.length∧0<xs.length then some k.toNat else none
section
variable {C:Ctx} {P:Program} {ops:Array Oper} {rest:List Oper} {tm tm2:List TV} {hp hp2:List TB} {Q:TS→Prop} {o:Oper}
variable {dst:Option Tmp} {ty:TypeId} {pos:String} {aft:Array Edge} {gd:Option (Nat×Bool)} {p q:TV} {ms:List Nat} {i:Nat} {np:List Nat} {c:Nat}
end
section
variable {C:Ctx} {P:Program} {tm tm2:List TV} {hp hp2:List TB} {Q:Exit→TS→Prop} {c:Code}
end
end Go.Rex
