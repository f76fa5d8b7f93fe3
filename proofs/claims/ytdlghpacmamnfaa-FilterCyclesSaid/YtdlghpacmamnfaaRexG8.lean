/- An executor of the program's functions on trees of values,proved sound. -/
import Derived.Test.YtdlghpacmamnfaaRexG7
import Derived.IntWalk
set_option linter.unusedSimpArgs false
set_option linter.unusedVariables false
set_option linter.defProp false
namespace Go.Rex
open Go.RowKit
section
variable {P:Program} {Fz:Nat→Prop} {h h0:List Blk} {L:Nat→LI}
theorem kK:∀ {rows:List (List TV)} {es:Nat},(∀ r∈rows,r.length=es)→∀ {i j:Nat} {row:List TV},rows[i]?=some row→j<es→rows.flatten[i*es+j]?=row[j]?
 | [],es,_,i,j,row,hr,_=>by simp at hr
 | r::rows,es,hw,0,j,row,hr,hj=>by
  simp at hr
  subst hr
  have:=hw r (by simp)
  simp only[List.flatten_cons,Nat.zero_mul,Nat.zero_add]
  rw[b4 (by omega)]
 | r::rows,es,hw,i+1,j,row,hr,hj=>by
  have h1:=hw r (by simp)
  simp only[List.getElem?_cons_succ] at hr
  simp only[List.flatten_cons]
  rw[b7 (by rw[h1,Nat.succ_mul];omega),h1,show (i+1)*es+j-es=i*es+j by rw[Nat.succ_mul];omega]
  exact kK (fun r hr=>hw r (by simp[hr])) hr hj
theorem cL:∀ {rows:List (List TV)} {es:Nat},(∀ r∈rows,r.length=es)→rows.flatten.length=rows.length*es
 | [],es,_=>by simp
 | r::rows,es,hw=>by
  simp only[List.flatten_cons,List.length_append,List.length_cons,Nat.succ_mul]
  rw[hw r (by simp),cL (fun r hr=>hw r (by simp[hr]))]
  omega
theorem mG{t:TypeId}{l:List TV}{l':List Value}(hs:VLs Fz h L l l'){o:Nat}{p:TV}(hp:cM P t l o=some p):∃ v,qC P t l' o=some v∧VL Fz h L p v:=by
 unfold cM at hp
 unfold qC
 split at hp
 ·rename_i hg
  split at hp
  ·rename_i hc
   obtain rfl:=a6 hp
   rw[hg]
   simp only
   rw[b8 (show (P.info? t).isSome=true from hc.1)]
   exact⟨_,rfl,.agg' (hs.extract _ _)⟩
  ·cases hp
 ·rename_i hg
  rw[hg]
  exact hs.at hp
 ·cases hp
theorem uE{hpp:List TB}{tm:List TV}{vm:List Value}(hz:FZ Fz h)(hs:VLs Fz h L tm vm)(hB:∀ n es rows,hpp[n]?=some (.rows es rows)→(L n).es=es){o:Oper}{p:TV}(hp:tpop P hpp tm o=some p):∃ v,Rex.pop P (ev vm) o=some v∧VL Fz h L p v:=by
 have hgen:∀ {p},tgen P tm o=some p→∃ v,Rex.pop P (ev vm) o=some v∧VL Fz h L p v:=fun hp=>uT hz hs hp
 obtain⟨dst,op,ty,pos,after,guard⟩:=o
 have ht:=fun x=>bQ hz hs x
 have hor:∀ {a b:Option TV} {p},orT a b=some p→a=some p∨b=some p:=by
  intro a b p h
  cases a with
  | none=>exact .inr h
  | some x=>exact .inl h
 cases op<;>simp only[tpop] at hp<;>try exact hgen hp
 case move x=>obtain rfl:=a6 hp;exact⟨_,rfl,ht x⟩
 case assign x=>obtain rfl:=a6 hp;exact⟨_,rfl,ht x⟩
 case pick c a b =>
  unfold tpick at hp
  split at hp
  ·rename_i t hc
   have h1:=ht c
   rw[hc] at h1
   have h2:=h1.bool_inv
   simp only[Rex.pop,Rex.pop0,h2]
   cases t with
   | true=>obtain rfl:=a6 hp;exact⟨_,rfl,ht a⟩
   | false=>obtain rfl:=a6 hp;exact⟨_,rfl,ht b⟩
  ·cases hp
 case nilCheck x =>
  have h1:=ht x
  simp only[Rex.pop,Rex.pop0]
  generalize tev tm x=q at *
  generalize ev vm x=y at *
  split at hp
  ·obtain rfl:=a6 hp
   refine⟨y,?_,h1⟩
   cases h1;rfl
  ·obtain rfl:=a6 hp
   refine⟨y,?_,h1⟩
   cases h1;rfl
  ·obtain rfl:=a6 hp
   refine⟨y,?_,h1⟩
   cases h1;rfl
  ·cases hp
 case build t ps =>
  suffices H:∃ v,jT P t (bK (ev vm) ps)=some v∧VL Fz h L p v by
   obtain⟨v,k1,k2⟩:=H
   exact⟨v,vW k1,k2⟩
  refine qU (ps':=bK (ev vm) ps) ⟨by simp[bK],fun i p p' h1 h2=>?_⟩ hp
  simp only[bK,Array.toList_map,List.getElem?_map] at h1 h2
  cases hq:ps.toList[i]? with
  | none=>rw[hq] at h1;cases h1
  | some q =>
   rw[hq] at h1 h2
   simp only[Option.map_some,Option.some.injEq] at h1 h2
   subst h1 h2
   exact⟨rfl,ht q.2⟩
 case makeFunc fn first caps =>
  cases fn<;>simp only[] at hp<;>try (cases hp;done)
  rename_i f
  split at hp
  ·rename_i hc
   simp only[Bool.and_eq_true] at hc
   obtain rfl:=a6 hp
   refine⟨_,rfl,?_⟩
   have key:∀ xs:Array Operand,(xs.toList.all fun x=>lf 4 (tev tm x))=true→VLs Fz h noL (xs.toList.map (tev tm)) (xs.map (ev vm)).toList:=by
    intro xs hx
    refine⟨by simp,fun i p y h1 h2=>?_⟩
    simp only[Array.toList_map,List.getElem?_map] at h1 h2
    cases hq:xs.toList[i]? with
    | none=>rw[hq] at h1;cases h1
    | some q =>
     rw[hq] at h1 h2
     simp only[Option.map_some,Option.some.injEq] at h1 h2
     subst h1 h2
     exact (ht q).toNo 4 (by simpa using a8.1 hx q (b6 hq))
   have k1:=key first hc.1
   have k2:=key caps hc.2
   exact .func L f _ _ _ _ k1.len k1.at' k2.len k2.at'
  ·cases hp
 case extract t i =>
  split at hp
  ·rename_i l hl
   have h1:=ht t
   rw[hl] at h1
   simp only[Rex.pop,Rex.pop0]
   generalize ev vm t=y at *
   cases h1 with
   | tuple _ _ l' hl' ha =>
    have hi:=(a7.1 hp).1
    have hx:l'[i]?=some l'[i]:=b5 (by omega)
    exact⟨_,by simp only[hx],ha i p _ hp hx⟩
  ·cases hp
 case fieldAddr t x f =>
  unfold aE fD at hp
  have h1:=ht x
  simp only[Rex.pop,Rex.pop0,gX]
  split at hp
  ·rename_i off ft hf
   split at hf
   ·rename_i fields hu
    split at hf
    ·rename_i fd hfd
     split at hf
     ·rename_i hc
      obtain⟨rfl,rfl⟩:=Prod.mk.inj (a6 hf)
      generalize tev tm x=q at *
      generalize ev vm x=y at *
      split at hp
      ·obtain rfl:=a6 hp
       cases h1 with
       | fptr _ vb row' off' n base es cs hn hb hv hle ha =>
        simp only[hu,hfd]
        rw[b8 hc]
        exact⟨_,rfl,by rw[e7];exact .fptr L _ _ _ n base es cs hn hb hv hle ha⟩
      ·obtain rfl:=a6 hp
       cases h1 with
       | lptr _ n' r' o' nm ok hn =>
        simp only[hu,hfd]
        rw[b8 hc]
        exact⟨_,rfl,by rw[e7];exact .lptr L _ _ _ nm ok hn⟩
      ·cases hp
     ·cases hf
    ·cases hf
   ·cases hf
  ·cases hp
 case indexAddr t x ix =>
  unfold aD at hp
  have h1:=ht x
  have h2:=ht ix
  simp only[Rex.pop,Rex.pop0,gV]
  split at hp
  ·rename_i k i hix
   rw[hix] at h2
   have h3:=h2.bool_inv
   generalize tev tm x=q at *
   generalize ev vm x=y at *
   split at hp
   ·rename_i e he
    unfold cK at he
    split at he
    ·rename_i e' hu
     obtain rfl:=a6 he
     split at hp
     ·rename_i hok
      split at hp
      ·rename_i es rows
       split at hp
       ·rename_i hes
        obtain⟨row,hrow,rfl⟩:=b9.1 hp
        unfold tidx at hrow
        split at hrow
        ·rename_i h0
         have hlt:=(a7.1 hrow).1
         cases h1 with
         | nillist=>simp at hrow
         | vague=>simp at hrow
         | list _ _ _ n o c cs eb hn hb he hw hc hle ha =>
          simp only[hu,h3]
          rw[b8 ⟨h0,by omega,hok⟩]
          have hrl:=hw row (b6 hrow)
          refine⟨_,rfl,?_⟩
          rw[hes]
          have hmul:i.toNat*es+es≤rows.length*es:=by rw[← Nat.succ_mul];exact g0 _ hlt
          have:=VL.fptr (Fz:=Fz) (h:=h) L false row 0 n (o+i.toNat*es) eb cs hn hb (fun h=>by cases h) (by omega) (fun j p x hj hx=>by
           have hjl:=(a7.1 hj).1
           refine ha (i.toNat*es+j) p x ?_ (by rw[← e7];exact hx)
           rw[kK hw hrow (by omega)];exact hj)
          simpa using this
        ·cases hrow
       ·cases hp
      ·rename_i n o len
       split at hp
       ·rename_i es rows hbn
        split at hp
        ·rename_i hi
         obtain rfl:=a6 hp
         cases h1 with
         | lslnil=>simp at hi;omega
         | lsl _ _ _ _ nm ok hn hle =>
          simp only[hu,h3]
          rw[b8 ⟨hi.1,hi.2.1,hok⟩]
          refine⟨_,rfl,?_⟩
          have he:=hB _ _ _ hbn
          have:=VL.lptr (Fz:=Fz) (h:=h) L n (o+i.toNat) 0 nm ok hn
          rw[he] at this ⊢
          rw[hi.2.2,← Nat.add_mul]
          exact this
        ·cases hp
       ·cases hp
      ·cases hp
     ·cases hp
    ·cases he
   ·rename_i he
    split at hp
    ·rename_i n e ha
     unfold dL at ha
     split at ha
     ·rename_i n' e' hu
      obtain⟨rfl,rfl⟩:=Prod.mk.inj (a6 ha)
      split at hp
      ·rename_i hi
       split at hp
       ·obtain rfl:=a6 hp
        cases h1 with
        | fptr _ _ row off' nn base es cs hn hb hv hle hh =>
         simp only[hu,h3]
         rw[b8 (show 0≤i∧i<((n':Nat):Int)∧(P.info? e').isSome=true from hi)]
         exact⟨_,rfl,by rw[e7];exact .fptr L _ _ _ nn base es cs hn hb hv hle hh⟩
       ·obtain rfl:=a6 hp
        cases h1 with
        | lptr _ nn r o nm ok hn =>
         simp only[hu,h3]
         rw[b8 (show 0≤i∧i<((n':Nat):Int)∧(P.info? e').isSome=true from hi)]
         exact⟨_,rfl,by rw[e7];exact .lptr L _ _ _ nm ok hn⟩
       ·cases hp
      ·cases hp
     ·cases ha
    ·cases hp
  ·cases hp
 case field t x f =>
  unfold tfield fD at hp
  have h1:=ht x
  simp only[Rex.pop,Rex.pop0,qS]
  split at hp
  ·rename_i off ft row hf hx
   rw[hx] at h1
   generalize ev vm x=y at *
   split at hf
   ·rename_i fields hu
    split at hf
    ·rename_i fd hfd
     split at hf
     ·rename_i hc
      obtain⟨rfl,rfl⟩:=Prod.mk.inj (a6 hf)
      cases h1 with
      | agg _ _ l' hl ha =>
       simp only[hu,hfd]
       obtain⟨v,k1,k2⟩:=mG (P:=P) ⟨hl,ha⟩ hp
       exact⟨v,by simp only[k1],k2⟩
     ·cases hf
    ·cases hf
   ·cases hf
  ·cases hp
 case index t x ix =>
  rcases hor hp with hp|hp
  ·unfold tindex at hp
   have h1:=ht x
   have h2:=ht ix
   split at hp
   ·rename_i n e row k i ha hx hix
    rw[hx] at h1
    rw[hix] at h2
    have h3:=h2.bool_inv
    split at hp
    ·rename_i hi
     unfold dL at ha
     split at ha
     ·rename_i n' e' hu
      obtain⟨rfl,rfl⟩:=Prod.mk.inj (a6 ha)
      simp only[Rex.pop,Rex.pop0,h3]
      generalize ev vm x=y at *
      cases h1 with
      | agg _ _ l' hl hh =>
       obtain⟨v,h4,h5⟩:=mG (P:=P) ⟨hl,hh⟩ hp
       refine⟨v,?_,h5⟩
       simp only[qZ,hu]
       rw[b8 (show 0≤i∧i<((n':Nat):Int)∧(P.info? e').isSome=true from hi),h4]
       rfl
     ·cases ha
    ·cases hp
   ·cases hp
  ·exact hgen hp
 case call c =>
  obtain⟨callee,args,tys⟩:=c
  cases callee with
  | builtin b =>
   simp only at hp
   split at hp
   ·rename_i hb
    subst hb
    split at hp
    ·rename_i x hxs
     rcases hor hp with hp|hp
     ·unfold tlen at hp
      have h1:=ht x
      split at hp
      ·cases hp
      ·rename_i t htt
       split at hp
       ·cases hp
       ·rename_i e he
        unfold cK at he
        split at he
        ·rename_i e' hu
         simp only[Rex.pop,Rex.pop0,bpop,if_true,hxs]
         generalize tev tm x=q at *
         generalize ev vm x=y at *
         split at hp
         ·obtain rfl:=a6 hp
          cases h1 with
          | nillist=>exact⟨.int .i64 0,by simp[uD,htt,hu,fR],.v L _ rfl⟩
          | vague=>exact⟨.int .i64 0,by simp[uD,htt,hu,fR,vag],.v L _ rfl⟩
          | list _ _ _ n o c cs eb hn hb he hw hc hle ha=>exact⟨_,by simp only[uD,htt,hu,fR],.v L _ rfl⟩
         ·obtain rfl:=a6 hp
          cases h1 with
          | lslnil=>exact⟨.int .i64 0,by simp[uD,htt,hu,fR],.v L _ rfl⟩
          | lsl _ _ _ _ nm ok hn hle=>exact⟨_,by simp only[uD,htt,hu,fR],.v L _ rfl⟩
         ·cases hp
        ·cases he
     ·exact hgen hp
    ·cases hp
   ·exact hgen hp
  | _=>cases hp
 case binOp op t x y u =>
  rcases hor hp with hp|hp
  ·unfold tbin at hp
   split at hp
   ·rename_i a b hx hy
    obtain⟨r,hr,rfl⟩:=b9.1 hp
    have h1:=ht x
    have h2:=ht y
    rw[hx] at h1
    rw[hy] at h2
    have e1:=h1.bool_inv
    have e2:=h2.bool_inv
    refine⟨r,by simp[Rex.pop,Rex.pop0,e1,e2,hr,fR],.v L r ?_⟩
    unfold bE at hr
    split at hr
    ·split at hr
     ·cases op <;> simp only [] at hr <;> first
        | (cases hr;done)
        | (obtain rfl:=a6 hr;rfl)
        | (split at hr
           ·cases hr
           ·obtain rfl:=a6 hr;rfl)
     ·cases hr
    ·cases hr
   ·cases hp
  ·exact hgen hp
 all_goals first|(cases hp;done)|exact hgen hp
theorem St.es{s:TS}{tm:List Value}(hs:St h0 Fz L s tm h):∀ n es rows,s.hp[n]?=some (.rows es rows)→(L n).es=es:=fun n _ _ hb=>(hs.blk n _ hb).2.1
theorem OpP.of{o:Oper}{s:TS}{p:TV}(hp:tpop P s.hp s.tm o=some p):OpP P o s ⟨tput s.tm o.dst p,s.hp⟩:=by
 refine⟨rfl,fun h0 Fz L tm h hs=>?_⟩
 obtain⟨v,h1,h2⟩:=uE hs.fz hs.tmr hs.es hp
 exact⟨v,h1,hs.put o.dst h2⟩
end
end Go.Rex
namespace Go.Rex
open Go.RowKit
section
variable {C:Ctx} {P:Program} {Fz:Nat→Prop} {h h0:List Blk} {L:Nat→LI} {s:TS} {tm:List Value}
variable {dst:Option Tmp} {ty:TypeId} {pos:String} {aft:Array Edge} {gd:Option (Nat×Bool)}
def cP(hp:List TB):TV→Option (List TV×Nat)
 | .fptr _ row o=>some (row,o)
 | .lptr n r o=>match hp[n]? with
  | some (.rows _ rows)=>(rows[r]?).map fun row=>(row,o)
  | some (.var row)=>if r=0 then some (row,o) else none
  | _=>none
 | _=>none
theorem VLs.seg{l:List TV}{cs:List Value}{b:Nat}(hle:b+l.length≤cs.length)(ha:∀(j:Nat) p x,l[j]?=some p→cs[b+j]?=some x→VL Fz h L p x):VLs Fz h L l ((cs.drop b).take l.length):=by
 refine⟨by simp;omega,fun i p x hp hx=>?_⟩
 rw[i0,g7] at hx
 split at hx
 ·exact ha i p x hp hx
 ·cases hx
theorem mP(hs:St h0 Fz L s tm h){p:TV}{x:Value}(hp:VL Fz h L p x){row:List TV}{o:Nat}(hr:cP s.hp p=some (row,o)) :
 ∃ n b es cs,x = .pointer (some ⟨n,b+o,none⟩)∧h[n]?=some (.cells es cs)∧b+row.length≤cs.length∧VLs Fz h L row ((cs.drop b).take row.length):=by
 cases hp with
 | fptr _ vb row' off n base es cs hn hb hv hle ha =>
  obtain⟨rfl,rfl⟩:=Prod.mk.inj (a6 hr)
  exact⟨n,base,es,cs,rfl,hb,hle,VLs.seg hle fun j p x h1 h2=>(ha j p x h1 h2).ofNo⟩
 | lptr _ n r o' nm ok hn =>
  simp only[cP] at hr
  split at hr
  ·rename_i es rows hb
   obtain⟨row',hrow,he⟩:=b9.1 hr
   obtain⟨rfl,rfl⟩:=Prod.mk.inj he
   obtain⟨q1,q2,q3,q4,q5⟩:=hs.blk n _ hb
   rcases q5 with q5|⟨nm',cs,e1,e2,e3,e4,e5⟩
   ·rw[q5.1] at hn;cases hn
   ·rw[hn] at e1
    obtain rfl:=a6 e1
    have hlt:=(a7.1 hrow).1
    have hl:=q4 row' (b6 hrow)
    have hcl:cs.length=rows.length*es:=by rw[e5.len,cL q4]
    have hmul:r*es+es≤rows.length*es:=by rw[← Nat.succ_mul];exact g0 _ hlt
    rw[q2]
    refine⟨nm,r*es,es,cs,rfl,e4,by omega,VLs.seg (by omega) fun j p x h1 h2=>?_⟩
    have hjl:=(a7.1 h1).1
    exact (e5.at' (r*es+j) p x (by rw[kK q4 hrow (by omega)];exact h1) h2).ofNo
  ·rename_i row' hb
   split at hr
   ·rename_i h0'
    subst h0'
    obtain⟨rfl,rfl⟩:=Prod.mk.inj (a6 hr)
    obtain⟨q1,nm',cs,e1,e2,e3,e4,e5⟩:=hs.blk n _ hb
    rw[hn] at e1
    obtain rfl:=a6 e1
    refine⟨nm,0,0,cs,by simp,e4,by have:=e5.len;omega,?_⟩
    rw[List.drop_zero,f9 (by have:=e5.len;omega)]
    exact e5
   ·cases hr
  ·cases hr
 | _=>simp[cP] at hr
def tload(P:Program)(hp:List TB)(t:TypeId)(p:TV):Option TV:=
 match cP hp p with
 | some (row,o)=>cM P t row o
 | none=>none
theorem mN(hs:St h0 Fz L s tm h){t:TypeId}{p q:TV}{x:Value}(hp:VL Fz h L p x)(hl:tload P s.hp t p=some q):∃ n o v,x = .pointer (some ⟨n,o,none⟩)∧gM P t h n o=some v∧VL Fz h L q v:=by
 unfold tload at hl
 split at hl
 ·rename_i row o hr
  obtain⟨n,b,es,cs,rfl,hb,hle,hv⟩:=mP hs hp hr
  unfold cM at hl
  split at hl
  ·rename_i hg
   split at hl
   ·rename_i hc
    obtain rfl:=a6 hl
    obtain⟨hc1,hc2⟩:=hc
    obtain⟨i,hi⟩:=Option.isSome_iff_exists.1 hc1
    have hsz:P.cellsOf t=i.size:=by simp[Program.cellsOf,hi]
    rw[hsz] at hc2 ⊢
    refine⟨n,b+o,.agg ⟨(cs.drop (b+o)).take i.size⟩,rfl,?_,.agg' ?_⟩
    ·simp only[gM,hg,hi,aL,hb]
     rw[b8 (by omega)]
     rfl
    ·have:=hv.extract o i.size
     rw[List.drop_take,List.take_take,List.drop_drop,Nat.min_eq_left (by omega)] at this
     exact this
   ·cases hl
  ·rename_i hg
   obtain⟨v,h1,h2⟩:=hv.at hl
   rw[i0,g7] at h1
   split at h1
   ·exact⟨n,b+o,v,rfl,load1 hg hb h1,h2⟩
   ·cases h1
  ·cases hl
 ·cases hl
theorem OpG.load{t:TypeId}{a:Operand}{q:TV}(hl:tload P s.hp t (tev s.tm a)=some q):OpG C P { dst:=dst,op:=.load t a,type:=ty,pos:=pos,after:=aft,guard:=gd } s ⟨tput s.tm dst q,s.hp⟩:=by
 intro h0 Fz L tm h hs
 obtain⟨n,o,v,hx,hv,hq⟩:=mN hs (bQ hs.fz hs.tmr a) hl
 refine⟨rfl,v,h,?_,Ext.refl h,Fz,L,Grow.refl _ _,hs.put dst hq⟩
 simp only[xop,hop,hx,hv,Option.map_some]
def fB(L:Nat→LI)(k nm es tot:Nat):Nat→LI:=fun n=>if n=k then ⟨true,some nm,es,tot⟩ else L n
theorem nT(hs:St h0 Fz L s tm h){nm es tot:Nat}:∀ n,(L n).ok=true→fB L s.hp.length nm es tot n=L n:=fun n hn=>by
 have:=hs.dom n hn
 unfold fB
 rw[d5 (by omega)]
theorem aY{k nm es tot:Nat}:fB L k nm es tot k=⟨true,some nm,es,tot⟩:=by unfold fB;rw[b8 rfl]
theorem St.new(hs:St h0 Fz L s tm h){b:TB}{es tot:Nat}{cs:List Value}(hb:BR h0.length Fz (h++[.cells es cs]) (fB L s.hp.length h.length es tot) s.hp.length b) :
 St h0 Fz (fB L s.hp.length h.length es tot) ⟨s.tm,s.hp++[b]⟩ tm (h++[.cells es cs]):=by
 have hold:=nT hs (nm:=h.length) (es:=es) (tot:=tot)
 have hs1:=hs.heap (Ext.app h [.cells es cs]) (Fz':=Fz) (fun _ h=>h) (fun n hn=>.inl hn)
 have hlow:∀ n b nm,s.hp[n]?=some b→b.live=true→(L n).nm=some nm→nm<h.length:=by
  intro n b nm hb hlv hn
  have:=hs.blk n b hb
  cases b with
  | dead=>cases hlv
  | rows es rows =>
   obtain⟨-,-,-,-,h5⟩:=this
   rcases h5 with h5|⟨nm',cs,e1,e2,e3,e4,e5⟩
   ·rw[h5.1] at hn;cases hn
   ·rw[e1] at hn;obtain rfl:=a6 hn
    exact (a7.1 e4).1
  | var row =>
   obtain⟨-,nm',cs,e1,e2,e3,e4,e5⟩:=this
   rw[e1] at hn;obtain rfl:=a6 hn
   exact (a7.1 e4).1
  | tbl row =>
   obtain⟨-,nm',cs,e1,e2,e3,e4,e5⟩:=this
   rw[e1] at hn;obtain rfl:=a6 hn
   exact (a7.1 e4).1
 refine⟨hs1.tmr.own hold,?_,?_,?_,hs1.fz,hs1.ext⟩
 ·intro n b' hb'
  rcases d4 n s.hp.length with hlt|hge
  ·rw[b4 hlt] at hb'
   exact (hs1.blk n b' hb').own hold (by unfold fB;rw[d5 (by omega)])
  ·rw[b7 hge] at hb'
   have hlt:=(a7.1 hb').1
   simp only[List.length_singleton] at hlt
   obtain rfl:n=s.hp.length:=by omega
   simp at hb'
   subst hb'
   exact hb
 ·intro n hn
  simp only[List.length_append,List.length_singleton]
  unfold fB at hn
  split at hn
  ·omega
  ·have:=hs.dom n hn;omega
 ·intro n n' b1 b2 nm hb1 hb2 l1 l2 e1 e2
  have f:∀ n (b':TB),(s.hp++[b])[n]?=some b'→(n<s.hp.length∧s.hp[n]?=some b')∨n=s.hp.length:=by
   intro n b' hb'
   rcases d4 n s.hp.length with hlt|hge
   ·rw[b4 hlt] at hb';exact .inl ⟨hlt,hb'⟩
   ·rw[b7 hge] at hb'
    have hlt:=(a7.1 hb').1
    simp only[List.length_singleton] at hlt
    exact .inr (by omega)
  rcases f n b1 hb1 with⟨a1,a2⟩|rfl<;>rcases f n' b2 hb2 with⟨c1,c2⟩|rfl
  ·unfold fB at e1 e2
   rw[d5 (by omega)] at e1 e2
   exact hs.inj n n' b1 b2 nm a2 c2 l1 l2 e1 e2
  ·unfold fB at e1
   rw[d5 (by omega)] at e1
   rw[aY] at e2
   obtain rfl:=a6 e2
   have:=hlow n b1 _ a2 l1 e1
   omega
  ·unfold fB at e2
   rw[d5 (by omega)] at e2
   rw[aY] at e1
   obtain rfl:=a6 e1
   have:=hlow n' b2 _ c2 l2 e2
   omega
  ·rfl
theorem Ae{k nm es tot:Nat}:VL Fz h (fB L k nm es tot) (.lptr k 0 0) (.pointer (some ⟨nm,0,none⟩)):=by
 have:=VL.lptr (Fz:=Fz) (h:=h) (fB L k nm es tot) k 0 0 nm (by rw[aY]) (by rw[aY])
 simpa using this
theorem zU{k nm es tot:Nat}{len:Nat}(hl:len≤tot):VL Fz h (fB L k nm es tot) (.lsl k 0 len) (.slice (some ⟨nm,0,none⟩) len tot):=by
 have:=VL.lsl (Fz:=Fz) (h:=h) (fB L k nm es tot) k 0 len nm (by rw[aY]) (by rw[aY]) (by rw[aY];simpa using hl)
 rw[aY] at this
 simpa using this
theorem yA(hs:St h0 Fz L s tm h){row:List TV}{cs:List Value}(hv:VLs Fz h L row cs):BR h0.length Fz (h++[.cells 0 cs]) (fB L s.hp.length h.length 0 0) s.hp.length (.var row):=by
 have hold:=nT hs (nm:=h.length) (es:=0) (tot:=0)
 refine⟨by rw[aY],h.length,cs,by rw[aY],hs.ext.le,fun hf=>by have:=hs.fz _ hf;omega,by simp,(hv.own hold).mono (fun _ h=>h) (fun n hn=>?_)⟩
 have:=hs.fz n hn
 rw[b4 this]
theorem OpG.boxF{e:TypeId}{x:Operand}{p:TV}(hp:tev s.tm x=p)(hj:dH p=false)(hl:(tcells p).all (lf 4)=true):OpG C P { dst:=dst,op:=.box e x,type:=ty,pos:=pos,after:=aft,guard:=gd } s ⟨tput s.tm dst (.fptr true (tcells p) 0),s.hp⟩:=by
 intro h0 Fz L tm h hs
 subst hp
 have hv:=jB (bQ hs.fz hs.tmr x) hj
 have hx:=Ext.app h [Blk.cells (tK P e) (ev tm x).cells.toList]
 refine⟨rfl,_,_,rfl,hx,fun n=>Fz n∨n=h.length,L,⟨fun n hn=>.inl hn,fun n hn=>?_,(Grow.ext (h0:=h0) hs.fz hx).3⟩,?_⟩
 ·rcases hn with hn|rfl
  ·exact .inl hn
  ·exact .inr hs.ext.le
 ·refine (hs.heap hx (fun n hn=>.inl hn) (fun n hn=>?_)).put dst ?_
  ·rcases hn with hn|rfl
   ·exact .inl hn
   ·exact .inr (by simp)
  ·have := VL.fptr (Fz := fun n => Fz n ∨ n = h.length) (h := h ++ [Blk.cells (tK P e) (ev tm x).cells.toList]) L true (tcells (tev s.tm x)) 0 h.length 0 (tK P e) (ev tm x).cells.toList (.inr rfl) (by simp) (fun _ => rfl) (by have := hv.len; omega) (fun j p y h1 h2 => by
     rw[g6] at h2
     refine (VL.toNo 4 (by simpa using a8.1 hl p (b6 h1)) (hv.at' j p y h1 h2)).mono (fun n hn=>.inl hn) (fun n hn=>?_)
     have:=hs.fz n hn
     rw[b4 this])
   simpa using this
theorem OpG.alloc{e:TypeId}{z:List Value}(hz:eG P e=some z):OpG C P { dst:=dst,op:=.alloc e,type:=ty,pos:=pos,after:=aft,guard:=gd } s ⟨tput s.tm dst (.lptr s.hp.length 0 0),s.hp++[.var (z.map .v)]⟩:=by
 intro h0 Fz L tm h hs
 obtain⟨i,z0,hi,hz0,hcl,rfl,hsz,hat⟩:=fW hz
 refine⟨rfl,.pointer (some ⟨h.length,0,none⟩),h++[.cells (tK P e) z0.cells.toList],?_,Ext.app _ _,Fz,_,Grow.ext hs.fz (Ext.app _ _),(hs.new (yA hs (nX hat))).put dst Ae⟩
 simp only[xop,hop,hi,hz0,hcl,if_true,rJ,(oA hz).1,Bool.false_eq_true,if_false]
theorem xB(hs:St h0 Fz L s tm h){es:Nat}{rows:List (List TV)}{cs:List Value}(hw:∀ r∈rows,r.length=es)(hv:VLs Fz h noL rows.flatten cs):BR h0.length Fz (h++[.cells es cs]) (fB L s.hp.length h.length es rows.length) s.hp.length (.rows es rows):=by
 refine⟨by rw[aY],by rw[aY],by rw[aY],hw,.inr ⟨h.length,cs,by rw[aY],hs.ext.le,fun hf=>by have:=hs.fz _ hf;omega,by simp,hv.mono (fun _ h=>h) (fun n hn=>?_)⟩⟩
 have:=hs.fz n hn
 rw[b4 this]
end
end Go.Rex
namespace Go.Rex
open Go.RowKit
section
variable {C:Ctx} {P:Program} {Fz:Nat→Prop} {h h0:List Blk} {L:Nat→LI} {s:TS} {tm:List Value}
variable {dst:Option Tmp} {ty:TypeId} {pos:String} {aft:Array Edge} {gd:Option (Nat×Bool)}
def tparts(es:Nat):Nat→List (Nat×TV)→Option (List (List TV))
 | _,[]=>some []
 | i,(k,p)::l=>if k=i∧dH p=false∧(tcells p).length=es∧(tcells p).all (lf 4)=true then (tparts es (i+1) l).map fun r=>tcells p::r else none
theorem mV{es:Nat}:∀(ps:List (Nat×TV)) (ps':List (Nat×Value)) (i:Nat) (rows:List (List TV)),PLs Fz h L ps ps'→tparts es i ps=some rows →
 rows.length=ps.length∧(∀ r∈rows,r.length=es)∧∀(c:Array Value) (pre:List Value),c.size=(i+rows.length)*es→c.toList.take (i*es)=pre →
  ∃ c',Instr.fill (fun i=>some (i*es,es)) c ps'=some c'∧∃ new,c'.toList=pre++new∧VLs Fz h noL rows.flatten new
 | [],ps',i,rows,hp,ht=>by
  have:ps'=[]:=by have:=hp.len;simpa using this
  subst this
  obtain rfl:=a6 ht
  refine⟨rfl,by simp,fun c pre hc hpre=>⟨c,rfl,[],?_,VLs.nil⟩⟩
  rw[← hpre,List.append_nil,f9 (by simp[hc])]
 | (k,v)::ps,ps',i,rows,hp,ht=>by
  obtain⟨p',rest,rfl⟩:∃ v' rest,ps'=v'::rest:=by
   have h1:=hp.len
   cases ps' with
   | nil=>simp at h1
   | cons a b=>exact⟨a,b,rfl⟩
  obtain⟨k',v'⟩:=p'
  obtain⟨e1,hv⟩:=hp.at' 0 _ _ rfl rfl
  simp only at e1 hv
  subst e1
  have hs:PLs Fz h L ps rest:=⟨by have:=hp.len;simpa using this,fun i x x' h h'=>hp.at' (i+1) _ _ (by simpa using h) (by simpa using h')⟩
  simp only[tparts] at ht
  split at ht
  ·rename_i hc
   obtain⟨rfl,hj,hlen,hlf⟩:=hc
   obtain⟨r,hr,rfl⟩:=b9.1 ht
   obtain⟨g1,g2,g3⟩:=mV ps rest _ r hs hr
   refine⟨by simp[g1],fun q hq=>?_,fun c pre hc hpre=>?_⟩
   ·simp only[List.mem_cons] at hq
    rcases hq with rfl|hq
    ·exact hlen
    ·exact g2 q hq
   ·have hcv:=jB hv hj
    have hsz:v'.cells.size=es:=by have:=hcv.len;simp at this;omega
    have hmul:k'*es+es≤(k'+(r.length+1))*es:=by rw[← Nat.succ_mul];exact g0 _ (by omega)
    simp only[List.length_cons] at hc
    simp only[Instr.fill]
    rw[d5 (by simp[hsz,hc];omega)]
    have hsp:=eJ v'.cells.toList 0 (k'*es) c (by simp[hsz,hc];omega)
    simp only[Nat.add_zero] at hsp
    have hlv:v'.cells.toList.length=es:=by simp[hsz]
    have hpl:pre.length=k'*es:=by rw[← hpre,List.length_take,Array.length_toList,hc];omega
    obtain ⟨c', h1, new, h2, h3⟩ := g3 (Array.foldl (fun (cs : Array Value) (x : Value × Nat) => cs.setIfInBounds (k' * es + x.2) x.1) c v'.cells.zipIdx) (pre ++ v'.cells.toList) (by
        have:(Array.foldl (fun (cs:Array Value) (x:Value×Nat)=>cs.setIfInBounds (k'*es+x.2) x.1) c v'.cells.zipIdx).toList.length=c.toList.length:=by
         simp only[← Array.foldl_toList,Array.toList_zipIdx]
         rw[hsp,hG (by simp[hsz,hc];omega)]
        simp only[Array.length_toList] at this
        rw[this,hc];congr 1;omega) (by
     simp only[← Array.foldl_toList,Array.toList_zipIdx]
     rw[hsp]
     unfold splice
     rw[hpre,List.take_append_of_le_length (by simp[hpl,hlv];rw[Nat.succ_mul];omega),f9 (by simp[hpl,hlv];rw[Nat.succ_mul];omega)])
    refine⟨c',h1,v'.cells.toList++new,by rw[h2,List.append_assoc],?_⟩
    simp only[List.flatten_cons]
    refine VLs.append ⟨hcv.len,fun j p x hp hx=>VL.toNo 4 (by simpa using a8.1 hlf p (b6 hp)) (hcv.at' j p x hp hx)⟩ h3
  ·cases ht
theorem pV(hz:FZ Fz h)(hs:VLs Fz h L s.tm tm)(ps:Array (Nat×Operand)):PLs Fz h L (ps.toList.map fun q=>(q.1,tev s.tm q.2)) (bK (ev tm) ps).toList:=by
 refine⟨by simp[bK],fun i p p' h1 h2=>?_⟩
 simp only[bK,Array.toList_map,List.getElem?_map] at h1 h2
 cases hq:ps.toList[i]? with
 | none=>rw[hq] at h1;cases h1
 | some q =>
  rw[hq] at h1 h2
  simp only[Option.map_some,Option.some.injEq] at h1 h2
  subst h1 h2
  exact⟨rfl,bQ hz hs q.2⟩
def tslice(P:Program)(t:TypeId)(len:Nat)(ps:List (Nat×TV)):Option (Nat×List (List TV)):=
 match cK P t with
 | some e=>match eG P e with
  | some z=>if ps.length=len∧len*z.length≤2^24∧P.cellsOf e=z.length then (tparts z.length 0 ps).map fun r=>(z.length,r) else none
  | none=>none
 | none=>none
theorem kC{t:TypeId}{len:Nat}{ps:List (Nat×TV)}{ps':Array (Nat×Value)}{es:Nat}{rows:List (List TV)}(hp:PLs Fz h L ps ps'.toList)(ht:tslice P t len ps=some (es,rows)) :
 rows.length=len∧(∀ r∈rows,r.length=es)∧∃ cs,cF P t len ps' h=some (.slice (some ⟨h.length,0,none⟩) len len,h++[.cells es cs])∧VLs Fz h noL rows.flatten cs:=by
 unfold tslice at ht
 split at ht
 ·rename_i e he
  split at ht
  ·rename_i z hz
   split at ht
   ·rename_i hc
    obtain⟨hc1,hc2,hc3⟩:=hc
    obtain⟨r,hr,he'⟩:=b9.1 ht
    obtain⟨rfl,rfl⟩:=Prod.mk.inj he'
    obtain⟨i,z0,hi,hz0,hcl,hzz,hsz,hat⟩:=fW hz
    unfold cK at he
    split at he
    ·rename_i e' hu
     obtain rfl:=a6 he
     obtain⟨g1,g2,g3⟩:=mV ps ps'.toList 0 r hp hr
     have hrl:r.length=len:=by omega
     refine⟨hrl,g2,?_⟩
     have hlen:∀ a:Array Value,(dC a (len*z.length)).size=len*z.length:=fun a=>by simp[dC]
     by_cases hn0:len*z.length=0
     ·obtain⟨c',h1,new,h2,h3⟩:=g3 (dC #[] (len*z.length)) [] (by rw[hlen,hrl];simp) (by simp)
      refine⟨new,?_,h3⟩
      unfold cF
      simp only[hu,hc3]
      rw[b8 ⟨by rw[hi];rfl,by omega⟩]
      simp only[lJ,hn0,if_true]
      rw[hn0] at h1
      rw[h1]
      simp only[Option.bind_some]
      have hsz':c'.size=0:=by
       have hl:=h3.len
       rw[cL g2,hrl,hn0] at hl
       have:c'.toList.length=new.length:=by rw[h2];simp
       simp only[Array.length_toList] at this
       omega
      rw[b8 hsz',h2]
      simp
     ·obtain⟨c',h1,new,h2,h3⟩:=g3 (dC z0.cells (len*z.length)) [] (by rw[hlen,hrl];simp) (by simp)
      refine⟨new,?_,h3⟩
      unfold cF
      simp only[hu,hc3]
      rw[b8 ⟨by rw[hi];rfl,by omega⟩]
      simp only[lJ,if_neg hn0,hi,hz0,hcl,if_true]
      rw[h1]
      simp only[Option.bind_some]
      have hsz':c'.size=len*z.length:=by
       have hl:=h3.len
       rw[cL g2,hrl] at hl
       have:c'.toList.length=new.length:=by rw[h2];simp
       simp only[Array.length_toList] at this
       omega
      rw[b8 hsz',h2]
      simp
    ·cases he
   ·cases ht
  ·cases ht
 ·cases ht
theorem OpG.buildSlice{t:TypeId}{len:Nat}{ps:Array (Nat×Operand)}{es:Nat}{rows:List (List TV)}(ht:tslice P t len (ps.toList.map fun q=>(q.1,tev s.tm q.2))=some (es,rows)) :
 OpG C P { dst:=dst,op:=.buildSlice t len ps,type:=ty,pos:=pos,after:=aft,guard:=gd } s ⟨tput s.tm dst (.list es rows),s.hp⟩:=by
 intro h0 Fz L tm h hs
 obtain⟨h1,h2,cs,h3,h4⟩:=kC (P:=P) (pV hs.fz hs.tmr ps) ht
 have hx:=Ext.app h [Blk.cells es cs]
 refine⟨rfl,_,_,by simp only[xop,hop,lG,h3,Option.map_some];rfl,hx,fun n=>Fz n∨n=h.length,L,⟨fun n hn=>.inl hn,fun n hn=>?_,(Grow.ext (h0:=h0) hs.fz hx).3⟩,?_⟩
 ·rcases hn with hn|rfl
  ·exact .inl hn
  ·exact .inr hs.ext.le
 ·refine (hs.heap hx (fun n hn=>.inl hn) (fun n hn=>?_)).put dst ?_
  ·rcases hn with hn|rfl
   ·exact .inl hn
   ·exact .inr (by simp)
  ·have hl:=h4.len
   rw[cL h2] at hl
   have:=VL.list (Fz:=fun n=>Fz n∨n=h.length) (h:=h++[Blk.cells es cs]) L es rows h.length 0 len cs es (.inr rfl) (by simp) (.inl rfl) h2 (by omega) (by omega) (fun j p y q1 q2=>by
    rw[g6] at q2
    refine (h4.at' j p y q1 q2).mono (fun n hn=>.inl hn) (fun n hn=>?_)
    have:=hs.fz n hn
    rw[b4 this])
   rw[h1] at this
   exact this
theorem OpG.buildOwn{t:TypeId}{len:Nat}{ps:Array (Nat×Operand)}{es:Nat}{rows:List (List TV)}(ht:tslice P t len (ps.toList.map fun q=>(q.1,tev s.tm q.2))=some (es,rows)) :
 OpG C P { dst:=dst,op:=.buildSlice t len ps,type:=ty,pos:=pos,after:=aft,guard:=gd } s ⟨tput s.tm dst (.lsl s.hp.length 0 len),s.hp++[.rows es rows]⟩:=by
 intro h0 Fz L tm h hs
 obtain⟨h1,h2,cs,h3,h4⟩:=kC (P:=P) (pV hs.fz hs.tmr ps) ht
 refine⟨rfl,_,_,by simp only[xop,hop,lG,h3,Option.map_some];rfl,Ext.app _ _,Fz,_,Grow.ext hs.fz (Ext.app _ _),(hs.new (xB hs h2 h4)).put dst ?_⟩
 have:=zU (Fz:=Fz) (h:=h++[.cells es cs]) (L:=L) (k:=s.hp.length) (nm:=h.length) (es:=es) (tot:=rows.length) (len:=len) (by omega)
 rw[h1] at this ⊢
 exact this
def tstore(P:Program)(hp:List TB)(t:TypeId)(p v:TV):Option (List TB):=
 match p with
 | .lptr n r o => if dH v = false ∧ okT P t = true ∧ (tcells v).length = P.cellsOf t ∧ (tcells v).all tone = true then
     match hp[n]? with
     | some (.rows es rows)=>match rows[r]? with
      | some row=>if o+(tcells v).length≤row.length∧(tcells v).all (lf 4)=true then some (hp.set n (.rows es (rows.set r (tsplice row o (tcells v))))) else none
      | none=>none
     | some (.var row)=>if r=0∧o+(tcells v).length≤row.length then some (hp.set n (.var (tsplice row o (tcells v)))) else none
     | _=>none
  else none
 | _=>none
theorem xL{p:TV}{x:Value}(hp:VL Fz h L p x)(ht:tone p=true):x.oneCell'=true:=by
 cases hp with
 | v _ x hx=>cases x<;>first|rfl|(simp[gC] at hx)
 | Z=>simp[tone] at ht
 | agg=>simp[tone] at ht
 | tuple=>simp[tone] at ht
 | _=>rfl
theorem tones{l:List TV}{l':List Value}(hs:VLs Fz h L l l')(ht:l.all tone=true):l'.all (·.oneCell')=true:=by
 rw[a8]
 intro x hx
 obtain⟨i,hi⟩:=i4.1 hx
 have hlt:=(a7.1 hi).1
 have hll:=hs.len
 have hp:l[i]?=some l[i]:=b5 (by omega)
 exact xL (hs.at' i _ _ hp hi) (by simpa using a8.1 ht _ (b6 hp))
theorem sZ{es:Nat}:∀(rows:List (List TV)) (r:Nat) (row row':List TV),(∀ q∈rows,q.length=es)→rows[r]?=some row→row'.length=es →
 (rows.set r row').flatten=tsplice rows.flatten (r*es) row'
 | [],r,row,row',hw,hr,hl=>by simp at hr
 | q::rows,0,row,row',hw,hr,hl=>by
  have:=hw q (by simp)
  simp only[List.set_cons_zero,List.flatten_cons,tsplice,Nat.zero_mul,List.take_zero,List.nil_append,Nat.zero_add]
  rw[List.drop_append_of_le_length (by omega),List.drop_of_length_le (by omega),List.nil_append]
 | q::rows,r+1,row,row',hw,hr,hl=>by
  have h1:=hw q (by simp)
  simp only[List.getElem?_cons_succ] at hr
  simp only[List.set_cons_succ,List.flatten_cons]
  rw[sZ rows r row row' (fun x hx=>hw x (by simp[hx])) hr hl]
  unfold tsplice
  have e:(r+1)*es=q.length+r*es:=by rw[Nat.succ_mul,h1];omega
  rw[e,List.take_append,List.drop_append]
  rw[f9 (show q.length≤q.length+r*es by omega),List.drop_of_length_le (show q.length≤q.length+r*es+row'.length by omega)]
  simp[Nat.add_assoc]
theorem mW{c l:List TV}{o:Nat}(hl:o+l.length≤c.length):(tsplice c o l).length=c.length:=by unfold tsplice;simp;omega
theorem nZ{c row l:List TV}{b o:Nat}(hb:(c.drop b).take row.length=row)(hle:b+row.length≤c.length)(hl:o+l.length≤row.length):tsplice c b (tsplice row o l)=tsplice c (b+o) l:=by
 have h1:c=c.take b++(row++c.drop (b+row.length)):=by
  conv=>lhs;rw[← List.take_append_drop b c,← List.take_append_drop row.length (c.drop b),hb,List.drop_drop]
 unfold tsplice
 have hlen:(row.take o++l++row.drop (o+l.length)).length=row.length:=by simp;omega
 rw[hlen]
 have e2:c.take (b+o)=c.take b++row.take o:=by
  conv=>lhs;rw[h1]
  rw[List.take_append,f9 (by simp;omega),List.length_take,Nat.min_eq_left (by omega),Nat.add_sub_cancel_left,List.take_append_of_le_length (by omega)]
 have e3:c.drop (b+o+l.length)=row.drop (o+l.length)++c.drop (b+row.length):=by
  conv=>lhs;rw[h1]
  rw[List.drop_append,List.drop_of_length_le (by simp;omega),List.nil_append,List.length_take,Nat.min_eq_left (by omega),show b+o+l.length-b=o+l.length by omega,List.drop_append_of_le_length hl]
 rw[e2,e3]
 simp only[List.append_assoc]
theorem OpW.store{t:TypeId}{a x:Operand}{hp':List TB}(hst:tstore P s.hp t (tev s.tm a) (tev s.tm x)=some hp') :
 OpW C P { dst:=none,op:=.store t a x,type:=ty,pos:=pos,after:=aft,guard:=gd } s ⟨s.tm,hp'⟩:=by
 intro h0 Fz L tm h hs
 have ha:=bQ hs.fz hs.tmr a
 have hx:=bQ hs.fz hs.tmr x
 refine .inr ⟨rfl,?_⟩
 generalize tev s.tm x=v at *
 unfold tstore at hst
 split at hst
 ·rename_i n r o hpa
  rw[hpa] at ha
  split at hst
  ·rename_i hc
   obtain⟨hj,hok,hlen,hone⟩:=hc
   have hcv:=jB hx hj
   obtain⟨i,hi⟩:=Option.isSome_iff_exists.1 hok
   have hsz:P.cellsOf t=i.size:=by simp[Program.cellsOf,hi]
   have hones:=tones hcv hone
   have hvs:(ev tm x).cells.size=i.size:=by have:=hcv.len;simp at this;omega
   obtain⟨nm,hnm,hav⟩:∃ nm,(L n).nm=some nm∧ev tm a = .pointer (some ⟨nm,r*(L n).es+o,none⟩):=by
    generalize ev tm a=y at *
    cases ha with
    | lptr _ _ _ _ nm ok hn=>exact⟨nm,hn,rfl⟩
   have key : ∀ (es : Nat) (cs : List Value) (b' : TB) (b : TB), s.hp[n]? = some b → b.live = true → h[nm]? = some (.cells es cs) → h0.length ≤ nm → ¬ Fz nm → r * (L n).es + o + (ev tm x).cells.toList.length ≤ cs.length →
       BR h0.length Fz (h.set nm (.cells es (splice cs (r*(L n).es+o) (ev tm x).cells.toList))) L n b'→hp'=s.hp.set n b' →
       ∃ v1 h1 w1,xop C P (ev tm) { dst:=none,op:=.store t a x,type:=ty,pos:=pos,after:=aft,guard:=gd } h=some (v1,h1,w1)∧((w1=none∧Ext h h1)∨∃ nm,w1=some nm∧h0.length≤nm∧nm<h.length∧h.length≤h1.length) ∧
        ∃ Fz' L',Grow h0 Fz Fz' h h1∧St h0 Fz' L' ⟨s.tm,hp'⟩ (aN tm none v1) h1:=by
    intro es cs b' b hb hlv hcs hlo hnf hle hB hp
    refine⟨undef,h.set nm (.cells es (splice cs (r*(L n).es+o) (ev tm x).cells.toList)),some nm,?_,.inr ⟨nm,rfl,hlo,(a7.1 hcs).1,by simp⟩,Fz,L,Grow.set hnf,?_⟩
    ·simp only[xop,hop,hav,dJ,hi,hvs,if_true,aS,hcs]
     rw[b8 ⟨hle,hones⟩]
     rfl
    ·subst hp
     exact hs.write hb hlv hnm hcs hlo hnf hB
   have hh:∀(es:Nat) (cs:List Value),¬ Fz nm→∀ k,Fz k→(h.set nm (.cells es cs))[k]?=h[k]?:=fun es cs hnf k hk=>by
    rw[d6];rintro rfl;exact hnf hk
   split at hst
   ·rename_i es rows hb
    split at hst
    ·rename_i row hrow
     split at hst
     ·rename_i hcond
      obtain⟨hfit,hlf⟩:=hcond
      obtain rfl:=a6 hst
      obtain⟨q1,q2,q3,q4,q5⟩:=hs.blk n _ hb
      rcases q5 with q5|⟨nm',cs,e1,e2,e3,e4,e5⟩
      ·rw[q5.1] at hnm;cases hnm
      ·rw[hnm] at e1
       obtain rfl:=a6 e1
       have hlt:=(a7.1 hrow).1
       have hrl:=q4 row (b6 hrow)
       have hcl:cs.length=rows.length*es:=by rw[e5.len,cL q4]
       have hmul:r*es+es≤rows.length*es:=by rw[← Nat.succ_mul];exact g0 _ hlt
       have hcvl:(ev tm x).cells.toList.length=(tcells v).length:=hcv.len
       refine key es cs (.rows es (rows.set r (tsplice row o (tcells v)))) _ hb rfl e4 e2 e3 (by rw[q2];omega) ?_ rfl
       have hseg:(rows.flatten.drop (r*es)).take row.length=row:=by
        apply i7
        intro j
        rw[i0,g7]
        split
        ·rename_i hj'
         exact kK q4 hrow (by omega)
        ·rw[List.getElem?_eq_none (by omega)]
       have hfs:(rows.set r (tsplice row o (tcells v))).flatten=tsplice rows.flatten (r*es+o) (tcells v):=by
        rw[sZ rows r row _ q4 hrow (by rw[mW hfit];exact hrl),nZ hseg (by rw[cL q4];omega) hfit]
       refine⟨q1,q2,by simp[q3],fun q hq=>?_,.inr ⟨nm,_,hnm,e2,e3,by rw[d8 (a7.1 e4).1],?_⟩⟩
       ·rcases List.mem_or_eq_of_mem_set hq with hq|rfl
        ·exact q4 q hq
        ·rw[mW hfit];exact hrl
       ·rw[hfs,q2]
        refine VLs.mono (lM e5 ⟨hcv.len,fun j p y hp hy=>VL.toNo 4 (by simpa using a8.1 hlf p (b6 hp)) (hcv.at' j p y hp hy)⟩ _) (fun _ h=>h) (hh es _ e3)
     ·cases hst
    ·cases hst
   ·rename_i row hb
    split at hst
    ·rename_i hcond
     obtain⟨rfl,hfit⟩:=hcond
     obtain rfl:=a6 hst
     obtain⟨q1,nm',cs,e1,e2,e3,e4,e5⟩:=hs.blk n _ hb
     rw[hnm] at e1
     obtain rfl:=a6 e1
     have hcvl:(ev tm x).cells.toList.length=(tcells v).length:=hcv.len
     have hcl:=e5.len
     refine key 0 cs (.var (tsplice row o (tcells v))) _ hb rfl e4 e2 e3 (by omega) ?_ rfl
     rw[Nat.zero_mul,g6]
     refine⟨q1,nm,_,hnm,e2,e3,by rw[d8 (a7.1 e4).1],?_⟩
     exact (lM e5 hcv o).mono (fun _ h=>h) (hh 0 _ e3)
    ·cases hst
   ·cases hst
  ·cases hst
 ·cases hst
end
end Go.Rex
namespace Go.Rex
open Go.RowKit
section
variable {C:Ctx} {P:Program} {Fz:Nat→Prop} {h h0:List Blk} {L:Nat→LI} {s:TS} {tm:List Value}
variable {dst:Option Tmp} {ty:TypeId} {pos:String} {aft:Array Edge} {gd:Option (Nat×Bool)}
inductive WT:List TV→List TV→Prop
 | nil:WT [] []
 | Z {p:TV} {l l':List TV} (h:WT l l'):WT (p::l) (.Z::l')
 | keep {p q:TV} {l l':List TV} (e:p=q) (h:WT l l'):WT (p::l) (q::l')
def bel(k:Nat):Nat→TV→Bool
 | 0,_=>false
 | d+1,p=>match p with
  | .lptr m _ _=>decide (m<k)
  | .lmap m=>decide (m<k)
  | .lsl m _ _=>decide (m<k)
  | .agg l=>l.all (bel k d)
  | .tuple l=>l.all (bel k d)
  | _=>true
def frz(n:Nat)(b:TB):Nat→TV→TV
 | 0,_=>.Z
 | d+1,p=>match p with
  | .lsl m o len=>if m=n then (match b with
   | .rows es rows=>.list es ((rows.drop o).take len)
   | _=>.Z) else .lsl m o len
  | .lptr m r o=>if m=n then (match b with
   | .rows _ rows=>(match rows[r]? with|some row=>.fptr false row o|none=>.Z)
   | .var row=>if r=0 then .fptr true row o else .Z
   | _=>.Z) else .lptr m r o
  | .lmap m=>if m=n then .Z else .lmap m
  | .agg l=>.agg (l.map (frz n b d))
  | .tuple l=>.tuple (l.map (frz n b d))
  | p=>p
theorem pQ{es:Nat}:∀ {rows:List (List TV)} (_:∀ r∈rows,r.length=es) (k:Nat),(rows.drop k).flatten=rows.flatten.drop (k*es)
 | [],_,k=>by simp
 | r::rows,hw,0=>by simp
 | r::rows,hw,k+1=>by
  have h1:=hw r (by simp)
  simp only[List.drop_succ_cons,List.flatten_cons]
  rw[pQ (fun r hr=>hw r (by simp[hr])) k,Nat.succ_mul,List.drop_append,List.drop_of_length_le (show r.length≤k*es+es by omega),List.nil_append]
  congr 1;omega
theorem pL{es:Nat}:∀ {rows:List (List TV)} (_:∀ r∈rows,r.length=es) (k:Nat),(rows.take k).flatten=rows.flatten.take (k*es)
 | [],_,k=>by simp
 | r::rows,hw,0=>by simp
 | r::rows,hw,k+1=>by
  have h1:=hw r (by simp)
  simp only[List.take_succ_cons,List.flatten_cons]
  rw[pL (fun r hr=>hw r (by simp[hr])) k,Nat.succ_mul,List.take_append,f9 (show r.length≤k*es+es by omega)]
  congr 2;omega
theorem VL.part{es eb:Nat}{rows:List (List TV)}{n o c:Nat}{cs:List Value}(hn:Fz n)(hb:h[n]?=some (.cells eb cs))(he:eb=es∨eb=0)(hw:∀ r∈rows,r.length=es)(hle:o+rows.length*es≤cs.length)
 (ha:∀(j:Nat) p x,rows.flatten[j]?=some p→cs[o+j]?=some x→VL Fz h noL p x) (l m:Nat) (hlm:l+m≤rows.length) (hc:m≤c):VL Fz h L (.list es ((rows.drop l).take m)) (.slice (some ⟨n,o+l*es,none⟩) m c):=by
 have hlen:((rows.drop l).take m).length=m:=by simp;omega
 have hw':∀ r∈rows.drop l,r.length=es:=fun r hr=>hw r (List.mem_of_mem_drop hr)
 have hmul:l*es+m*es≤rows.length*es:=by rw[← Nat.add_mul];exact g0 _ hlm
 have:=VL.list (Fz:=Fz) (h:=h) L es ((rows.drop l).take m) n (o+l*es) c cs eb hn hb he (fun r hr=>hw' r (List.mem_of_mem_take hr)) (by omega) (by rw[hlen];omega) (fun j p x h1 h2=>by
  rw[pL hw',pQ hw,i0,g7] at h1
  split at h1
  ·exact ha (l*es+j) p x h1 (by rw[← e7];exact h2)
  ·cases h1)
 rw[hlen] at this
 exact this
def lfB:TB→Bool
 | .var row=>row.all (lf 4)
 | _=>true
theorem VL.frz{Fz':Nat→Prop}{n:Nat}{b:TB}(hB:BR h0.length Fz h L n b)(hlf:lfB b=true)(hF:∀ k,Fz k→Fz' k)(hN:∀ nm,(L n).nm=some nm→Fz' nm):∀(d:Nat) {p:TV} {x:Value},VL Fz h L p x→VL Fz' h L (frz n b d p) x
 | 0,p,x,hp=>by rw[Rex.frz];exact .Z L x
 | d+1,p,x,hp=>by
  have key:∀(l:List TV) (l':List Value),(∀(i:Nat) p x,l[i]?=some p→l'[i]?=some x→VL Fz h L p x)→∀(i:Nat) p x,(l.map (Rex.frz n b d))[i]?=some p→l'[i]?=some x→VL Fz' h L p x:=by
   intro l l' ha i p x hp hx
   rw[d2] at hp
   cases hq:l[i]? with
   | none=>rw[hq] at hp;cases hp
   | some q=>rw[hq] at hp;obtain rfl:=a6 hp;exact VL.frz hB hlf hF hN d (ha i q x hq hx)
  cases hp with
  | Z _ x=>exact .Z L x
  | v _ x hx=>exact .v L x hx
  | agg _ l l' hl ha=>exact .agg L _ l' (by simp[hl]) (key l l' ha)
  | tuple _ l l' hl ha=>exact .tuple L _ l' (by simp[hl]) (key l l' ha)
  | func _ f a b a' b' la ha lb hb=>exact (VL.func L f a b a' b' la ha lb hb).mono hF (fun _ _=>rfl)
  | nillist _ es=>exact .nillist L es
  | vague _ es=>exact .vague L es
  | list _ es rows n o c cs eb hn hb he hw hc hle ha=>exact (VL.list L es rows n o c cs eb hn hb he hw hc hle ha).mono hF (fun _ _=>rfl)
  | fptr _ vb row off n base es cs hn hb hv hle ha=>exact (VL.fptr L vb row off n base es cs hn hb hv hle ha).mono hF (fun _ _=>rfl)
  | lptr _ m r o nm ok hn =>
   simp only[Rex.frz]
   split
   ·rename_i e
    subst e
    cases b with
    | dead=>exact .Z L _
    | rows es rows =>
     simp only
     obtain⟨q1,q2,q3,q4,q5⟩:=hB
     split
     ·rename_i row hrow
      rcases q5 with q5|⟨nm',cs,e1,e2,e3,e4,e5⟩
      ·rw[q5.1] at hn;cases hn
      ·rw[hn] at e1
       obtain rfl:=a6 e1
       have hlt:=(a7.1 hrow).1
       have hl:=q4 row (b6 hrow)
       have hcl:cs.length=rows.length*es:=by rw[e5.len,cL q4]
       have hmul:r*es+es≤rows.length*es:=by rw[← Nat.succ_mul];exact g0 _ hlt
       rw[q2]
       refine .fptr L false row o nm (r*es) es cs (hN nm hn) e4 (fun h=>by cases h) (by omega) fun j p x h1 h2=>?_
       have hjl:=(a7.1 h1).1
       exact (e5.at' (r*es+j) p x (by rw[kK q4 hrow (by omega)];exact h1) h2).mono hF (fun _ _=>rfl)
     ·exact .Z L _
    | var row =>
     simp only
     obtain⟨q1,nm',cs,e1,e2,e3,e4,e5⟩:=hB
     rw[hn] at e1
     obtain rfl:=a6 e1
     split
     ·rename_i hr0
      subst hr0
      refine .fptr L true row _ nm (0*(L m).es) 0 cs (hN nm hn) e4 (fun _=>rfl) (by have:=e5.len;omega) fun j p x h1 h2=>?_
      rw[Nat.zero_mul,g6] at h2
      have hl:row.all (lf 4)=true:=by simpa [lfB] using hlf
      exact (VL.toNo 4 (by simpa using a8.1 hl p (b6 h1)) (e5.at' j p x h1 h2)).mono hF (fun _ _=>rfl)
     ·exact .Z L _
    | tbl row=>exact .Z L _
   ·exact .lptr L m r o nm ok hn
  | lmap _ m nm ok hn =>
   simp only[Rex.frz]
   split
   ·exact .Z L _
   ·exact .lmap L m nm ok hn
  | lslnil _ m ok hn =>
   simp only[Rex.frz]
   split
   ·rename_i e
    subst e
    cases b with
    | rows es rows=>simp only[List.take_zero];exact .nillist L es
    | _=>exact .Z L _
   ·exact .lslnil L m ok hn
  | lsl _ m o len nm ok hn hle =>
   simp only[Rex.frz]
   split
   ·rename_i e
    subst e
    cases b with
    | rows es rows =>
     simp only
     obtain⟨q1,q2,q3,q4,q5⟩:=hB
     rcases q5 with q5|⟨nm',cs,e1,e2,e3,e4,e5⟩
     ·rw[q5.1] at hn;cases hn
     ·rw[hn] at e1
      obtain rfl:=a6 e1
      have hcl:cs.length=rows.length*es:=by rw[e5.len,cL q4]
      have:=VL.part (Fz:=Fz') (h:=h) (L:=L) (es:=es) (rows:=rows) (n:=nm) (o:=0) (c:=(L m).tot-o) (cs:=cs) (hN nm hn) e4 (.inl rfl) q4 (by omega) (fun j p x h1 h2=>by
       rw[g6] at h2
       exact (e5.at' j p x h1 h2).mono hF (fun _ _=>rfl)) o len (by rw[← q3];exact hle) (by omega)
      rw[g6] at this
      rw[q2]
      exact this
    | _=>exact .Z L _
   ·exact .lsl L m o len nm ok hn hle
def vD(n:Nat)(b:TB):TB→TB
 | .var row=>.var (row.map (frz n b 4))
 | b'=>b'
theorem Wk.freeze(n:Nat){b:TB}(hb:s.hp[n]?=some b)(hlf:lfB b=true):Wk s ⟨s.tm.map (frz n b 4),(s.hp.map (vD n b)).set n .dead⟩:=by
 intro h0 Fz L tm h hs
 have hB:=hs.blk n b hb
 have hnmlt:∀ nm,b.live=true→(L n).nm=some nm→h0.length≤nm∧nm<h.length:=by
  intro nm hlv hn
  cases b with
  | dead=>cases hlv
  | rows es rows =>
   obtain⟨-,-,-,-,h5⟩:=hB
   rcases h5 with h5|⟨nm',cs,e1,e2,e3,e4,e5⟩
   ·rw[h5.1] at hn;cases hn
   ·rw[e1] at hn;obtain rfl:=a6 hn
    exact⟨e2,(a7.1 e4).1⟩
  | var row =>
   obtain⟨-,nm',cs,e1,e2,e3,e4,e5⟩:=hB
   rw[e1] at hn;obtain rfl:=a6 hn
   exact⟨e2,(a7.1 e4).1⟩
  | tbl row =>
   obtain⟨-,nm',cs,e1,e2,e3,e4,e5⟩:=hB
   rw[e1] at hn;obtain rfl:=a6 hn
   exact⟨e2,(a7.1 e4).1⟩
 by_cases hlv:b.live=true
 ·refine⟨fun k=>Fz k∨(L n).nm=some k,L,⟨fun k hk=>.inl hk,fun k hk=>?_,fun _ _=>rfl⟩,?_⟩
  ·rcases hk with hk|hk
   ·exact .inl hk
   ·exact .inr (hnmlt k hlv hk).1
  have hF:∀ k,Fz k→(fun k=>Fz k∨(L n).nm=some k) k:=fun k hk=>.inl hk
  have hN:∀ nm,(L n).nm=some nm→(fun k=>Fz k∨(L n).nm=some k) nm:=fun nm hn=>.inr hn
  have hmap:∀(l:List TV) (x:List Value),VLs Fz h L l x→VLs (fun k=>Fz k∨(L n).nm=some k) h L (l.map (frz n b 4)) x:=by
   intro l x hx
   refine⟨by simp[hx.len],fun i p y hp hy=>?_⟩
   rw[d2] at hp
   cases hq:l[i]? with
   | none=>rw[hq] at hp;cases hp
   | some q=>rw[hq] at hp;obtain rfl:=a6 hp;exact VL.frz hB hlf hF hN 4 (hx.at' i q y hq hy)
  have inv:∀(k:Nat) (b':TB),((s.hp.map (vD n b)).set n .dead)[k]?=some b'→b'.live=true→k≠n∧∃ b0:TB,s.hp[k]?=some b0∧b0.live=true∧b'=vD n b b0:=by
   intro k b' hk hl
   by_cases e:k=n
   ·subst e
    rw[d8 (by simpa using (a7.1 hb).1)] at hk
    obtain rfl:=a6 hk
    cases hl
   ·rw[d6 (Ne.symm e),d2] at hk
    cases hq:s.hp[k]? with
    | none=>rw[hq] at hk;cases hk
    | some b0 =>
     rw[hq] at hk
     obtain rfl:=a6 hk
     refine⟨e,b0,rfl,?_,rfl⟩
     cases b0<;>first|rfl|exact hl
  refine⟨hmap _ _ hs.tmr,?_,fun k hk=>by simpa using hs.dom k hk,?_,hs.fz.to hF (fun _ _=>rfl) ?_,hs.ext⟩
  ·intro k b' hk
   by_cases hl:b'.live=true
   ·obtain⟨hne,b0,hb0,hl0,rfl⟩:=inv k b' hk hl
    have hB0:=hs.blk k b0 hb0
    have hnf:∀ nm,(L k).nm=some nm→¬ Fz nm→¬(Fz nm∨(L n).nm=some nm):=fun nm hn hf hor=>by
     rcases hor with h1|h1
     ·exact hf h1
     ·exact hne (hs.inj k n b0 b nm hb0 hb hl0 hlv hn h1)
    cases b0 with
    | dead=>cases hl0
    | rows es rows =>
     obtain⟨q1,q2,q3,q4,q5⟩:=hB0
     refine⟨q1,q2,q3,q4,?_⟩
     rcases q5 with q5|⟨nm,cs,e1,e2,e3,e4,e5⟩
     ·exact .inl q5
     ·exact .inr ⟨nm,cs,e1,e2,hnf nm e1 e3,e4,e5.mono hF (fun _ _=>rfl)⟩
    | var row =>
     obtain⟨q1,nm,cs,e1,e2,e3,e4,e5⟩:=hB0
     exact⟨q1,nm,cs,e1,e2,hnf nm e1 e3,e4,hmap _ _ e5⟩
    | tbl row =>
     obtain⟨q1,nm,cs,e1,e2,e3,e4,e5⟩:=hB0
     exact⟨q1,nm,cs,e1,e2,hnf nm e1 e3,e4,e5.mono hF (fun _ _=>rfl)⟩
   ·cases b' with
    | dead=>trivial
    | _=>exact absurd rfl hl
  ·intro k k' c c' nm hk hk' l1 l2 e1 e2
   obtain⟨-,b1,g1,g2,-⟩:=inv k c hk l1
   obtain⟨-,b2,g3,g4,-⟩:=inv k' c' hk' l2
   exact hs.inj k k' b1 b2 nm g1 g3 g2 g4 e1 e2
  ·intro k hk
   rcases hk with hk|hk
   ·exact hs.fz k hk
   ·exact (hnmlt k hlv hk).2
 ·
  obtain rfl:b = .dead:=by cases b<;>first|rfl|exact absurd rfl hlv
  have hmap:∀(l:List TV) (x:List Value),VLs Fz h L l x→VLs Fz h L (l.map (frz n .dead 4)) x:=by
   intro l x hx
   refine⟨by simp[hx.len],fun i p y hp hy=>?_⟩
   rw[d2] at hp
   cases hq:l[i]? with
   | none=>rw[hq] at hp;cases hp
   | some q =>
    rw[hq] at hp;obtain rfl:=a6 hp
    have hv:=hx.at' i q y hq hy
    have:∀(d:Nat) {p:TV} {x:Value},VL Fz h L p x→VL Fz h L (frz n .dead d p) x:=by
     intro d
     induction d with
     | zero=>intro p x _;exact .Z L x
     | succ d ih =>
      intro p x hp
      have key:∀(l:List TV) (l':List Value),(∀(i:Nat) p x,l[i]?=some p→l'[i]?=some x→VL Fz h L p x)→∀(i:Nat) p x,(l.map (Rex.frz n .dead d))[i]?=some p→l'[i]?=some x→VL Fz h L p x:=by
       intro l l' ha i p x hp hx
       rw[d2] at hp
       cases hq:l[i]? with
       | none=>rw[hq] at hp;cases hp
       | some q=>rw[hq] at hp;obtain rfl:=a6 hp;exact ih (ha i q x hq hx)
      cases hp with
      | agg _ l l' hl ha=>exact .agg L _ l' (by simp[hl]) (key l l' ha)
      | tuple _ l l' hl ha=>exact .tuple L _ l' (by simp[hl]) (key l l' ha)
      | lptr _ m r o nm ok hn =>
       simp only[Rex.frz]
       split
       ·exact .Z L _
       ·exact .lptr L m r o nm ok hn
      | lmap _ m nm ok hn =>
       simp only[Rex.frz]
       split
       ·exact .Z L _
       ·exact .lmap L m nm ok hn
      | lslnil _ m ok hn =>
       simp only[Rex.frz]
       split
       ·exact .Z L _
       ·exact .lslnil L m ok hn
      | lsl _ m o len nm ok hn hle =>
       simp only[Rex.frz]
       split
       ·exact .Z L _
       ·exact .lsl L m o len nm ok hn hle
      | Z _ x=>exact .Z L x
      | v _ x hx=>exact .v L x hx
      | func _ f a b a' b' la ha lb hb=>exact .func L f a b a' b' la ha lb hb
      | nillist _ es=>exact .nillist L es
      | vague _ es=>exact .vague L es
      | list _ es rows n o c cs eb hn hb he hw hc hle ha=>exact .list L es rows n o c cs eb hn hb he hw hc hle ha
      | fptr _ vb row off n base es cs hn hb hv hle ha=>exact .fptr L vb row off n base es cs hn hb hv hle ha
    exact this 4 hv
  refine⟨Fz,L,Grow.refl _ _,hmap _ _ hs.tmr,?_,fun k hk=>by simpa using hs.dom k hk,?_,hs.fz,hs.ext⟩
  all_goals
   have inv:∀(k:Nat) (b':TB),((s.hp.map (vD n .dead)).set n .dead)[k]?=some b'→b'.live=true→∃ b0:TB,s.hp[k]?=some b0∧b0.live=true∧b'=vD n .dead b0:=by
    intro k b' hk hl
    by_cases e:k=n
    ·subst e
     rw[d8 (by simpa using (a7.1 hb).1)] at hk
     obtain rfl:=a6 hk
     cases hl
    ·rw[d6 (Ne.symm e),d2] at hk
     cases hq:s.hp[k]? with
     | none=>rw[hq] at hk;cases hk
     | some b0 =>
      rw[hq] at hk
      obtain rfl:=a6 hk
      refine⟨b0,rfl,?_,rfl⟩
      cases b0<;>first|rfl|exact hl
  ·intro k b' hk
   by_cases hl:b'.live=true
   ·obtain⟨b0,hb0,hl0,rfl⟩:=inv k b' hk hl
    have hB0:=hs.blk k b0 hb0
    cases b0 with
    | dead=>cases hl0
    | rows es rows=>exact hB0
    | var row =>
     obtain⟨q1,nm,cs,e1,e2,e3,e4,e5⟩:=hB0
     exact⟨q1,nm,cs,e1,e2,e3,e4,hmap _ _ e5⟩
    | tbl row=>exact hB0
   ·cases b' with
    | dead=>trivial
    | _=>exact absurd rfl hl
  ·intro k k' c c' nm hk hk' l1 l2 e1 e2
   obtain⟨b1,g1,g2,-⟩:=inv k c hk l1
   obtain⟨b2,g3,g4,-⟩:=inv k' c' hk' l2
   exact hs.inj k k' b1 b2 nm g1 g3 g2 g4 e1 e2
end
end Go.Rex
namespace Go.Rex
open Go.RowKit
section
variable {C:Ctx} {P:Program} {Fz:Nat→Prop} {h h0:List Blk} {L:Nat→LI} {s:TS} {tm:List Value}
variable {dst:Option Tmp} {ty:TypeId} {pos:String} {aft:Array Edge} {gd:Option (Nat×Bool)}
def fP(n:Nat):TB→TB
 | .var row=>.var (row.map (kill n 4))
 | b=>b
theorem St.renew(hs:St h0 Fz L s tm h){n es nm:Nat}{b:TB}(hb:s.hp[n]?=some b){h':List Blk}{cs:List Value}{rows:List (List TV)}(hh:∀ k,Fz k→h'[k]?=h[k]?)
 (hk:∀ m b' k,m≠n→s.hp[m]?=some b'→b'.live=true→(L m).nm=some k→h'[k]?=h[k]?∧k<nm) (hnm:h'[nm]?=some (.cells es cs)) (hlo:h0.length≤nm) (hnf:¬ Fz nm) (hfz:h.length≤h'.length) (hext:Ext h0 h')
 (hw:∀ r∈rows,r.length=es) (hv:VLs Fz h' noL rows.flatten cs) :
 St h0 Fz (fun m=>if m=n then ⟨true,some nm,es,rows.length⟩ else L m) ⟨s.tm.map (kill n 4),(s.hp.map (fP n)).set n (.rows es rows)⟩ tm h':=by
 have hL:∀ m,m≠n→(fun m=>if m=n then (⟨true,some nm,es,rows.length⟩:LI) else L m) m=L m:=fun m hm=>by simp only[if_neg hm]
 have hLn:(fun m=>if m=n then (⟨true,some nm,es,rows.length⟩:LI) else L m) n=⟨true,some nm,es,rows.length⟩:=by simp only[if_true]
 generalize (fun m=>if m=n then (⟨true,some nm,es,rows.length⟩:LI) else L m)=L' at hL hLn ⊢
 have hlt:=(a7.1 hb).1
 have hmap:∀(l:List TV) (x:List Value),VLs Fz h L l x→VLs Fz h' L' (l.map (kill n 4)) x:=by
  intro l x hx
  refine⟨by simp[hx.len],fun i p y hp hy=>?_⟩
  rw[d2] at hp
  cases hq:l[i]? with
  | none=>rw[hq] at hp;cases hp
  | some q=>rw[hq] at hp;obtain rfl:=a6 hp;exact ((hx.at' i q y hq hy).kill hL 4).mono (fun _ h=>h) hh
 have inv:∀(k:Nat) (b':TB),k≠n→((s.hp.map (fP n)).set n (.rows es rows))[k]?=some b'→∃ b0:TB,s.hp[k]?=some b0∧b0.live=b'.live∧b'=fP n b0:=by
  intro k b' e hk'
  rw[d6 (Ne.symm e),d2] at hk'
  cases hq:s.hp[k]? with
  | none=>rw[hq] at hk';cases hk'
  | some b0 =>
   rw[hq] at hk'
   obtain rfl:=a6 hk'
   refine⟨b0,rfl,?_,rfl⟩
   cases b0<;>rfl
 have at_n:((s.hp.map (fP n)).set n (.rows es rows))[n]?=some (.rows es rows):=d8 (by simpa using hlt)
 refine⟨hmap _ _ hs.tmr,?_,?_,?_,hs.fz.to (fun _ h=>h) hh fun k hk'=>d7 (hs.fz k hk') hfz,hext⟩
 ·intro k b' hkb
  by_cases e:k=n
  ·subst e
   rw[at_n] at hkb
   obtain rfl:=a6 hkb
   exact⟨by rw[hLn],by rw[hLn],by rw[hLn],hw,.inr ⟨nm,cs,by rw[hLn],hlo,hnf,hnm,hv⟩⟩
  ·obtain⟨b0,hb0,hl0,rfl⟩:=inv k b' e hkb
   have hB0:=hs.blk k b0 hb0
   cases b0 with
   | dead=>trivial
   | rows es' rows' =>
    obtain⟨q1,q2,q3,q4,q5⟩:=hB0
    simp only[fP]
    unfold BR
    rw[hL k e]
    refine⟨q1,q2,q3,q4,?_⟩
    rcases q5 with q5|⟨nm',cs',e1,e2,e3,e4,e5⟩
    ·exact .inl q5
    ·exact .inr ⟨nm',cs',e1,e2,e3,by rw[(hk k _ nm' e hb0 rfl e1).1];exact e4,e5.mono (fun _ h=>h) hh⟩
   | var row =>
    obtain⟨q1,nm',cs',e1,e2,e3,e4,e5⟩:=hB0
    simp only[fP]
    unfold BR
    rw[hL k e]
    exact⟨q1,nm',cs',e1,e2,e3,by rw[(hk k _ nm' e hb0 rfl e1).1];exact e4,hmap _ _ e5⟩
   | tbl row =>
    obtain⟨q1,nm',cs',e1,e2,e3,e4,e5⟩:=hB0
    simp only[fP]
    unfold BR
    rw[hL k e]
    exact⟨q1,nm',cs',e1,e2,e3,by rw[(hk k _ nm' e hb0 rfl e1).1];exact e4,e5.mono (fun _ h=>h) hh⟩
 ·intro k hk'
  by_cases e:k=n
  ·subst e;simpa using hlt
  ·rw[hL k e] at hk'
   simpa using hs.dom k hk'
 ·intro k k' c c' x h1 h2 l1 l2 e1 e2
  by_cases a:k=n<;>by_cases b:k'=n
  ·rw[a,b]
  ·subst a
   rw[hLn] at e1
   obtain rfl:=a6 e1
   rw[hL k' b] at e2
   obtain⟨b0,hb0,hl0,rfl⟩:=inv k' c' b h2
   have:=(hk k' b0 nm b hb0 (by rw[hl0];exact l2) e2).2
   omega
  ·subst b
   rw[hLn] at e2
   obtain rfl:=a6 e2
   rw[hL k a] at e1
   obtain⟨b0,hb0,hl0,rfl⟩:=inv k c a h1
   have:=(hk k b0 nm a hb0 (by rw[hl0];exact l1) e1).2
   omega
  ·rw[hL k a] at e1
   rw[hL k' b] at e2
   obtain⟨b0,hb0,hl0,rfl⟩:=inv k c a h1
   obtain⟨b1,hb1,hl1,rfl⟩:=inv k' c' b h2
   exact hs.inj k k' b0 b1 x hb0 hb1 (by rw[hl0];exact l1) (by rw[hl1];exact l2) e1 e2
theorem VL.list_clean{es:Nat}{rows:List (List TV)}{x:Value}(hp:VL Fz h L (.list es rows) x):(x = .slice none 0 0∧rows=[])∨aP x=false:=by
 cases hp with
 | nillist=>exact .inl ⟨rfl,rfl⟩
 | vague=>exact .inr rfl
 | list=>exact .inr rfl
theorem VL.lsl_nil{n o len:Nat}{x:Value}(hp:VL Fz h L (.lsl n o len) x)(hn:(L n).nm=none):x = .slice none 0 0:=by
 cases hp with
 | lslnil=>rfl
 | lsl _ _ _ _ nm ok hn' hle=>rw[hn] at hn';cases hn'
theorem VL.lsl_some{n o len nm:Nat}{x:Value}(hp:VL Fz h L (.lsl n o len) x)(hn:(L n).nm=some nm):x = .slice (some ⟨nm,o*(L n).es,none⟩) len ((L n).tot-o):=by
 cases hp with
 | lslnil _ _ ok hn'=>rw[hn] at hn';cases hn'
 | lsl _ _ _ _ nm' ok hn' hle=>rw[hn] at hn';obtain rfl:=a6 hn';rfl
def Bo(P:Program)(e:TypeId)(n:Nat):Prop:=n≤2^40∧n*lH P e≤140737488355328
theorem St.lowB(hs:St h0 Fz L s tm h):∀ n b nm,s.hp[n]?=some b→b.live=true→(L n).nm=some nm→nm<h.length∧h0.length≤nm∧¬ Fz nm:=by
 intro n b nm hb hlv hn
 have:=hs.blk n b hb
 cases b with
 | dead=>cases hlv
 | rows es rows =>
  obtain⟨-,-,-,-,h5⟩:=this
  rcases h5 with h5|⟨nm',cs,e1,e2,e3,e4,e5⟩
  ·rw[h5.1] at hn;cases hn
  ·rw[e1] at hn;obtain rfl:=a6 hn
   exact⟨(a7.1 e4).1,e2,e3⟩
 | var row =>
  obtain⟨-,nm',cs,e1,e2,e3,e4,e5⟩:=this
  rw[e1] at hn;obtain rfl:=a6 hn
  exact⟨(a7.1 e4).1,e2,e3⟩
 | tbl row =>
  obtain⟨-,nm',cs,e1,e2,e3,e4,e5⟩:=this
  rw[e1] at hn;obtain rfl:=a6 hn
  exact⟨(a7.1 e4).1,e2,e3⟩
theorem lN {ρ : Operand → Value} {x y : Operand} {tys : Array TypeId} : touch ρ { dst := dst, op := .call { callee := .builtin .append, args := #[x, y], argTypes := tys }, type := ty, pos := pos, after := aft, guard := gd } = (match ρ y with
        | .slice (some ⟨n2,_,none⟩) (_+1) _=>match ρ x with
         | .slice none 0 0=>some (.rd n2)
         | .slice (some ⟨n,_,none⟩) _ _=>if n=n2 then none else some (.ap n n2)
         | _=>none
        | _=>none):=by
 simp only[touch,if_true]
 rfl
theorem OpA.append{x y:Operand}{t0 t1 e:TypeId}{tys:List TypeId}{n len es:Nat}{rows new:List (List TV)}{z:List Value}(hx:tev s.tm x = .lsl n 0 len)(hb:s.hp[n]?=some (.rows es rows))(hlen:len=rows.length)(hy:tev s.tm y = .list es new)
 (hsl:cK P t0=some e) (hni:fN P (some t1)=true) (hz:eG P e=some z) (hes:z.length=es) (hlim:Bo P e (rows.length+new.length)) (hw:∀ r∈new,r.length=es) (hone:∀ r∈new,r.all tone=true) (hlf:∀ r∈new,r.all (lf 4)=true) :
 OpA C P { dst:=dst,op:=.call { callee:=.builtin .append,args:=#[x,y],argTypes:=⟨t0::t1::tys⟩ },type:=ty,pos:=pos,after:=aft,guard:=gd } s
  ⟨tput (s.tm.map (kill n 4)) dst (.lsl n 0 (rows.length+new.length)),(s.hp.map (fP n)).set n (.rows es (rows++new))⟩ n:=by
 intro h0 Fz L tm h hs
 subst hlen
 have hvx:=bQ hs.fz hs.tmr x
 have hvy:=bQ hs.fz hs.tmr y
 rw[hx] at hvx
 rw[hy] at hvy
 have hT1:∀ k,touch (ev tm) { dst:=dst,op:=.call { callee:=.builtin .append,args:=#[x,y],argTypes:=⟨t0::t1::tys⟩ },type:=ty,pos:=pos,after:=aft,guard:=gd }≠some (.wr k):=fun k=>by
  rw[lN]
  split
  ·split
   ·intro h;cases h
   ·split
    ·intro h;cases h
    ·intro h;cases h
   ·intro h;cases h
  ·intro h;cases h
 have hT2:∀ k k2,touch (ev tm) { dst:=dst,op:=.call { callee:=.builtin .append,args:=#[x,y],argTypes:=⟨t0::t1::tys⟩ },type:=ty,pos:=pos,after:=aft,guard:=gd }=some (.ap k k2)→(L n).nm=some k:=fun k k2 ht=>by
  rw[lN] at ht
  cases hnm:(L n).nm with
  | none =>
   rw[hvx.lsl_nil hnm] at ht
   split at ht<;>cases ht
  | some q =>
   rw[hvx.lsl_some hnm] at ht
   split at ht
   ·simp only at ht
    split at ht
    ·cases ht
    ·obtain⟨rfl,_⟩:q=k∧_=k2:=by simpa using ht
     rfl
   ·cases ht
 obtain⟨i,z0,hi,hz0,hcl,hzz,hsz,hat⟩:=fW hz
 have hszi:i.size=es:=by omega
 obtain⟨hl1,hl2⟩:=hlim
 have hbt:lH P e=i.bytes:=by simp[lH,hi]
 rw[hbt] at hl2
 unfold cK at hsl
 split at hsl
 ·rename_i e' hu
  obtain rfl:=a6 hsl
  have hzs:(i.zero.map fun z=>z.cells.size)=some i.size:=by
   rw[hz0,Option.map_some];congr 1;rw[← hzz] at hsz;simpa using hsz
  have hxop : ∀ (v : Value) (h1 : List Blk) (w1 : Option Nat), cQ P ⟨t0 :: t1 :: tys⟩ (ev tm x) (ev tm y) h = some (v, h1, w1) →
      xop C P (ev tm) { dst:=dst,op:=.call { callee:=.builtin .append,args:=#[x,y],argTypes:=⟨t0::t1::tys⟩ },type:=ty,pos:=pos,after:=aft,guard:=gd } h=some (v,h1,w1):=by
   intro v h1 w1 hv
   simp only[xop,hop,bhop,iB,if_true,hv]
  have hsrc:∃ c,eS h i.size (ev tm y)=some (new.length,c)∧c.length=new.length*es∧VLs Fz h noL new.flatten c:=by
   rw[hszi]
   generalize ev tm y=vy at *
   cases hvy with
   | nillist=>exact⟨[],rfl,by simp,VLs.nil⟩
   | vague=>exact⟨[],rfl,by simp,VLs.nil⟩
   | list _ _ _ m o c cs eb hn' hb' he' hw' hc' hle' ha' =>
    refine⟨(cs.drop o).take (new.length*es),?_,by simp;omega,?_⟩
    ·simp only[eS,aL,hb']
     rw[b8 hle']
     rfl
    ·have:=VLs.seg (Fz:=Fz) (h:=h) (L:=noL) (l:=new.flatten) (cs:=cs) (b:=o) (by rw[cL hw'];exact hle') ha'
     rwa [cL hw'] at this
  obtain⟨c,hc1,hc2,hc3⟩:=hsrc
  have hcl1:c.all (·.oneCell')=true:=tones hc3 (by
   rw[a8]
   intro p hp
   simp only[List.mem_flatten] at hp
   obtain⟨r,hr,hp⟩:=hp
   exact a8.1 (hone r hr) p hp)
  obtain⟨q1,q2,q3,q4,q5⟩:=hs.blk n _ hb
  have hpop:(aP (ev tm x)=false∨aP (ev tm y)=false)→Rex.pop P (ev tm) { dst:=dst,op:=.call { callee:=.builtin .append,args:=#[x,y],argTypes:=⟨t0::t1::tys⟩ },type:=ty,pos:=pos,after:=aft,guard:=gd }=none:=by
   intro hcl
   have e:Rex.pop P (ev tm) { dst:=dst,op:=.call { callee:=.builtin .append,args:=#[x,y],argTypes:=⟨t0::t1::tys⟩ },type:=ty,pos:=pos,after:=aft,guard:=gd }=eU P (ev tm) { dst:=dst,op:=.call { callee:=.builtin .append,args:=#[x,y],argTypes:=⟨t0::t1::tys⟩ },type:=ty,pos:=pos,after:=aft,guard:=gd }:=uM rfl
   rw[e]
   unfold eU
   simp only
   rw[d5]
   rw[show (Op.call { callee:=.builtin .append,args:=#[x,y],argTypes:=⟨t0::t1::tys⟩ }).operands.toList=[x,y] by simp[Op.operands,Call.operands]]
   rcases hcl with hcl|hcl<;>simp[mB hcl]
  have hB:=hs.lowB
  have hwn:∀ r∈rows++new,r.length=es:=fun r hr=>by
   rcases List.mem_append.1 hr with hr|hr
   ·exact q4 r hr
   ·exact hw r hr
  rcases q5 with⟨qn,rfl⟩|⟨nm,cs,e1,e2,e3,e4,e5⟩
  ·
   have hvx':ev tm x = .slice none 0 0:=by
    exact hvx.lsl_nil qn
   have hmk:∀ a b d,sP (ev tm y) a b d = .cells b d:=by
    intro a b d
    generalize ev tm y=vy at *
    cases hvy<;>rfl
   have hst : cQ P ⟨t0 :: t1 :: tys⟩ (ev tm x) (ev tm y) h = (if new.length = 0 then (if c.isEmpty = true then some (.slice none 0 0, h, none) else none)
           else if new.length≤2^40∧new.length*i.bytes≤140737488355328∧((i.zero.map fun z=>z.cells.size)=some i.size)∧c.length=new.length*i.size then
            some (.slice (some ⟨h.length,0,none⟩) new.length new.length,h++[.cells i.size c],none)
           else none):=by
    unfold cQ
    simp only[List.getElem?_toArray,List.getElem?_cons_zero,List.getElem?_cons_succ,hu,hi,hni,if_true,hc1,hvx',hmk]
   by_cases hn0:new.length=0
   ·have hnew:new=[]:=List.length_eq_zero_iff.1 hn0
    subst hnew
    have hce:c=[]:=by simpa using hc2
    subst hce
    suffices H:St h0 Fz L ⟨tput (s.tm.map (kill n 4)) dst (.lsl n 0 (([]:List (List TV)).length+([]:List (List TV)).length)),(s.hp.map (fP n)).set n (.rows es ([]++[]))⟩ (aN tm dst (.slice none 0 0)) h by
     rcases hpp:Rex.pop P (ev tm) { dst:=dst,op:=.call { callee:=.builtin .append,args:=#[x,y],argTypes:=⟨t0::t1::tys⟩ },type:=ty,pos:=pos,after:=aft,guard:=gd } with _|v
     ·exact .inr ⟨rfl,hT1,hT2,.slice none 0 0,h,none,hxop _ _ _ (by rw[hst];simp),.inl ⟨rfl,Ext.refl h⟩,.inl rfl,L,fun _ _=>rfl,Grow.refl _ _,H⟩
     ·refine .inl ⟨v,rfl,L,fun _ _=>rfl,Grow.refl _ _,?_⟩
      have hv:v = .slice none 0 0:=by
       have e:eU P (ev tm) { dst:=dst,op:=.call { callee:=.builtin .append,args:=#[x,y],argTypes:=⟨t0::t1::tys⟩ },type:=ty,pos:=pos,after:=aft,guard:=gd }=some v:=(uM rfl).symm.trans hpp
       unfold eU at e
       simp only at e
       split at e
       ·split at e
        ·rename_i v0 hp0
         split at e
         ·obtain rfl:=a6 e
          have r1:=cH hp0 (⟨#[],fun _ _=>0,0,default,#[]⟩:World)
          have hvy':ev tm y = .slice none 0 0:=by
           rename_i hall hpr hcv
           have hc:=a8.1 hall y (by simp[Op.operands,Call.operands])
           rcases hvy.list_clean with h1|h1
           ·exact h1.1
           ·rw[mB h1] at hc;cases hc
          have r2:=bF (P:=P) (ty:=ty) (argTypes:=⟨t0::t1::tys⟩) (base:=none) (len:=0) (cap:=0) (n:=0) (x:=.slice none 0 0) (new:=[]) (w:=(⟨#[],fun _ _=>0,0,default,#[]⟩:World)) (w':=(⟨#[],fun _ _=>0,0,default,#[]⟩:World)) rfl hu hi hni rfl rfl (a9 _) rfl
          have r3:(execOp (ev tm) { dst:=dst,op:=.call { callee:=.builtin .append,args:=#[x,y],argTypes:=⟨t0::t1::tys⟩ },type:=ty,pos:=pos,after:=aft,guard:=gd }).run P (⟨#[],fun _ _=>0,0,default,#[]⟩:World) = .ok (.value (.slice none 0 0)) (⟨#[],fun _ _=>0,0,default,#[]⟩:World):=by
           have ee:execOp (ev tm) { dst:=dst,op:=.call { callee:=.builtin .append,args:=#[x,y],argTypes:=⟨t0::t1::tys⟩ },type:=ty,pos:=pos,after:=aft,guard:=gd }=(do pure (.value (← Builtin.append_ ⟨t0::t1::tys⟩ ty #[ev tm x,ev tm y]))):=by
            simp only[execOp,resolve,invoke,List.map_toArray,List.map_cons,List.map_nil]
            rfl
           rw[ee,hvx',hvy']
           simp only[Sem.run_bind,r2,Result.andThen_ok,Sem.run_pure]
          rw[r3] at r1
          injection r1 with r1 _
          injection r1 with r1
          exact r1.symm
         ·cases e
        ·cases e
       ·cases e
      subst hv
      exact H
    have hk:∀ m,m≠n→L m=L m:=fun _ _=>rfl
    refine⟨?_,?_,fun k hk'=>by simpa using hs.dom k hk',?_,hs.fz,hs.ext⟩
    ·refine nF ⟨by simp[hs.tmr.len],fun j p y hp hy=>?_⟩ dst ?_
     ·rw[d2] at hp
      cases hq:s.tm[j]? with
      | none=>rw[hq] at hp;cases hp
      | some q=>rw[hq] at hp;obtain rfl:=a6 hp;exact (hs.tmr.at' j q y hq hy).kill hk 4
     ·exact .lslnil L n q1 qn
    ·intro k b' hkb
     by_cases e:k=n
     ·subst e
      rw[d8 (by simpa using (a7.1 hb).1)] at hkb
      obtain rfl:=a6 hkb
      exact⟨q1,q2,q3,hwn,.inl ⟨qn,rfl⟩⟩
     ·rw[d6 (Ne.symm e),d2] at hkb
      cases hq:s.hp[k]? with
      | none=>rw[hq] at hkb;cases hkb
      | some b0 =>
       rw[hq] at hkb
       obtain rfl:=a6 hkb
       have hB0:=hs.blk k b0 hq
       cases b0 with
       | dead=>trivial
       | rows es' rows'=>exact hB0
       | var row =>
        obtain⟨q1,nm',cs',e1,e2,e3,e4,e5⟩:=hB0
        refine⟨q1,nm',cs',e1,e2,e3,e4,by simp[e5.len],fun j p y hp hy=>?_⟩
        rw[d2] at hp
        cases hq:row[j]? with
        | none=>rw[hq] at hp;cases hp
        | some q=>rw[hq] at hp;obtain rfl:=a6 hp;exact (e5.at' j q y hq hy).kill hk 4
       | tbl row=>exact hB0
    ·intro k k' c c' x h1 h2 l1 l2 e1 e2
     have g:∀(k:Nat) (c:TB),((s.hp.map (fP n)).set n (.rows es ([]++[])))[k]?=some c→c.live=true→∃ b0:TB,s.hp[k]?=some b0∧b0.live=true:=by
      intro k c hk' hl
      by_cases e:k=n
      ·subst e;exact⟨_,hb,rfl⟩
      ·rw[d6 (Ne.symm e),d2] at hk'
       cases hq:s.hp[k]? with
       | none=>rw[hq] at hk';cases hk'
       | some b0 =>
        rw[hq] at hk'
        obtain rfl:=a6 hk'
        refine⟨b0,rfl,?_⟩
        cases b0<;>first|rfl|exact hl
     obtain⟨b1,g1,g2⟩:=g k c h1 l1
     obtain⟨b2,g3,g4⟩:=g k' c' h2 l2
     exact hs.inj k k' b1 b2 x g1 g3 g2 g4 e1 e2
   ·simp only[List.length_nil,Nat.zero_add] at hl1 hl2
    rw[d5 hn0,b8 ⟨hl1,hl2,hzs,by rw[hc2,hszi]⟩] at hst
    have hfl:VLs Fz (h++[.cells i.size c]) noL new.flatten c:=hc3.mono (fun _ h=>h) fun k hk'=>by
     rw[b4 (hs.fz k hk')]
    have hycl:aP (ev tm y)=false:=by
     rcases hvy.list_clean with h1|h1
     ·rw[h1.2] at hn0;simp at hn0
     ·exact h1
    refine .inr ⟨hpop (.inr hycl),hT1,hT2,_,_,none,hxop _ _ _ hst,.inl ⟨rfl,Ext.app _ _⟩,.inl rfl,(fun m=>if m=n then (⟨true,some h.length,es,([]++new).length⟩:LI) else L m),fun j hj=>d5 hj,Grow.ext hs.fz (Ext.app _ _),?_⟩
    have hr:=hs.renew (n:=n) (es:=es) (nm:=h.length) hb (h':=h++[.cells i.size c]) (cs:=c) (rows:=[]++new) (fun k hk'=>by rw[b4 (hs.fz k hk')])
     (fun m b' k hm hb' hl hn=>by
      have:=(hB m b' k hb' hl hn).1
      exact⟨by rw[b4 this],this⟩) (by rw[hszi];simp) hs.ext.le (fun hf=>by have:=hs.fz _ hf;omega) (by simp) (hs.ext.trans (Ext.app _ _)) hwn (by simpa using hfl)
    refine hr.put dst ?_
    have:=VL.lsl (Fz:=Fz) (h:=h++[.cells i.size c]) (fun m=>if m=n then (⟨true,some h.length,es,([]++new).length⟩:LI) else L m) n 0 new.length h.length (by simp) (by simp) (by simp)
    simpa using this
  ·
   have hcl':cs.length=rows.length*es:=by rw[e5.len,cL q4]
   have hvx':ev tm x = .slice (some ⟨nm,0,none⟩) rows.length rows.length:=by
    rw[hvx.lsl_some e1,q3];simp
   have hst : cQ P ⟨t0 :: t1 :: tys⟩ (ev tm x) (ev tm y) h = (if new.length = 0 then (if c.isEmpty = true then some (.slice (some ⟨nm, 0, none⟩) rows.length rows.length, h, none) else none)
           else if rows.length+new.length≤rows.length then (aS h nm (0+rows.length*i.size) c).map fun h'=>(.slice (some ⟨nm,0,none⟩) (rows.length+new.length) rows.length,h',some nm)
           else
            match h[nm]? with
            | some (.cells es cs) =>
             if es=i.size∧0+rows.length*i.size=cs.length∧c.length=new.length*i.size∧c.all (·.oneCell')=true∧rows.length+new.length≤2^40∧(rows.length+new.length)*i.bytes≤140737488355328∧((i.zero.map fun z=>z.cells.size)=some i.size) then
              some (.slice (some ⟨h.length,0,none⟩) (rows.length+new.length) (rows.length+new.length),h.set nm .dead++[.cells es (cs.drop 0++c)],some nm)
             else none
            | _=>none):=by
    unfold cQ
    simp only[List.getElem?_toArray,List.getElem?_cons_zero,List.getElem?_cons_succ,hu,hi,hni,if_true,hc1,hvx']
    rfl
   by_cases hn0:new.length=0
   ·have hnew:new=[]:=List.length_eq_zero_iff.1 hn0
    subst hnew
    have hce:c=[]:=by simpa using hc2
    subst hce
    refine .inr ⟨hpop (.inl (by rw[hvx'];rfl)),hT1,hT2,.slice (some ⟨nm,0,none⟩) rows.length rows.length,h,none,hxop _ _ _ (by rw[hst];simp),.inl ⟨rfl,Ext.refl h⟩,.inl rfl,(fun m=>if m=n then (⟨true,some nm,es,(rows++[]).length⟩:LI) else L m),fun j hj=>d5 hj,Grow.refl _ _,?_⟩
    have hLe:(fun m=>if m=n then (⟨true,some nm,es,(rows++[]).length⟩:LI) else L m)=L:=by
     funext m
     by_cases e:m=n
     ·subst e
      rw[b8 rfl]
      generalize L m=li at *
      obtain⟨a1,a2,a3,a4⟩:=li
      simp_all
     ·rw[d5 e]
    rw[hLe]
    have hk:∀ m,m≠n→L m=L m:=fun _ _=>rfl
    have hmap:∀(l:List TV) (x:List Value),VLs Fz h L l x→VLs Fz h L (l.map (kill n 4)) x:=by
     intro l x hx
     refine⟨by simp[hx.len],fun i p y hp hy=>?_⟩
     rw[d2] at hp
     cases hq:l[i]? with
     | none=>rw[hq] at hp;cases hp
     | some q=>rw[hq] at hp;obtain rfl:=a6 hp;exact (hx.at' i q y hq hy).kill hk 4
    refine⟨nF (hmap _ _ hs.tmr) dst ?_,?_,fun k hk'=>by simpa using hs.dom k hk',?_,hs.fz,hs.ext⟩
    ·have:=VL.lsl (Fz:=Fz) (h:=h) L n 0 rows.length nm q1 e1 (by rw[q3];omega)
     rw[q3] at this
     simpa using this
    ·intro k b' hkb
     by_cases e:k=n
     ·subst e
      rw[d8 (by simpa using (a7.1 hb).1)] at hkb
      obtain rfl:=a6 hkb
      rw[List.append_nil]
      exact hs.blk k _ hb
     ·rw[d6 (Ne.symm e),d2] at hkb
      cases hq:s.hp[k]? with
      | none=>rw[hq] at hkb;cases hkb
      | some b0 =>
       rw[hq] at hkb
       obtain rfl:=a6 hkb
       have hB0:=hs.blk k b0 hq
       cases b0 with
       | dead=>trivial
       | rows es' rows'=>exact hB0
       | var row =>
        obtain⟨q1,nm',cs',e1,e2,e3,e4,e5⟩:=hB0
        exact⟨q1,nm',cs',e1,e2,e3,e4,hmap _ _ e5⟩
       | tbl row=>exact hB0
    ·intro k k' c c' x h1 h2 l1 l2 e1 e2
     have g:∀(k:Nat) (c:TB),((s.hp.map (fP n)).set n (.rows es (rows++[])))[k]?=some c→c.live=true→∃ b0:TB,s.hp[k]?=some b0∧b0.live=true:=by
      intro k c hk' hl
      by_cases e:k=n
      ·subst e;exact⟨_,hb,rfl⟩
      ·rw[d6 (Ne.symm e),d2] at hk'
       cases hq:s.hp[k]? with
       | none=>rw[hq] at hk';cases hk'
       | some b0 =>
        rw[hq] at hk'
        obtain rfl:=a6 hk'
        refine⟨b0,rfl,?_⟩
        cases b0<;>first|rfl|exact hl
     obtain⟨b1,g1,g2⟩:=g k c h1 l1
     obtain⟨b2,g3,g4⟩:=g k' c' h2 l2
     exact hs.inj k k' b1 b2 x g1 g3 g2 g4 e1 e2
   ·have hT3 : ∃ k k2, touch (ev tm) { dst := dst, op := .call { callee := .builtin .append, args := #[x, y], argTypes := ⟨t0 :: t1 :: tys⟩ }, type := ty, pos := pos, after := aft, guard := gd } = some (.ap k k2) := by
      rw[lN,hvx']
      generalize ev tm y=vy at *
      cases hvy with
      | nillist=>simp at hn0
      | vague=>simp at hn0
      | list _ _ _ m o' c' cs' eb hn' hb' he' hw' hc' hle' ha' =>
       cases hnl:new.length with
       | zero=>exact absurd hnl hn0
       | succ q =>
        have hne:nm≠m:=by rintro rfl;exact e3 hn'
        cases hrl:rows.length with
        | zero=>simp only[hne,if_false];exact⟨nm,m,rfl⟩
        | succ q'=>simp only[hne,if_false];exact⟨nm,m,rfl⟩
    rw[d5 hn0,d5 (by omega),e4] at hst
    simp only at hst
    rw[b8 ⟨hszi.symm,by rw[hszi];omega,by rw[hc2,hszi],hcl1,hl1,hl2,hzs⟩,List.drop_zero] at hst
    have hltn:=(a7.1 e4).1
    have hhk:∀ k,k≠nm→k<h.length→(h.set nm .dead++[Blk.cells es (cs++c)])[k]?=h[k]?:=fun k hne hlt=>by
     rw[b4 (by simpa using hlt),d6 (Ne.symm hne)]
    have hhf:∀ k,Fz k→(h.set nm .dead++[Blk.cells es (cs++c)])[k]?=h[k]?:=fun k hk'=>hhk k (by rintro rfl;exact e3 hk') (hs.fz k hk')
    have hextw:Ext h0 (h.set nm .dead++[Blk.cells es (cs++c)]):=by
     obtain⟨t,rfl⟩:=hs.ext
     exact⟨t.set (nm-h0.length) .dead++[Blk.cells es (cs++c)],by rw[List.set_append_right _ _ e2,List.append_assoc]⟩
    refine .inr ⟨hpop (.inl (by rw[hvx'];rfl)),hT1,hT2,_,_,some nm,hxop _ _ _ hst,.inr ⟨nm,rfl,e2,hltn,by simp⟩,.inr hT3,(fun m=>if m=n then (⟨true,some h.length,es,(rows++new).length⟩:LI) else L m),fun j hj=>d5 hj,⟨fun _ h=>h,fun _ h=>.inl h,hhf⟩,?_⟩
    have hr:=hs.renew (n:=n) (es:=es) (nm:=h.length) hb (h':=h.set nm .dead++[Blk.cells es (cs++c)]) (cs:=cs++c) (rows:=rows++new) hhf
     (fun m b' k hm hb' hl hn=>by
      have:=(hB m b' k hb' hl hn).1
      exact⟨hhk k (by rintro rfl;exact hm (hs.inj m n b' _ k hb' hb hl rfl hn e1)) this,this⟩) (by
       rw[b7 (by simp)];simp) (Nat.le_of_lt (Nat.lt_of_le_of_lt e2 hltn)) (fun hf=>by have:=hs.fz _ hf;omega) (by simp) hextw hwn (by
       rw[List.flatten_append]
       exact (e5.append hc3).mono (fun _ h=>h) hhf)
    refine hr.put dst ?_
    have:=VL.lsl (Fz:=Fz) (h:=h.set nm .dead++[Blk.cells es (cs++c)]) (fun m=>if m=n then (⟨true,some h.length,es,(rows++new).length⟩:LI) else L m) n 0 (rows.length+new.length) h.length (by simp) (by simp) (by simp)
    simpa using this
 ·cases hsl
theorem OpW.append{x y:Operand}{t0 t1 e:TypeId}{tys:List TypeId}{n len es:Nat}{rows new:List (List TV)}{z:List Value}(hx:tev s.tm x = .lsl n 0 len)(hb:s.hp[n]?=some (.rows es rows))(hlen:len=rows.length)(hy:tev s.tm y = .list es new)
 (hsl:cK P t0=some e) (hni:fN P (some t1)=true) (hz:eG P e=some z) (hes:z.length=es) (hlim:Bo P e (rows.length+new.length)) (hw:∀ r∈new,r.length=es) (hone:∀ r∈new,r.all tone=true) (hlf:∀ r∈new,r.all (lf 4)=true) :
 OpW C P { dst:=dst,op:=.call { callee:=.builtin .append,args:=#[x,y],argTypes:=⟨t0::t1::tys⟩ },type:=ty,pos:=pos,after:=aft,guard:=gd } s
  ⟨tput (s.tm.map (kill n 4)) dst (.lsl n 0 (rows.length+new.length)),(s.hp.map (fP n)).set n (.rows es (rows++new))⟩:=
 (OpA.append hx hb hlen hy hsl hni hz hes hlim hw hone hlf).toW
end
end Go.Rex
namespace Go.Rex
open Go.RowKit
section
variable {C:Ctx} {P:Program} {Fz:Nat→Prop} {h h0:List Blk} {L:Nat→LI} {s:TS} {tm:List Value}
variable {dst:Option Tmp} {ty:TypeId} {pos:String} {aft:Array Edge} {gd:Option (Nat×Bool)}
theorem sS{g:FuncId}{f:Operand}{args:Array Operand}{tys:Array TypeId}{first caps:List Value}(hf:ev tm f = .func (.func g) ⟨first⟩ ⟨caps⟩)(hg:dP P g=true) :
 xop C P (ev tm) { dst:=dst,op:=.call { callee:=.value f,args:=args,argTypes:=tys },type:=ty,pos:=pos,after:=aft,guard:=gd } h=C.call g (first++(args.toList.map (ev tm)++caps)) h:=by
 simp only[xop,hop,bhop]
 rw[yY]
 simp only[hf]
 rw[b8 hg]
theorem sJ(hz:FZ Fz h)(hs:VLs Fz h L s.tm tm)(args:List Operand):VLs Fz h L (args.map (tev s.tm)) (args.map (ev tm)):=by
 refine⟨by simp,fun i p x hp hx=>?_⟩
 rw[d2] at hp hx
 cases hq:args[i]? with
 | none=>rw[hq] at hp;cases hp
 | some q =>
  rw[hq] at hp hx
  obtain rfl:=a6 hp
  obtain rfl:=a6 hx
  exact bQ hz hs q
theorem VLs.toNo{l:List TV}{x:List Value}(hs:VLs Fz h L l x)(hl:l.all (lf 4)=true){L':Nat→LI}:VLs Fz h L' l x:=
 ⟨hs.len,fun i p y hp hy=>VL.toNo 4 (by simpa using a8.1 hl p (b6 hp)) (hs.at' i p y hp hy)⟩
theorem OpGs.call{f:Operand}{g:FuncId}{args:Array Operand}{tys:Array TypeId}{first caps as:List TV}{p:TV}{th:List TB}(hf:tev s.tm f = .func g first caps)(hg:dP P g=true)(has:first++(args.toList.map (tev s.tm)++caps)=as)
 (hl:as.all (lf 4)=true) (hsp:Spec C g as ⟨[p],th⟩) (hth:th.all pR=true) :
 OpGs C P { dst:=dst,op:=.call { callee:=.value f,args:=args,argTypes:=tys },type:=ty,pos:=pos,after:=aft,guard:=gd } s ⟨tput s.tm dst (shift s.hp.length 4 p),s.hp++th⟩:=by
 intro h0 Fz L tm h hs
 subst has
 have hfv:=bQ hs.fz hs.tmr f
 rw[hf] at hfv
 obtain⟨f',c',hfe,vf,vc⟩:∃ f' c',ev tm f = .func (.func g) ⟨f'⟩ ⟨c'⟩∧VLs Fz h noL first f'∧VLs Fz h noL caps c':=by
  generalize ev tm f=y at *
  cases hfv with
  | func _ _ _ _ a' b' la ha lb hb=>exact⟨a',b',rfl,⟨la,ha⟩,⟨lb,hb⟩⟩
 have hargs:VLs Fz h noL (first++(args.toList.map (tev s.tm)++caps)) (f'++(args.toList.map (ev tm)++c')):=by
  refine VLs.append vf (VLs.append (VLs.toNo (sJ hs.fz hs.tmr args.toList) ?_) vc)
  simp only[List.all_append,Bool.and_eq_true] at hl
  exact hl.2.1
 obtain⟨v,h',F1,L1,hc,g1,hr⟩:=hsp Fz h _ hs.fz hargs
 obtain⟨L3,h3,h4⟩:=hs.adopt2 dst hr hth g1
 refine⟨rfl,rfl,v,h',by rw[sS hfe hg];exact hc,hr.ext,F1,L3,⟨g1.1,fun n hn=>?_,g1.3⟩,h3,fun n hn=>g1.2 n hn,h4⟩
 rcases g1.2 n hn with h1|h1
 ·exact .inl h1
 ·exact .inr (e6 hs.ext.le h1)
theorem OpG.call{f:Operand}{g:FuncId}{args:Array Operand}{tys:Array TypeId}{first caps as:List TV}{p:TV}{th:List TB}(hf:tev s.tm f = .func g first caps)(hg:dP P g=true)(has:first++(args.toList.map (tev s.tm)++caps)=as)
 (hl:as.all (lf 4)=true) (hsp:Spec C g as ⟨[p],th⟩) (hth:th.all pR=true) :
 OpG C P { dst:=dst,op:=.call { callee:=.value f,args:=args,argTypes:=tys },type:=ty,pos:=pos,after:=aft,guard:=gd } s ⟨tput s.tm dst (shift s.hp.length 4 p),s.hp++th⟩:=(OpGs.call hf hg has hl hsp hth).toG
def view(hp:List TB):Nat→TV→TV
 | 0,_=>.Z
 | d+1,p=>match p with
  | .lsl n o len=>(match hp[n]? with
   | some (.rows es rows)=>.list es ((rows.drop o).take len)
   | _=>.Z)
  | .lptr n r o=>(match cP hp (.lptr n r o) with
   | some (row,o)=>if row.all (lf 4)=true then .fptr false row o else .Z
   | none=>.Z)
  | .lmap _=>.Z
  | .agg l=>.agg (l.map (view hp d))
  | .tuple l=>.tuple (l.map (view hp d))
  | p=>p
def sM(Fz:Nat→Prop)(L:Nat→LI)(s:TS):Nat→Prop:=fun k=>Fz k∨∃ n b,s.hp[n]?=some b∧b.live=true∧(L n).nm=some k
theorem VL.view(hs:St h0 Fz L s tm h):∀(d:Nat) {p:TV} {x:Value},VL Fz h L p x→VL (sM Fz L s) h noL (view s.hp d p) x
 | 0,p,x,hp=>by rw[Rex.view];exact .Z noL x
 | d+1,p,x,hp=>by
  have hF:∀ n,Fz n→sM Fz L s n:=fun n hn=>.inl hn
  have key:∀(l:List TV) (l':List Value),(∀(i:Nat) p x,l[i]?=some p→l'[i]?=some x→VL Fz h L p x)→∀(i:Nat) p x,(l.map (Rex.view s.hp d))[i]?=some p→l'[i]?=some x→VL (sM Fz L s) h noL p x:=by
   intro l l' ha i p x hp hx
   rw[d2] at hp
   cases hq:l[i]? with
   | none=>rw[hq] at hp;cases hp
   | some q=>rw[hq] at hp;obtain rfl:=a6 hp;exact VL.view hs d (ha i q x hq hx)
  cases hp with
  | Z _ x=>exact .Z noL x
  | v _ x hx=>exact .v noL x hx
  | agg _ l l' hl ha=>exact .agg noL _ l' (by simp[hl]) (key l l' ha)
  | tuple _ l l' hl ha=>exact .tuple noL _ l' (by simp[hl]) (key l l' ha)
  | func _ f a b a' b' la ha lb hb=>exact (VL.func noL f a b a' b' la ha lb hb).mono hF (fun _ _=>rfl)
  | nillist _ es=>exact .nillist noL es
  | vague _ es=>exact .vague noL es
  | list _ es rows n o c cs eb hn hb he hw hc hle ha=>exact (VL.list noL es rows n o c cs eb hn hb he hw hc hle ha).mono hF (fun _ _=>rfl)
  | fptr _ vb row off n base es cs hn hb hv hle ha=>exact (VL.fptr noL vb row off n base es cs hn hb hv hle ha).mono hF (fun _ _=>rfl)
  | lptr _ n r o nm ok hn =>
   simp only[Rex.view]
   split
   ·rename_i row o' hr
    split
    ·rename_i hlf
     have hbl:∃ b,s.hp[n]?=some b∧b.live=true:=by
      simp only[cP] at hr
      split at hr
      ·rename_i hb;exact⟨_,hb,rfl⟩
      ·rename_i hb;exact⟨_,hb,rfl⟩
      ·cases hr
     obtain⟨b,hb,hlv⟩:=hbl
     obtain⟨n',bb,es,cs,he,hcs,hle,hv⟩:=mP hs (VL.lptr (Fz:=Fz) (h:=h) L n r o nm ok hn) hr
     injection he with he
     injection he with he
     injection he with he1 he2
     subst he1
     rw[he2]
     have:=VL.fptr (Fz:=sM Fz L s) (h:=h) noL false row o' nm bb es cs (.inr ⟨n,b,hb,hlv,hn⟩) hcs (fun h=>by cases h) hle (fun j p x h1 h2=>by
      have hjl:=(a7.1 h1).1
      have h3:((cs.drop bb).take row.length)[j]?=some x:=by
       rw[i0,b8 hjl,g7];exact h2
      exact (VL.toNo 4 (by simpa using a8.1 hlf p (b6 h1)) (hv.at' j p x h1 h3)).mono hF (fun _ _=>rfl))
     exact this
    ·exact .Z noL _
   ·exact .Z noL _
  | lmap _ n nm ok hn=>exact .Z noL _
  | lslnil _ n ok hn =>
   simp only[Rex.view]
   split
   ·simp only[List.take_zero];exact .nillist noL _
   ·exact .Z noL _
  | lsl _ n o len nm ok hn hle =>
   simp only[Rex.view]
   split
   ·rename_i es rows hb
    obtain⟨q1,q2,q3,q4,q5⟩:=hs.blk n _ hb
    rcases q5 with q5|⟨nm',cs,e1,e2,e3,e4,e5⟩
    ·rw[q5.1] at hn;cases hn
    ·rw[hn] at e1
     obtain rfl:=a6 e1
     have hcl:cs.length=rows.length*es:=by rw[e5.len,cL q4]
     have:=VL.part (Fz:=sM Fz L s) (h:=h) (L:=noL) (es:=es) (rows:=rows) (n:=nm) (o:=0) (c:=(L n).tot-o) (cs:=cs) (.inr ⟨n,_,hb,rfl,hn⟩) e4 (.inl rfl) q4 (by omega) (fun j p x h1 h2=>by
      rw[g6] at h2
      exact (e5.at' j p x h1 h2).mono hF (fun _ _=>rfl)) o len (by rw[← q3];exact hle) (by omega)
     rw[g6] at this
     rw[q2]
     exact this
   ·exact .Z noL _
def qY:TB→Bool
 | .rows _ rows=>rows.all fun r=>r.all (cl 4)
 | .var row=>row.all (cl 4)
 | .dead=>true
 | .tbl _=>false
def eL(P:Program)(hp:List TB)(tm:List TV):List ResultVar→Option (List TV)
 | []=>some []
 | r::rs=>match tres (tload P hp) tm r with
  | some v=>(eL P hp tm rs).map fun vs=>v::vs
  | none=>none
theorem eM(hs:St h0 Fz L s tm h):∀(rs:List ResultVar) (ps:List TV),eL P s.hp s.tm rs=some ps→∃ vs,fC P h tm rs=some vs∧VLs Fz h L ps vs
 | [],ps,hp=>by obtain rfl:=a6 hp;exact⟨[],rfl,VLs.nil⟩
 | r::rs,ps,hp=>by
  simp only[eL] at hp
  split at hp
  ·rename_i p hr
   obtain⟨ps',h1,rfl⟩:=b9.1 hp
   obtain⟨vs,h2,h3⟩:=eM hs rs ps' h1
   have:∃ v,xG P h tm r=some v∧VL Fz h L p v:=by
    cases r with
    | tmp t =>
     simp only[tres] at hr
     obtain rfl:=a6 hr
     exact⟨_,rfl,bQ hs.fz hs.tmr (.tmp t)⟩
    | cell a t =>
     simp only[tres] at hr
     obtain⟨n,o,v,hx,hl,hv⟩:=mN hs (bQ hs.fz hs.tmr (.tmp a)) hr
     refine⟨v,?_,hv⟩
     simp only[ev] at hx
     simp only[xG,hx,hl]
   obtain⟨v,h4,h5⟩:=this
   exact⟨v::vs,by simp only[fC,h4,h2,Option.map_some],VLs.cons h5 h3⟩
  ·cases hp
theorem Spec.fn{f:FuncId}{fd:Func}{c:Code}{args:List TV}{r:TS}(hf:P.funcs[f]?=some fd)(hb:fd.body=some c){tm0:List TV}(htm:args++List.replicate (fd.ntmps-args.length) TV.Z=tm0)
 (hx:TX (lim P) P c ⟨tm0,[]⟩ (fun e s=>(e = .normal∨e = .ret)∧∃ ps,eL P s.hp s.tm fd.results.toList=some ps∧Wk ⟨[yW ps],s.hp⟩ r)) (hcov:cov r=true):Spec (lim P) f args r:=by
 intro Fz h vs hfz hargs
 subst htm
 have hs:St h Fz noL ⟨args++List.replicate (fd.ntmps-args.length) TV.Z,[]⟩ (vs++List.replicate (fd.ntmps-vs.length) undef) h:=by
  refine⟨?_,fun n b hb=>by simp at hb,fun n hn=>by simp[noL] at hn,fun n n' b b' nm hb=>by simp at hb,hfz,Ext.refl h⟩
  refine VLs.append hargs ?_
  rw[hargs.len]
  exact VLs.replicate (.Z noL undef) _
 obtain⟨K,e,a1,h1,w1,hexec,hw,hdf,s1,F1,L1,⟨he,ps,hps,hwk⟩,g1,hs1⟩:=hx h Fz noL _ h hs
 obtain⟨vs1,hres,hvs1⟩:=eM (P:=P) hs1 _ ps hps
 have hs2:St h F1 L1 ⟨[yW ps],s1.hp⟩ [bR vs1] h1:=⟨VLs.cons (wD hvs1) VLs.nil,hs1.blk,hs1.dom,hs1.inj,hs1.fz,hs1.ext⟩
 obtain⟨F2,L2,g2,hs3⟩:=hwk h F1 L1 _ h1 hs2
 have hm:wmin w1 none=w1:=by cases w1<;>rfl
 by_cases hcl:aP (bR vs1)=true
 ·obtain⟨L4,hs4⟩:=hs3.clean hcl hcov hfz
  refine⟨bR vs1,h,Fz,L4,eR (K:=K) ?_,Grow.refl _ _,hs4⟩
  unfold cC
  simp only[hf,hb,hexec]
  have hend:cW P fd h.length h a1 h1 w1=some (bR vs1,h,none):=by
   simp only[cW,hdf,aK,hres,hcl,if_true,hm,hw]
  rcases he with rfl|rfl<;>exact hend
 ·refine⟨bR vs1,h1,F2,L2,eR (K:=K) ?_,g1.trans g2,hs3⟩
  unfold cC
  simp only[hf,hb,hexec]
  have hend:cW P fd h.length h a1 h1 w1=some (bR vs1,h1,none):=by
   simp[cW,hdf,aK,hres,hcl,hm,hw]
  rcases he with rfl|rfl<;>exact hend
theorem Spec.ov{f g:FuncId}{args:List TV}{r:TS}(hs:Spec (lim P) g args r)(hne:g≠f):Spec (over P f) g args r:=by
 intro Fz h vs hfz hargs
 obtain⟨v,h',F1,L1,hc,g1,hr⟩:=hs Fz h vs hfz hargs
 refine⟨v,h',F1,L1,?_,g1,hr⟩
 rw[pX,d5 (fun hh=>hne hh.1)]
 exact hc
theorem Spec.awake{f:FuncId}:Spec (over P f) f [] ⟨[.v (.bool true)],[]⟩:=by
 intro Fz h vs hfz hargs
 have:vs=[]:=by have:=hargs.len;simpa using this
 subst this
 exact⟨.bool true,h,Fz,noL,by rw[pX,b8 ⟨rfl,rfl⟩],Grow.refl _ _,⟨VLs.cons (.v noL _ rfl) VLs.nil,fun n b hb=>by simp at hb,fun n hn=>by simp[noL] at hn,fun n n' b b' nm hb=>by simp at hb,hfz,Ext.refl h⟩⟩
theorem zP(hm:P.follows .mixedOrders=true){f:FuncId}(hv:AwT P f){g:FuncId}{fd:Func}{c:Code}{args:List TV}(hf:P.funcs[g]?=some fd)(hb:fd.body=some c)
 {tm0:List TV} (htm:args++List.replicate (fd.ntmps-args.length) TV.Z=tm0)
 (hx:TX (over P f) P c ⟨tm0,[]⟩ (fun e s=>(e = .normal∨e = .ret)∧eL P s.hp s.tm fd.results.toList=some [.v (.bool true)]))
 {Fz:Nat→Prop} {h:List Blk} {vs:List Value} (hfz:FZ Fz h) (hargs:VLs Fz h noL args vs)
 {B lo:Nat} {D:Nat→Prop} {m:NMap} {w:World} {args':List Value} (hr:Rel B lo D m h w) (hlo:lo≤h.length) (hargs':VRs D m vs args'):Calls P g ⟨args'⟩ w (fun e w'=>e = .returned (.bool true)∧Below w.heap.size w w'):=by
 refine yK hm hv hf hb (args:=vs) rfl ?_ hr hlo hargs'
 subst htm
 have hs:St h Fz noL ⟨args++List.replicate (fd.ntmps-args.length) TV.Z,[]⟩ (vs++List.replicate (fd.ntmps-vs.length) undef) h:=by
  refine⟨?_,fun n b hb=>by simp at hb,fun n hn=>by simp[noL] at hn,fun n n' b b' nm hb=>by simp at hb,hfz,Ext.refl h⟩
  refine VLs.append hargs ?_
  rw[hargs.len]
  exact VLs.replicate (.Z noL undef) _
 refine (hx h Fz noL _ h hs).mono ?_
 rintro e a' h' ⟨hd,s',F',L',⟨he,hres⟩,g,hs'⟩
 refine⟨he,hd,?_⟩
 obtain⟨vs1,h1,h2⟩:=eM (P:=P) hs' _ _ hres
 have hl:=h2.len
 match vs1,hl,h1,h2 with
 | [x],_,h1,h2 =>
  have:=h2.at' 0 _ x rfl rfl
  exact⟨[x],h1,by rw[this.bool_inv];rfl⟩
end
end Go.Rex
