/- An executor of the program's functions on trees of values,proved sound. -/
import Derived.Test.YtneefkifalbplaaGreatRexG8
import Derived.KernelRfl
import Derived.Test.YtneefkifalbplaaGreatRexG7
set_option linter.unusedSimpArgs false
set_option linter.unusedVariables false
set_option linter.defProp false
namespace Go.Rex
open Go.RowKit
section
variable {C:Ctx} {P:Program} {Fz:Nat→Prop} {h h0:List Blk} {L:Nat→LI} {s:TS} {tm:List Value}
variable {dst:Option Tmp} {ty:TypeId} {pos:String} {aft:Array Edge} {gd:Option (Nat×Bool)}
def pL(n:Nat):TB→TB
 | .var row=>.var (row.map (kill n 4))
 | b=>b
theorem St.renew(hs:St h0 Fz L s tm h){n es nm:Nat}{b:TB}(hb:s.hp[n]?=some b){h':List Blk}{cs:List Value}{rows:List (List TV)}(hh:∀ k,Fz k→h'[k]?=h[k]?)
 (hk:∀ m b' k,m≠n→s.hp[m]?=some b'→b'.live=true→(L m).nm=some k→h'[k]?=h[k]?∧k<nm) (hnm:h'[nm]?=some (.cells es cs)) (hlo:h0.length≤nm) (hnf:¬ Fz nm) (hfz:h.length≤h'.length) (hext:Ext h0 h')
 (hw:∀ r∈rows,r.length=es) (hv:VLs Fz h' noL rows.flatten cs) :
 St h0 Fz (fun m=>if m=n then ⟨true,some nm,es,rows.length⟩ else L m) ⟨s.tm.map (kill n 4),(s.hp.map (pL n)).set n (.rows es rows)⟩ tm h':=by
 have hL:∀ m,m≠n→(fun m=>if m=n then (⟨true,some nm,es,rows.length⟩:LI) else L m) m=L m:=fun m hm=>by simp only[if_neg hm]
 have hLn:(fun m=>if m=n then (⟨true,some nm,es,rows.length⟩:LI) else L m) n=⟨true,some nm,es,rows.length⟩:=by simp only[if_true]
 generalize (fun m=>if m=n then (⟨true,some nm,es,rows.length⟩:LI) else L m)=L' at hL hLn ⊢
 have hlt:=(List.getElem?_eq_some_iff.1 hb).1
 have hmap:∀(l:List TV) (x:List Value),VLs Fz h L l x→VLs Fz h' L' (l.map (kill n 4)) x:=by
  intro l x hx
  refine⟨by simp[hx.len],fun i p y hp hy=>?_⟩
  rw[List.getElem?_map] at hp
  cases hq:l[i]? with
  | none=>rw[hq] at hp;cases hp
  | some q=>rw[hq] at hp;obtain rfl:=Option.some.inj hp;exact ((hx.at' i q y hq hy).kill hL 4).mono (fun _ h=>h) hh
 have inv:∀(k:Nat) (b':TB),k≠n→((s.hp.map (pL n)).set n (.rows es rows))[k]?=some b'→∃ b0:TB,s.hp[k]?=some b0∧b0.live=b'.live∧b'=pL n b0:=by
  intro k b' e hk'
  rw[List.getElem?_set_ne (Ne.symm e),List.getElem?_map] at hk'
  cases hq:s.hp[k]? with
  | none=>rw[hq] at hk';cases hk'
  | some b0 =>
   rw[hq] at hk'
   obtain rfl:=Option.some.inj hk'
   refine⟨b0,rfl,?_,rfl⟩
   cases b0<;>rfl
 have at_n:((s.hp.map (pL n)).set n (.rows es rows))[n]?=some (.rows es rows):=List.getElem?_set_self (by simpa using hlt)
 refine⟨hmap _ _ hs.tmr,?_,?_,?_,hs.fz.to (fun _ h=>h) hh fun k hk'=>Nat.lt_of_lt_of_le (hs.fz k hk') hfz,hext⟩
 ·intro k b' hkb
  by_cases e:k=n
  ·subst e
   rw[at_n] at hkb
   obtain rfl:=Option.some.inj hkb
   exact⟨by rw[hLn],by rw[hLn],by rw[hLn],hw,.inr ⟨nm,cs,by rw[hLn],hlo,hnf,hnm,hv⟩⟩
  ·obtain⟨b0,hb0,hl0,rfl⟩:=inv k b' e hkb
   have hB0:=hs.blk k b0 hb0
   cases b0 with
   | dead=>trivial
   | rows es' rows' =>
    obtain⟨q1,q2,q3,q4,q5⟩:=hB0
    simp only[pL]
    unfold BR
    rw[hL k e]
    refine⟨q1,q2,q3,q4,?_⟩
    rcases q5 with q5|⟨nm',cs',e1,e2,e3,e4,e5⟩
    ·exact .inl q5
    ·exact .inr ⟨nm',cs',e1,e2,e3,by rw[(hk k _ nm' e hb0 rfl e1).1];exact e4,e5.mono (fun _ h=>h) hh⟩
   | var row =>
    obtain⟨q1,nm',cs',e1,e2,e3,e4,e5⟩:=hB0
    simp only[pL]
    unfold BR
    rw[hL k e]
    exact⟨q1,nm',cs',e1,e2,e3,by rw[(hk k _ nm' e hb0 rfl e1).1];exact e4,hmap _ _ e5⟩
 ·intro k hk'
  by_cases e:k=n
  ·subst e;simpa using hlt
  ·rw[hL k e] at hk'
   simpa using hs.dom k hk'
 ·intro k k' c c' x h1 h2 l1 l2 e1 e2
  by_cases a:k=n<;>by_cases b:k'=n
  ·rw[a,b]
  ·subst a
   rw[hLn] at e1
   obtain rfl:=Option.some.inj e1
   rw[hL k' b] at e2
   obtain⟨b0,hb0,hl0,rfl⟩:=inv k' c' b h2
   have:=(hk k' b0 nm b hb0 (by rw[hl0];exact l2) e2).2
   omega
  ·subst b
   rw[hLn] at e2
   obtain rfl:=Option.some.inj e2
   rw[hL k a] at e1
   obtain⟨b0,hb0,hl0,rfl⟩:=inv k c a h1
   have:=(hk k b0 nm a hb0 (by rw[hl0];exact l1) e1).2
   omega
  ·rw[hL k a] at e1
   rw[hL k' b] at e2
   obtain⟨b0,hb0,hl0,rfl⟩:=inv k c a h1
   obtain⟨b1,hb1,hl1,rfl⟩:=inv k' c' b h2
   exact hs.inj k k' b0 b1 x hb0 hb1 (by rw[hl0];exact l1) (by rw[hl1];exact l2) e1 e2
theorem VL.list_clean{es:Nat}{rows:List (List TV)}{x:Value}(hp:VL Fz h L (.list es rows) x):(x = .slice none 0 0∧rows=[])∨bN x=false:=by
 cases hp with
 | nillist=>exact .inl ⟨rfl,rfl⟩
 | vague=>exact .inr rfl
 | list=>exact .inr rfl
theorem VL.lsl_nil{n o len:Nat}{x:Value}(hp:VL Fz h L (.lsl n o len) x)(hn:(L n).nm=none):x = .slice none 0 0:=by
 cases hp with
 | lslnil=>rfl
 | lsl _ _ _ _ nm ok hn' hle=>rw[hn] at hn';cases hn'
theorem VL.lsl_some{n o len nm:Nat}{x:Value}(hp:VL Fz h L (.lsl n o len) x)(hn:(L n).nm=some nm):x = .slice (some ⟨nm,o*(L n).es,none⟩) len ((L n).tot-o):=by
 cases hp with
 | lslnil _ _ ok hn'=>rw[hn] at hn';cases hn'
 | lsl _ _ _ _ nm' ok hn' hle=>rw[hn] at hn';obtain rfl:=Option.some.inj hn';rfl
def aCk(P:Program)(e:TypeId)(n:Nat):Prop:=n≤2^40∧n*mW P e≤140737488355328
theorem St.lowB(hs:St h0 Fz L s tm h):∀ n b nm,s.hp[n]?=some b→b.live=true→(L n).nm=some nm→nm<h.length∧h0.length≤nm∧¬ Fz nm:=by
 intro n b nm hb hlv hn
 have:=hs.blk n b hb
 cases b with
 | dead=>cases hlv
 | rows es rows =>
  obtain⟨-,-,-,-,h5⟩:=this
  rcases h5 with h5|⟨nm',cs,e1,e2,e3,e4,e5⟩
  ·rw[h5.1] at hn;cases hn
  ·rw[e1] at hn;obtain rfl:=Option.some.inj hn
   exact⟨(List.getElem?_eq_some_iff.1 e4).1,e2,e3⟩
 | var row =>
  obtain⟨-,nm',cs,e1,e2,e3,e4,e5⟩:=this
  rw[e1] at hn;obtain rfl:=Option.some.inj hn
  exact⟨(List.getElem?_eq_some_iff.1 e4).1,e2,e3⟩
theorem Ai {ρ : Operand → Value} {x y : Operand} {tys : Array TypeId} : touch ρ { dst := dst, op := .call { callee := .builtin .append, args := #[x, y], argTypes := tys }, type := ty, pos := pos, after := aft, guard := gd } = (match ρ y with
        | .slice (some ⟨n2,_,none⟩) (_+1) _=>match ρ x with
         | .slice none 0 0=>some (.rd n2)
         | .slice (some ⟨n,_,none⟩) _ _=>if n=n2 then none else some (.ap n n2)
         | _=>none
        | _=>none):=by
 simp only[touch,if_true]
 rfl
theorem OpA.append{x y:Operand}{t0 t1 e:TypeId}{tys:List TypeId}{n len es:Nat}{rows new:List (List TV)}{z:List Value}(hx:tev s.tm x = .lsl n 0 len)(hb:s.hp[n]?=some (.rows es rows))(hlen:len=rows.length)(hy:tev s.tm y = .list es new)
 (hsl:bY P t0=some e) (hni:mS P (some t1)=true) (hz:fQ P e=some z) (hes:z.length=es) (hlim:aCk P e (rows.length+new.length)) (hw:∀ r∈new,r.length=es) (hone:∀ r∈new,r.all tone=true) (hlf:∀ r∈new,r.all (lf 4)=true) :
 OpA C P { dst:=dst,op:=.call { callee:=.builtin .append,args:=#[x,y],argTypes:=⟨t0::t1::tys⟩ },type:=ty,pos:=pos,after:=aft,guard:=gd } s
  ⟨tput (s.tm.map (kill n 4)) dst (.lsl n 0 (rows.length+new.length)),(s.hp.map (pL n)).set n (.rows es (rows++new))⟩ n:=by
 intro h0 Fz L tm h hs
 subst hlen
 have hvx:=dU hs.fz hs.tmr x
 have hvy:=dU hs.fz hs.tmr y
 rw[hx] at hvx
 rw[hy] at hvy
 have hT1:∀ k,touch (ev tm) { dst:=dst,op:=.call { callee:=.builtin .append,args:=#[x,y],argTypes:=⟨t0::t1::tys⟩ },type:=ty,pos:=pos,after:=aft,guard:=gd }≠some (.wr k):=fun k=>by
  rw[Ai]
  split
  ·split
   ·intro h;cases h
   ·split
    ·intro h;cases h
    ·intro h;cases h
   ·intro h;cases h
  ·intro h;cases h
 have hT2:∀ k k2,touch (ev tm) { dst:=dst,op:=.call { callee:=.builtin .append,args:=#[x,y],argTypes:=⟨t0::t1::tys⟩ },type:=ty,pos:=pos,after:=aft,guard:=gd }=some (.ap k k2)→(L n).nm=some k:=fun k k2 ht=>by
  rw[Ai] at ht
  cases hnm:(L n).nm with
  | none =>
   rw[hvx.lsl_nil hnm] at ht
   split at ht<;>cases ht
  | some q =>
   rw[hvx.lsl_some hnm] at ht
   split at ht
   ·simp only at ht
    split at ht
    ·cases ht
    ·obtain⟨rfl,_⟩:q=k∧_=k2:=by simpa using ht
     rfl
   ·cases ht
 obtain⟨i,z0,hi,hz0,hcl,hzz,hsz,hat⟩:=oT hz
 have hszi:i.size=es:=by omega
 obtain⟨hl1,hl2⟩:=hlim
 have hbt:mW P e=i.bytes:=by simp[mW,hi]
 rw[hbt] at hl2
 unfold bY at hsl
 split at hsl
 ·rename_i e' hu
  obtain rfl:=Option.some.inj hsl
  have hzs:(i.zero.map fun z=>z.cells.size)=some i.size:=by
   rw[hz0,Option.map_some];congr 1;rw[← hzz] at hsz;simpa using hsz
  have hxop : ∀ (v : Value) (h1 : List Blk) (w1 : Option Nat), jR P ⟨t0 :: t1 :: tys⟩ (ev tm x) (ev tm y) h = some (v, h1, w1) →
      xop C P (ev tm) { dst:=dst,op:=.call { callee:=.builtin .append,args:=#[x,y],argTypes:=⟨t0::t1::tys⟩ },type:=ty,pos:=pos,after:=aft,guard:=gd } h=some (v,h1,w1):=by
   intro v h1 w1 hv
   simp only[xop,hop,bhop,tE,if_true,hv]
  have hsrc:∃ c,oZ h i.size (ev tm y)=some (new.length,c)∧c.length=new.length*es∧VLs Fz h noL new.flatten c:=by
   rw[hszi]
   generalize ev tm y=vy at *
   cases hvy with
   | nillist=>exact⟨[],rfl,by simp,VLs.nil⟩
   | vague=>exact⟨[],rfl,by simp,VLs.nil⟩
   | list _ _ _ m o c cs eb hn' hb' he' hw' hc' hle' ha' =>
    refine⟨(cs.drop o).take (new.length*es),?_,by simp;omega,?_⟩
    ·simp only[oZ,bR,hb']
     rw[if_pos hle']
     rfl
    ·have:=VLs.seg (Fz:=Fz) (h:=h) (L:=noL) (l:=new.flatten) (cs:=cs) (b:=o) (by rw[jF hw'];exact hle') ha'
     rwa [jF hw'] at this
  obtain⟨c,hc1,hc2,hc3⟩:=hsrc
  have hcl1:c.all (·.oneCell')=true:=tones hc3 (by
   rw[List.all_eq_true]
   intro p hp
   simp only[List.mem_flatten] at hp
   obtain⟨r,hr,hp⟩:=hp
   exact List.all_eq_true.1 (hone r hr) p hp)
  obtain⟨q1,q2,q3,q4,q5⟩:=hs.blk n _ hb
  have hpop:(bN (ev tm x)=false∨bN (ev tm y)=false)→Rex.pop P (ev tm) { dst:=dst,op:=.call { callee:=.builtin .append,args:=#[x,y],argTypes:=⟨t0::t1::tys⟩ },type:=ty,pos:=pos,after:=aft,guard:=gd }=none:=by
   intro hcl
   have e:Rex.pop P (ev tm) { dst:=dst,op:=.call { callee:=.builtin .append,args:=#[x,y],argTypes:=⟨t0::t1::tys⟩ },type:=ty,pos:=pos,after:=aft,guard:=gd }=nG P (ev tm) { dst:=dst,op:=.call { callee:=.builtin .append,args:=#[x,y],argTypes:=⟨t0::t1::tys⟩ },type:=ty,pos:=pos,after:=aft,guard:=gd }:=Po rfl
   rw[e]
   unfold nG
   simp only
   rw[if_neg]
   rw[show (Op.call { callee:=.builtin .append,args:=#[x,y],argTypes:=⟨t0::t1::tys⟩ }).operands.toList=[x,y] by simp[Op.operands,Call.operands]]
   rcases hcl with hcl|hcl<;>simp[Aa hcl]
  have hB:=hs.lowB
  have hwn:∀ r∈rows++new,r.length=es:=fun r hr=>by
   rcases List.mem_append.1 hr with hr|hr
   ·exact q4 r hr
   ·exact hw r hr
  rcases q5 with⟨qn,rfl⟩|⟨nm,cs,e1,e2,e3,e4,e5⟩
  ·
   have hvx':ev tm x = .slice none 0 0:=by
    exact hvx.lsl_nil qn
   have hmk:∀ a b d,Pf (ev tm y) a b d = .cells b d:=by
    intro a b d
    generalize ev tm y=vy at *
    cases hvy<;>rfl
   have hst : jR P ⟨t0 :: t1 :: tys⟩ (ev tm x) (ev tm y) h = (if new.length = 0 then (if c.isEmpty = true then some (.slice none 0 0, h, none) else none)
           else if new.length≤2^40∧new.length*i.bytes≤140737488355328∧((i.zero.map fun z=>z.cells.size)=some i.size)∧c.length=new.length*i.size then
            some (.slice (some ⟨h.length,0,none⟩) new.length new.length,h++[.cells i.size c],none)
           else none):=by
    unfold jR
    simp only[List.getElem?_toArray,List.getElem?_cons_zero,List.getElem?_cons_succ,hu,hi,hni,if_true,hc1,hvx',hmk]
   by_cases hn0:new.length=0
   ·have hnew:new=[]:=List.length_eq_zero_iff.1 hn0
    subst hnew
    have hce:c=[]:=by simpa using hc2
    subst hce
    suffices H:St h0 Fz L ⟨tput (s.tm.map (kill n 4)) dst (.lsl n 0 (([]:List (List TV)).length+([]:List (List TV)).length)),(s.hp.map (pL n)).set n (.rows es ([]++[]))⟩ (bX tm dst (.slice none 0 0)) h by
     rcases hpp:Rex.pop P (ev tm) { dst:=dst,op:=.call { callee:=.builtin .append,args:=#[x,y],argTypes:=⟨t0::t1::tys⟩ },type:=ty,pos:=pos,after:=aft,guard:=gd } with _|v
     ·exact .inr ⟨rfl,hT1,hT2,.slice none 0 0,h,none,hxop _ _ _ (by rw[hst];simp),.inl ⟨rfl,Ext.refl h⟩,.inl rfl,L,fun _ _=>rfl,Grow.refl _ _,H⟩
     ·refine .inl ⟨v,rfl,L,fun _ _=>rfl,Grow.refl _ _,?_⟩
      have hv:v = .slice none 0 0:=by
       have e:nG P (ev tm) { dst:=dst,op:=.call { callee:=.builtin .append,args:=#[x,y],argTypes:=⟨t0::t1::tys⟩ },type:=ty,pos:=pos,after:=aft,guard:=gd }=some v:=(Po rfl).symm.trans hpp
       unfold nG at e
       simp only at e
       split at e
       ·split at e
        ·rename_i v0 hp0
         split at e
         ·obtain rfl:=Option.some.inj e
          have r1:=iR hp0 (⟨#[],fun _ _=>0,0,default,#[]⟩:World)
          have hvy':ev tm y = .slice none 0 0:=by
           rename_i hall hpr hcv
           have hc:=List.all_eq_true.1 hall y (by simp[Op.operands,Call.operands])
           rcases hvy.list_clean with h1|h1
           ·exact h1.1
           ·rw[Aa h1] at hc;cases hc
          have r2:=fD (P:=P) (ty:=ty) (argTypes:=⟨t0::t1::tys⟩) (base:=none) (len:=0) (cap:=0) (n:=0) (x:=.slice none 0 0) (new:=[]) (w:=(⟨#[],fun _ _=>0,0,default,#[]⟩:World)) (w':=(⟨#[],fun _ _=>0,0,default,#[]⟩:World)) rfl hu hi hni rfl rfl (Nat.le_refl _) rfl
          have r3:(execOp (ev tm) { dst:=dst,op:=.call { callee:=.builtin .append,args:=#[x,y],argTypes:=⟨t0::t1::tys⟩ },type:=ty,pos:=pos,after:=aft,guard:=gd }).run P (⟨#[],fun _ _=>0,0,default,#[]⟩:World) = .ok (.value (.slice none 0 0)) (⟨#[],fun _ _=>0,0,default,#[]⟩:World):=by
           have ee:execOp (ev tm) { dst:=dst,op:=.call { callee:=.builtin .append,args:=#[x,y],argTypes:=⟨t0::t1::tys⟩ },type:=ty,pos:=pos,after:=aft,guard:=gd }=(do pure (.value (← Builtin.append_ ⟨t0::t1::tys⟩ ty #[ev tm x,ev tm y]))):=by
            simp only[execOp,resolve,invoke,List.map_toArray,List.map_cons,List.map_nil]
            rfl
           rw[ee,hvx',hvy']
           simp only[Sem.run_bind,r2,Result.andThen_ok,Sem.run_pure]
          rw[r3] at r1
          injection r1 with r1 _
          injection r1 with r1
          exact r1.symm
         ·cases e
        ·cases e
       ·cases e
      subst hv
      exact H
    have hk:∀ m,m≠n→L m=L m:=fun _ _=>rfl
    refine⟨?_,?_,fun k hk'=>by simpa using hs.dom k hk',?_,hs.fz,hs.ext⟩
    ·refine Db ⟨by simp[hs.tmr.len],fun j p y hp hy=>?_⟩ dst ?_
     ·rw[List.getElem?_map] at hp
      cases hq:s.tm[j]? with
      | none=>rw[hq] at hp;cases hp
      | some q=>rw[hq] at hp;obtain rfl:=Option.some.inj hp;exact (hs.tmr.at' j q y hq hy).kill hk 4
     ·exact .lslnil L n q1 qn
    ·intro k b' hkb
     by_cases e:k=n
     ·subst e
      rw[List.getElem?_set_self (by simpa using (List.getElem?_eq_some_iff.1 hb).1)] at hkb
      obtain rfl:=Option.some.inj hkb
      exact⟨q1,q2,q3,hwn,.inl ⟨qn,rfl⟩⟩
     ·rw[List.getElem?_set_ne (Ne.symm e),List.getElem?_map] at hkb
      cases hq:s.hp[k]? with
      | none=>rw[hq] at hkb;cases hkb
      | some b0 =>
       rw[hq] at hkb
       obtain rfl:=Option.some.inj hkb
       have hB0:=hs.blk k b0 hq
       cases b0 with
       | dead=>trivial
       | rows es' rows'=>exact hB0
       | var row =>
        obtain⟨q1,nm',cs',e1,e2,e3,e4,e5⟩:=hB0
        refine⟨q1,nm',cs',e1,e2,e3,e4,by simp[e5.len],fun j p y hp hy=>?_⟩
        rw[List.getElem?_map] at hp
        cases hq:row[j]? with
        | none=>rw[hq] at hp;cases hp
        | some q=>rw[hq] at hp;obtain rfl:=Option.some.inj hp;exact (e5.at' j q y hq hy).kill hk 4
    ·intro k k' c c' x h1 h2 l1 l2 e1 e2
     have g:∀(k:Nat) (c:TB),((s.hp.map (pL n)).set n (.rows es ([]++[])))[k]?=some c→c.live=true→∃ b0:TB,s.hp[k]?=some b0∧b0.live=true:=by
      intro k c hk' hl
      by_cases e:k=n
      ·subst e;exact⟨_,hb,rfl⟩
      ·rw[List.getElem?_set_ne (Ne.symm e),List.getElem?_map] at hk'
       cases hq:s.hp[k]? with
       | none=>rw[hq] at hk';cases hk'
       | some b0 =>
        rw[hq] at hk'
        obtain rfl:=Option.some.inj hk'
        refine⟨b0,rfl,?_⟩
        cases b0<;>first|rfl|exact hl
     obtain⟨b1,g1,g2⟩:=g k c h1 l1
     obtain⟨b2,g3,g4⟩:=g k' c' h2 l2
     exact hs.inj k k' b1 b2 x g1 g3 g2 g4 e1 e2
   ·simp only[List.length_nil,Nat.zero_add] at hl1 hl2
    rw[if_neg hn0,if_pos ⟨hl1,hl2,hzs,by rw[hc2,hszi]⟩] at hst
    have hfl:VLs Fz (h++[.cells i.size c]) noL new.flatten c:=hc3.mono (fun _ h=>h) fun k hk'=>by
     rw[List.getElem?_append_left (hs.fz k hk')]
    have hycl:bN (ev tm y)=false:=by
     rcases hvy.list_clean with h1|h1
     ·rw[h1.2] at hn0;simp at hn0
     ·exact h1
    refine .inr ⟨hpop (.inr hycl),hT1,hT2,_,_,none,hxop _ _ _ hst,.inl ⟨rfl,Ext.app _ _⟩,.inl rfl,(fun m=>if m=n then (⟨true,some h.length,es,([]++new).length⟩:LI) else L m),fun j hj=>if_neg hj,Grow.ext hs.fz (Ext.app _ _),?_⟩
    have hr:=hs.renew (n:=n) (es:=es) (nm:=h.length) hb (h':=h++[.cells i.size c]) (cs:=c) (rows:=[]++new) (fun k hk'=>by rw[List.getElem?_append_left (hs.fz k hk')])
     (fun m b' k hm hb' hl hn=>by
      have:=(hB m b' k hb' hl hn).1
      exact⟨by rw[List.getElem?_append_left this],this⟩) (by rw[hszi];simp) hs.ext.le (fun hf=>by have:=hs.fz _ hf;omega) (by simp) (hs.ext.trans (Ext.app _ _)) hwn (by simpa using hfl)
    refine hr.put dst ?_
    have:=VL.lsl (Fz:=Fz) (h:=h++[.cells i.size c]) (fun m=>if m=n then (⟨true,some h.length,es,([]++new).length⟩:LI) else L m) n 0 new.length h.length (by simp) (by simp) (by simp)
    simpa using this
  ·
   have hcl':cs.length=rows.length*es:=by rw[e5.len,jF q4]
   have hvx':ev tm x = .slice (some ⟨nm,0,none⟩) rows.length rows.length:=by
    rw[hvx.lsl_some e1,q3];simp
   have hst : jR P ⟨t0 :: t1 :: tys⟩ (ev tm x) (ev tm y) h = (if new.length = 0 then (if c.isEmpty = true then some (.slice (some ⟨nm, 0, none⟩) rows.length rows.length, h, none) else none)
           else if rows.length+new.length≤rows.length then (dF h nm (0+rows.length*i.size) c).map fun h'=>(.slice (some ⟨nm,0,none⟩) (rows.length+new.length) rows.length,h',some nm)
           else
            match h[nm]? with
            | some (.cells es cs) =>
             if es=i.size∧0+rows.length*i.size=cs.length∧c.length=new.length*i.size∧c.all (·.oneCell')=true∧rows.length+new.length≤2^40∧(rows.length+new.length)*i.bytes≤140737488355328∧((i.zero.map fun z=>z.cells.size)=some i.size) then
              some (.slice (some ⟨h.length,0,none⟩) (rows.length+new.length) (rows.length+new.length),h.set nm .dead++[.cells es (cs.drop 0++c)],some nm)
             else none
            | _=>none):=by
    unfold jR
    simp only[List.getElem?_toArray,List.getElem?_cons_zero,List.getElem?_cons_succ,hu,hi,hni,if_true,hc1,hvx']
    rfl
   by_cases hn0:new.length=0
   ·have hnew:new=[]:=List.length_eq_zero_iff.1 hn0
    subst hnew
    have hce:c=[]:=by simpa using hc2
    subst hce
    refine .inr ⟨hpop (.inl (by rw[hvx'];rfl)),hT1,hT2,.slice (some ⟨nm,0,none⟩) rows.length rows.length,h,none,hxop _ _ _ (by rw[hst];simp),.inl ⟨rfl,Ext.refl h⟩,.inl rfl,(fun m=>if m=n then (⟨true,some nm,es,(rows++[]).length⟩:LI) else L m),fun j hj=>if_neg hj,Grow.refl _ _,?_⟩
    have hLe:(fun m=>if m=n then (⟨true,some nm,es,(rows++[]).length⟩:LI) else L m)=L:=by
     funext m
     by_cases e:m=n
     ·subst e
      rw[if_pos rfl]
      generalize L m=li at *
      obtain⟨a1,a2,a3,a4⟩:=li
      simp_all
     ·rw[if_neg e]
    rw[hLe]
    have hk:∀ m,m≠n→L m=L m:=fun _ _=>rfl
    have hmap:∀(l:List TV) (x:List Value),VLs Fz h L l x→VLs Fz h L (l.map (kill n 4)) x:=by
     intro l x hx
     refine⟨by simp[hx.len],fun i p y hp hy=>?_⟩
     rw[List.getElem?_map] at hp
     cases hq:l[i]? with
     | none=>rw[hq] at hp;cases hp
     | some q=>rw[hq] at hp;obtain rfl:=Option.some.inj hp;exact (hx.at' i q y hq hy).kill hk 4
    refine⟨Db (hmap _ _ hs.tmr) dst ?_,?_,fun k hk'=>by simpa using hs.dom k hk',?_,hs.fz,hs.ext⟩
    ·have:=VL.lsl (Fz:=Fz) (h:=h) L n 0 rows.length nm q1 e1 (by rw[q3];omega)
     rw[q3] at this
     simpa using this
    ·intro k b' hkb
     by_cases e:k=n
     ·subst e
      rw[List.getElem?_set_self (by simpa using (List.getElem?_eq_some_iff.1 hb).1)] at hkb
      obtain rfl:=Option.some.inj hkb
      rw[List.append_nil]
      exact hs.blk k _ hb
     ·rw[List.getElem?_set_ne (Ne.symm e),List.getElem?_map] at hkb
      cases hq:s.hp[k]? with
      | none=>rw[hq] at hkb;cases hkb
      | some b0 =>
       rw[hq] at hkb
       obtain rfl:=Option.some.inj hkb
       have hB0:=hs.blk k b0 hq
       cases b0 with
       | dead=>trivial
       | rows es' rows'=>exact hB0
       | var row =>
        obtain⟨q1,nm',cs',e1,e2,e3,e4,e5⟩:=hB0
        exact⟨q1,nm',cs',e1,e2,e3,e4,hmap _ _ e5⟩
    ·intro k k' c c' x h1 h2 l1 l2 e1 e2
     have g:∀(k:Nat) (c:TB),((s.hp.map (pL n)).set n (.rows es (rows++[])))[k]?=some c→c.live=true→∃ b0:TB,s.hp[k]?=some b0∧b0.live=true:=by
      intro k c hk' hl
      by_cases e:k=n
      ·subst e;exact⟨_,hb,rfl⟩
      ·rw[List.getElem?_set_ne (Ne.symm e),List.getElem?_map] at hk'
       cases hq:s.hp[k]? with
       | none=>rw[hq] at hk';cases hk'
       | some b0 =>
        rw[hq] at hk'
        obtain rfl:=Option.some.inj hk'
        refine⟨b0,rfl,?_⟩
        cases b0<;>first|rfl|exact hl
     obtain⟨b1,g1,g2⟩:=g k c h1 l1
     obtain⟨b2,g3,g4⟩:=g k' c' h2 l2
     exact hs.inj k k' b1 b2 x g1 g3 g2 g4 e1 e2
   ·have hT3 : ∃ k k2, touch (ev tm) { dst := dst, op := .call { callee := .builtin .append, args := #[x, y], argTypes := ⟨t0 :: t1 :: tys⟩ }, type := ty, pos := pos, after := aft, guard := gd } = some (.ap k k2) := by
      rw[Ai,hvx']
      generalize ev tm y=vy at *
      cases hvy with
      | nillist=>simp at hn0
      | vague=>simp at hn0
      | list _ _ _ m o' c' cs' eb hn' hb' he' hw' hc' hle' ha' =>
       cases hnl:new.length with
       | zero=>exact absurd hnl hn0
       | succ q =>
        have hne:nm≠m:=by rintro rfl;exact e3 hn'
        cases hrl:rows.length with
        | zero=>simp only[hne,if_false];exact⟨nm,m,rfl⟩
        | succ q'=>simp only[hne,if_false];exact⟨nm,m,rfl⟩
    rw[if_neg hn0,if_neg (by omega),e4] at hst
    simp only at hst
    rw[if_pos ⟨hszi.symm,by rw[hszi];omega,by rw[hc2,hszi],hcl1,hl1,hl2,hzs⟩,List.drop_zero] at hst
    have hltn:=(List.getElem?_eq_some_iff.1 e4).1
    have hhk:∀ k,k≠nm→k<h.length→(h.set nm .dead++[Blk.cells es (cs++c)])[k]?=h[k]?:=fun k hne hlt=>by
     rw[List.getElem?_append_left (by simpa using hlt),List.getElem?_set_ne (Ne.symm hne)]
    have hhf:∀ k,Fz k→(h.set nm .dead++[Blk.cells es (cs++c)])[k]?=h[k]?:=fun k hk'=>hhk k (by rintro rfl;exact e3 hk') (hs.fz k hk')
    have hextw:Ext h0 (h.set nm .dead++[Blk.cells es (cs++c)]):=by
     obtain⟨t,rfl⟩:=hs.ext
     exact⟨t.set (nm-h0.length) .dead++[Blk.cells es (cs++c)],by rw[List.set_append_right _ _ e2,List.append_assoc]⟩
    refine .inr ⟨hpop (.inl (by rw[hvx'];rfl)),hT1,hT2,_,_,some nm,hxop _ _ _ hst,.inr ⟨nm,rfl,e2,hltn,by simp⟩,.inr hT3,(fun m=>if m=n then (⟨true,some h.length,es,(rows++new).length⟩:LI) else L m),fun j hj=>if_neg hj,⟨fun _ h=>h,fun _ h=>.inl h,hhf⟩,?_⟩
    have hr:=hs.renew (n:=n) (es:=es) (nm:=h.length) hb (h':=h.set nm .dead++[Blk.cells es (cs++c)]) (cs:=cs++c) (rows:=rows++new) hhf
     (fun m b' k hm hb' hl hn=>by
      have:=(hB m b' k hb' hl hn).1
      exact⟨hhk k (by rintro rfl;exact hm (hs.inj m n b' _ k hb' hb hl rfl hn e1)) this,this⟩) (by
       rw[List.getElem?_append_right (by simp)];simp) (Nat.le_of_lt (Nat.lt_of_le_of_lt e2 hltn)) (fun hf=>by have:=hs.fz _ hf;omega) (by simp) hextw hwn (by
       rw[List.flatten_append]
       exact (e5.append hc3).mono (fun _ h=>h) hhf)
    refine hr.put dst ?_
    have:=VL.lsl (Fz:=Fz) (h:=h.set nm .dead++[Blk.cells es (cs++c)]) (fun m=>if m=n then (⟨true,some h.length,es,(rows++new).length⟩:LI) else L m) n 0 (rows.length+new.length) h.length (by simp) (by simp) (by simp)
    simpa using this
 ·cases hsl
theorem OpW.append{x y:Operand}{t0 t1 e:TypeId}{tys:List TypeId}{n len es:Nat}{rows new:List (List TV)}{z:List Value}(hx:tev s.tm x = .lsl n 0 len)(hb:s.hp[n]?=some (.rows es rows))(hlen:len=rows.length)(hy:tev s.tm y = .list es new)
 (hsl:bY P t0=some e) (hni:mS P (some t1)=true) (hz:fQ P e=some z) (hes:z.length=es) (hlim:aCk P e (rows.length+new.length)) (hw:∀ r∈new,r.length=es) (hone:∀ r∈new,r.all tone=true) (hlf:∀ r∈new,r.all (lf 4)=true) :
 OpW C P { dst:=dst,op:=.call { callee:=.builtin .append,args:=#[x,y],argTypes:=⟨t0::t1::tys⟩ },type:=ty,pos:=pos,after:=aft,guard:=gd } s
  ⟨tput (s.tm.map (kill n 4)) dst (.lsl n 0 (rows.length+new.length)),(s.hp.map (pL n)).set n (.rows es (rows++new))⟩:=
 (OpA.append hx hb hlen hy hsl hni hz hes hlim hw hone hlf).toW
end
end Go.Rex
namespace Go.Rex
open Go.RowKit
section
variable {C:Ctx} {P:Program} {Fz:Nat→Prop} {h h0:List Blk} {L:Nat→LI} {s:TS} {tm:List Value}
variable {dst:Option Tmp} {ty:TypeId} {pos:String} {aft:Array Edge} {gd:Option (Nat×Bool)}
def tbnd(x:Option TV)(d:Nat):Option Nat:=
 match x with
 | none=>some d
 | some (.v (.int _ i))=>if 0≤i then some i.toNat else none
 | some _=>none
def tsub(P:Program)(hp:List TB)(t:TypeId)(x:TV)(lo hi:Option TV):Option TV:=
 match bY P t with
 | some e => if okT P e = true then match x with
     | .list es rows=>match tbnd lo 0,tbnd hi rows.length with
      | some l,some k=>if es=P.cellsOf e∧rows≠[]∧l≤k∧k≤rows.length∧(l=0∨l<rows.length) then some (.list es ((rows.drop l).take (k-l))) else none
      | _,_=>none
     | .lsl n o len=>match hp[n]? with
      | some (.rows es rows)=>match tbnd lo 0,tbnd hi len with
       | some l,some k=>if es=P.cellsOf e∧rows≠[]∧l≤k∧o+k≤rows.length∧(l=0∨o+l<rows.length) then some (.lsl n (o+l) (k-l)) else none
       | _,_=>none
      | _=>none
     | _=>none
  else none
 | none=>none
theorem Qs{x:Option TV}{y:Option Value}{d k:Nat}(hx:∀ p,x=some p→∃ v,y=some v∧VL Fz h L p v)(hn:x=none→y=none)(hk:tbnd x d=some k):bnd y d=some k:=by
 cases x with
 | none=>rw[hn rfl];exact hk
 | some p =>
  obtain⟨v,rfl,hv⟩:=hx p rfl
  unfold tbnd at hk
  split at hk
  ·rename_i e;cases e
  ·rename_i _ kk i e
   obtain rfl:=Option.some.inj e
   rw[hv.bool_inv]
   exact hk
  ·cases hk
theorem OpG.slice{t:TypeId}{x:Operand}{lo hi:Option Operand}{q:TV}(hq:tsub P s.hp t (tev s.tm x) (lo.map (tev s.tm)) (hi.map (tev s.tm))=some q) :
 OpG C P { dst:=dst,op:=.slice t x lo hi none,type:=ty,pos:=pos,after:=aft,guard:=gd } s ⟨tput s.tm dst q,s.hp⟩:=by
 intro h0 Fz L tm h hs
 have hvx:=dU hs.fz hs.tmr x
 have hb:∀(o:Option Operand) d k,tbnd (o.map (tev s.tm)) d=some k→bnd (o.map (ev tm)) d=some k:=by
  intro o d k hk
  refine Qs (Fz:=Fz) (h:=h) (L:=L) (fun p hp=>?_) (fun hn=>?_) hk
  ·cases o with
   | none=>cases hp
   | some y=>obtain rfl:=Option.some.inj hp;exact⟨_,rfl,dU hs.fz hs.tmr y⟩
  ·cases o with
   | none=>rfl
   | some y=>cases hn
 suffices H:bN (ev tm x)=false∧∃ v,qZ P t (ev tm x) (lo.map (ev tm)) (hi.map (ev tm)) h=some v∧VL Fz h L q v by
  obtain⟨hcl,v,hv,hvl⟩:=H
  refine⟨?_,v,h,?_,Ext.refl h,Fz,L,Grow.refl _ _,hs.put dst hvl⟩
  ·have e:Rex.pop P (ev tm) { dst:=dst,op:=.slice t x lo hi none,type:=ty,pos:=pos,after:=aft,guard:=gd }=nG P (ev tm) { dst:=dst,op:=.slice t x lo hi none,type:=ty,pos:=pos,after:=aft,guard:=gd }:=Po rfl
   rw[e]
   unfold nG
   simp only
   rw[if_neg]
   simp[Op.operands,Aa hcl]
  ·simp only[xop,hop,hv,Option.map_some]
 unfold tsub at hq
 split at hq
 ·rename_i e he
  unfold bY at he
  split at he
  ·rename_i e' hu
   obtain rfl:=Option.some.inj he
   split at hq
   ·rename_i hok
    split at hq
    ·rename_i es rows hx
     rw[hx] at hvx
     split at hq
     ·rename_i l k hl hk
      split at hq
      ·rename_i hc
       obtain⟨c1,c2,c3,c4,c5⟩:=hc
       obtain rfl:=Option.some.inj hq
       have hl':=hb lo _ _ hl
       have hk':=hb hi _ _ hk
       generalize ev tm x=vx at *
       cases hvx with
       | nillist=>exact absurd rfl c2
       | vague=>exact absurd rfl c2
       | list _ _ _ n o c cs eb hn hb' he hw hcc hle ha =>
        refine⟨rfl,.slice (some ⟨n,o+l*es,none⟩) (k-l) (c-l),?_,?_⟩
        ·simp only[qZ,hu,hb',hl',hk',← c1]
         rw[if_pos ⟨he,hok,c3,by omega,by omega⟩]
        ·exact VL.part hn hb' he hw hle ha l (k-l) (by omega) (by omega)
      ·cases hq
     ·cases hq
    ·rename_i n o len hx
     rw[hx] at hvx
     split at hq
     ·rename_i es rows hbn
      split at hq
      ·rename_i l k hl hk
       split at hq
       ·rename_i hc
        obtain⟨c1,c2,c3,c4,c5⟩:=hc
        obtain rfl:=Option.some.inj hq
        have hl':=hb lo _ _ hl
        have hk':=hb hi _ _ hk
        obtain⟨q1,q2,q3,q4,q5⟩:=hs.blk n _ hbn
        rcases q5 with⟨q5,q6⟩|⟨nm,cs,e1,e2,e3,e4,e5⟩
        ·exact absurd q6 c2
        ·rw[hvx.lsl_some e1]
         refine⟨rfl,.slice (some ⟨nm,o*es+l*es,none⟩) (k-l) (rows.length-o-l),?_,?_⟩
         ·simp only[qZ,hu,q2,q3,e4,hl',hk']
          rw[if_pos ⟨.inl c1,hok,c3,by omega,by omega⟩,← c1]
         ·have:=VL.lsl (Fz:=Fz) (h:=h) L n (o+l) (k-l) nm q1 e1 (by rw[q3];omega)
          rw[q2,q3,Nat.add_mul,Nat.sub_add_eq] at this
          exact this
       ·cases hq
      ·cases hq
     ·cases hq
    ·cases hq
   ·cases hq
  ·cases he
 ·cases hq
theorem Pg{g:FuncId}{f:Operand}{args:Array Operand}{tys:Array TypeId}{first caps:List Value}(hf:ev tm f = .func (.func g) ⟨first⟩ ⟨caps⟩)(hg:aL P g=true) :
 xop C P (ev tm) { dst:=dst,op:=.call { callee:=.value f,args:=args,argTypes:=tys },type:=ty,pos:=pos,after:=aft,guard:=gd } h=C.call g (first++(args.toList.map (ev tm)++caps)) h:=by
 simp only[xop,hop,bhop]
 rw[Nb]
 simp only[hf]
 rw[if_pos hg]
theorem yS(hz:FZ Fz h)(hs:VLs Fz h L s.tm tm)(args:List Operand):VLs Fz h L (args.map (tev s.tm)) (args.map (ev tm)):=by
 refine⟨by simp,fun i p x hp hx=>?_⟩
 rw[List.getElem?_map] at hp hx
 cases hq:args[i]? with
 | none=>rw[hq] at hp;cases hp
 | some q =>
  rw[hq] at hp hx
  obtain rfl:=Option.some.inj hp
  obtain rfl:=Option.some.inj hx
  exact dU hz hs q
theorem VLs.toNo{l:List TV}{x:List Value}(hs:VLs Fz h L l x)(hl:l.all (lf 4)=true){L':Nat→LI}:VLs Fz h L' l x:=
 ⟨hs.len,fun i p y hp hy=>VL.toNo 4 (by simpa using List.all_eq_true.1 hl p (List.mem_of_getElem? hp)) (hs.at' i p y hp hy)⟩
theorem OpG.call{f:Operand}{g:FuncId}{args:Array Operand}{tys:Array TypeId}{first caps as:List TV}{p:TV}{th:List TB}(hf:tev s.tm f = .func g first caps)(hg:aL P g=true)(has:first++(args.toList.map (tev s.tm)++caps)=as)
 (hl:as.all (lf 4)=true) (hsp:Spec C g as ⟨[p],th⟩) (hth:th.all Ce=true) :
 OpG C P { dst:=dst,op:=.call { callee:=.value f,args:=args,argTypes:=tys },type:=ty,pos:=pos,after:=aft,guard:=gd } s ⟨tput s.tm dst (shift s.hp.length 4 p),s.hp++th⟩:=by
 intro h0 Fz L tm h hs
 subst has
 have hfv:=dU hs.fz hs.tmr f
 rw[hf] at hfv
 obtain⟨f',c',hfe,vf,vc⟩:∃ f' c',ev tm f = .func (.func g) ⟨f'⟩ ⟨c'⟩∧VLs Fz h noL first f'∧VLs Fz h noL caps c':=by
  generalize ev tm f=y at *
  cases hfv with
  | func _ _ _ _ a' b' la ha lb hb=>exact⟨a',b',rfl,⟨la,ha⟩,⟨lb,hb⟩⟩
 have hargs:VLs Fz h noL (first++(args.toList.map (tev s.tm)++caps)) (f'++(args.toList.map (ev tm)++c')):=by
  refine VLs.append vf (VLs.append (VLs.toNo (yS hs.fz hs.tmr args.toList) ?_) vc)
  simp only[List.all_append,Bool.and_eq_true] at hl
  exact hl.2.1
 obtain⟨v,h',F1,L1,hc,g1,hr⟩:=hsp Fz h _ hs.fz hargs
 obtain⟨L3,h3⟩:=hs.adopt dst hr hth g1
 refine⟨rfl,v,h',by rw[Pg hfe hg];exact hc,hr.ext,F1,L3,⟨g1.1,fun n hn=>?_,g1.3⟩,h3⟩
 rcases g1.2 n hn with h1|h1
 ·exact .inl h1
 ·exact .inr (Nat.le_trans hs.ext.le h1)
def view(hp:List TB):Nat→TV→TV
 | 0,_=>.Z
 | d+1,p=>match p with
  | .lsl n o len=>(match hp[n]? with
   | some (.rows es rows)=>.list es ((rows.drop o).take len)
   | _=>.Z)
  | .lptr n r o=>(match aZ hp (.lptr n r o) with
   | some (row,o)=>if row.all (lf 4)=true then .fptr false row o else .Z
   | none=>.Z)
  | .agg l=>.agg (l.map (view hp d))
  | .tuple l=>.tuple (l.map (view hp d))
  | p=>p
def Bw(Fz:Nat→Prop)(L:Nat→LI)(s:TS):Nat→Prop:=fun k=>Fz k∨∃ n b,s.hp[n]?=some b∧b.live=true∧(L n).nm=some k
theorem VL.view(hs:St h0 Fz L s tm h):∀(d:Nat) {p:TV} {x:Value},VL Fz h L p x→VL (Bw Fz L s) h noL (view s.hp d p) x
 | 0,p,x,hp=>by rw[Rex.view];exact .Z noL x
 | d+1,p,x,hp=>by
  have hF:∀ n,Fz n→Bw Fz L s n:=fun n hn=>.inl hn
  have key:∀(l:List TV) (l':List Value),(∀(i:Nat) p x,l[i]?=some p→l'[i]?=some x→VL Fz h L p x)→∀(i:Nat) p x,(l.map (Rex.view s.hp d))[i]?=some p→l'[i]?=some x→VL (Bw Fz L s) h noL p x:=by
   intro l l' ha i p x hp hx
   rw[List.getElem?_map] at hp
   cases hq:l[i]? with
   | none=>rw[hq] at hp;cases hp
   | some q=>rw[hq] at hp;obtain rfl:=Option.some.inj hp;exact VL.view hs d (ha i q x hq hx)
  cases hp with
  | Z _ x=>exact .Z noL x
  | v _ x hx=>exact .v noL x hx
  | agg _ l l' hl ha=>exact .agg noL _ l' (by simp[hl]) (key l l' ha)
  | tuple _ l l' hl ha=>exact .tuple noL _ l' (by simp[hl]) (key l l' ha)
  | func _ f a b a' b' la ha lb hb=>exact (VL.func noL f a b a' b' la ha lb hb).mono hF (fun _ _=>rfl)
  | nillist _ es=>exact .nillist noL es
  | vague _ es=>exact .vague noL es
  | list _ es rows n o c cs eb hn hb he hw hc hle ha=>exact (VL.list noL es rows n o c cs eb hn hb he hw hc hle ha).mono hF (fun _ _=>rfl)
  | fptr _ vb row off n base es cs hn hb hv hle ha=>exact (VL.fptr noL vb row off n base es cs hn hb hv hle ha).mono hF (fun _ _=>rfl)
  | lptr _ n r o nm ok hn =>
   simp only[Rex.view]
   split
   ·rename_i row o' hr
    split
    ·rename_i hlf
     have hbl:∃ b,s.hp[n]?=some b∧b.live=true:=by
      simp only[aZ] at hr
      split at hr
      ·rename_i hb;exact⟨_,hb,rfl⟩
      ·rename_i hb;exact⟨_,hb,rfl⟩
      ·cases hr
     obtain⟨b,hb,hlv⟩:=hbl
     obtain⟨n',bb,es,cs,he,hcs,hle,hv⟩:=By hs (VL.lptr (Fz:=Fz) (h:=h) L n r o nm ok hn) hr
     injection he with he
     injection he with he
     injection he with he1 he2
     subst he1
     rw[he2]
     have:=VL.fptr (Fz:=Bw Fz L s) (h:=h) noL false row o' nm bb es cs (.inr ⟨n,b,hb,hlv,hn⟩) hcs (fun h=>by cases h) hle (fun j p x h1 h2=>by
      have hjl:=(List.getElem?_eq_some_iff.1 h1).1
      have h3:((cs.drop bb).take row.length)[j]?=some x:=by
       rw[List.getElem?_take,if_pos hjl,List.getElem?_drop];exact h2
      exact (VL.toNo 4 (by simpa using List.all_eq_true.1 hlf p (List.mem_of_getElem? h1)) (hv.at' j p x h1 h3)).mono hF (fun _ _=>rfl))
     exact this
    ·exact .Z noL _
   ·exact .Z noL _
  | lslnil _ n ok hn =>
   simp only[Rex.view]
   split
   ·simp only[List.take_zero];exact .nillist noL _
   ·exact .Z noL _
  | lsl _ n o len nm ok hn hle =>
   simp only[Rex.view]
   split
   ·rename_i es rows hb
    obtain⟨q1,q2,q3,q4,q5⟩:=hs.blk n _ hb
    rcases q5 with q5|⟨nm',cs,e1,e2,e3,e4,e5⟩
    ·rw[q5.1] at hn;cases hn
    ·rw[hn] at e1
     obtain rfl:=Option.some.inj e1
     have hcl:cs.length=rows.length*es:=by rw[e5.len,jF q4]
     have:=VL.part (Fz:=Bw Fz L s) (h:=h) (L:=noL) (es:=es) (rows:=rows) (n:=nm) (o:=0) (c:=(L n).tot-o) (cs:=cs) (.inr ⟨n,_,hb,rfl,hn⟩) e4 (.inl rfl) q4 (by omega) (fun j p x h1 h2=>by
      rw[Nat.zero_add] at h2
      exact (e5.at' j p x h1 h2).mono hF (fun _ _=>rfl)) o len (by rw[← q3];exact hle) (by omega)
     rw[Nat.zero_add] at this
     rw[q2]
     exact this
   ·exact .Z noL _
def qQ:TB→Bool
 | .rows _ rows=>rows.all fun r=>r.all (cl 4)
 | .var row=>row.all (cl 4)
 | .dead=>true
theorem St.ofCl{L2:Nat→LI}{p:TV}{v:Value}{th:List TB}{Fz':Nat→Prop}{h':List Blk}(hr:St h Fz' L2 ⟨[p],th⟩ [v] h')(hp:cl 4 p=true)(hth:th.all qQ=true){F:Nat→Prop}(hF:FZ F h):St h F L2 ⟨[p],th⟩ [v] h':=by
 have hv:VL Fz' h' L2 p v:=hr.tmr.at' 0 p v rfl rfl
 refine⟨VLs.cons (hv.ofCl 4 hp) VLs.nil,fun n b hb=>?_,hr.dom,hr.inj,⟨fun n hn=>Nat.lt_of_lt_of_le (hF n hn) hr.ext.le,fun g hg=>⟨(hF.gl g hg).1,(hr.fz.gl g hg).2⟩⟩,hr.ext⟩
 have hc:=List.all_eq_true.1 hth b (List.mem_of_getElem? hb)
 have hB:=hr.blk n b hb
 cases b with
 | dead=>trivial
 | rows es rows =>
  obtain⟨q1,q2,q3,q4,q5⟩:=hB
  refine⟨q1,q2,q3,q4,?_⟩
  rcases q5 with q5|⟨nm,cs,e1,e2,e3,e4,e5⟩
  ·exact .inl q5
  ·refine .inr ⟨nm,cs,e1,e2,fun hf=>by have:=hF _ hf;omega,e4,e5.len,fun i p x hp hx=>VL.ofCl 4 ?_ (e5.at' i p x hp hx)⟩
   have hm:=List.mem_of_getElem? hp
   simp only[List.mem_flatten] at hm
   obtain⟨r,hr,hpr⟩:=hm
   simp only[qQ] at hc
   exact List.all_eq_true.1 (List.all_eq_true.1 hc r hr) p hpr
 | var row =>
  obtain⟨q1,nm,cs,e1,e2,e3,e4,e5⟩:=hB
  refine⟨q1,nm,cs,e1,e2,fun hf=>by have:=hF _ hf;omega,e4,e5.len,fun i p x hp hx=>VL.ofCl 4 ?_ (e5.at' i p x hp hx)⟩
  simp only[qQ] at hc
  exact List.all_eq_true.1 hc p (List.mem_of_getElem? hp)
theorem OpG.look{f:Operand}{g:FuncId}{args:Array Operand}{tys:Array TypeId}{first caps as:List TV}{p:TV}{th:List TB}(hf:tev s.tm f = .func g first caps)(hg:aL P g=true)(has:first++((args.toList.map (tev s.tm)).map (view s.hp 4)++caps)=as)
 (hsp:Spec C g as ⟨[p],th⟩) (hth:th.all Ce=true) (hp:cl 4 p=true) (hcl:th.all qQ=true) :
 OpG C P { dst:=dst,op:=.call { callee:=.value f,args:=args,argTypes:=tys },type:=ty,pos:=pos,after:=aft,guard:=gd } s ⟨tput s.tm dst (shift s.hp.length 4 p),s.hp++th⟩:=by
 intro h0 Fz L tm h hs
 subst has
 have hfv:=dU hs.fz hs.tmr f
 rw[hf] at hfv
 have hF:∀ n,Fz n→Bw Fz L s n:=fun n hn=>.inl hn
 obtain⟨f',c',hfe,vf,vc⟩:∃ f' c',ev tm f = .func (.func g) ⟨f'⟩ ⟨c'⟩∧VLs Fz h noL first f'∧VLs Fz h noL caps c':=by
  generalize ev tm f=y at *
  cases hfv with
  | func _ _ _ _ a' b' la ha lb hb=>exact⟨a',b',rfl,⟨la,ha⟩,⟨lb,hb⟩⟩
 have hargs:VLs (Bw Fz L s) h noL (first++((args.toList.map (tev s.tm)).map (Rex.view s.hp 4)++caps)) (f'++(args.toList.map (ev tm)++c')):=by
  refine VLs.append (vf.mono hF (fun _ _=>rfl)) (VLs.append ?_ (vc.mono hF (fun _ _=>rfl)))
  have ha:=yS hs.fz hs.tmr args.toList
  refine⟨by simp,fun i p x hp hx=>?_⟩
  rw[List.getElem?_map] at hp
  cases hq:(args.toList.map (tev s.tm))[i]? with
  | none=>rw[hq] at hp;cases hp
  | some q=>rw[hq] at hp;obtain rfl:=Option.some.inj hp;exact VL.view hs 4 (ha.at' i q x hq hx)
 have hall:FZ (Bw Fz L s) h:=by
  refine hs.fz.to hF (fun _ _=>rfl) ?_
  rintro n (hn|⟨m,b,hb,hlv,hn⟩)
  ·exact hs.fz n hn
  ·exact (hs.lowB m b n hb hlv hn).1
 obtain⟨v,h',F1,L1,hc,g1,hr⟩:=hsp _ h _ hall hargs
 have hr':=hr.ofCl hp hcl hs.fz
 obtain⟨L3,h3⟩:=hs.adopt dst hr' hth (Grow.ext hs.fz hr.ext)
 exact⟨rfl,v,h',by rw[Pg hfe hg];exact hc,hr.ext,Fz,L3,Grow.ext hs.fz hr.ext,h3⟩
def pV(P:Program)(hp:List TB)(tm:List TV):List ResultVar→Option (List TV)
 | []=>some []
 | r::rs=>match tres (tload P hp) tm r with
  | some v=>(pV P hp tm rs).map fun vs=>v::vs
  | none=>none
theorem oQ(hs:St h0 Fz L s tm h):∀(rs:List ResultVar) (ps:List TV),pV P s.hp s.tm rs=some ps→∃ vs,nR P h tm rs=some vs∧VLs Fz h L ps vs
 | [],ps,hp=>by obtain rfl:=Option.some.inj hp;exact⟨[],rfl,VLs.nil⟩
 | r::rs,ps,hp=>by
  simp only[pV] at hp
  split at hp
  ·rename_i p hr
   obtain⟨ps',h1,rfl⟩:=Option.map_eq_some_iff.1 hp
   obtain⟨vs,h2,h3⟩:=oQ hs rs ps' h1
   have:∃ v,Xl P h tm r=some v∧VL Fz h L p v:=by
    cases r with
    | tmp t =>
     simp only[tres] at hr
     obtain rfl:=Option.some.inj hr
     exact⟨_,rfl,dU hs.fz hs.tmr (.tmp t)⟩
    | cell a t =>
     simp only[tres] at hr
     obtain⟨n,o,v,hx,hl,hv⟩:=Cg hs (dU hs.fz hs.tmr (.tmp a)) hr
     refine⟨v,?_,hv⟩
     simp only[ev] at hx
     simp only[Xl,hx,hl]
   obtain⟨v,h4,h5⟩:=this
   exact⟨v::vs,by simp only[nR,h4,h2,Option.map_some],VLs.cons h5 h3⟩
  ·cases hp
theorem Spec.fn{f:FuncId}{fd:Func}{c:Code}{args:List TV}{r:TS}(hf:P.funcs[f]?=some fd)(hb:fd.body=some c){tm0:List TV}(htm:args++List.replicate (fd.ntmps-args.length) TV.Z=tm0)
 (hx:TX (lim P) P c ⟨tm0,[]⟩ (fun e s=>(e = .normal∨e = .ret)∧∃ ps,pV P s.hp s.tm fd.results.toList=some ps∧Wk ⟨[Xp ps],s.hp⟩ r)) (hcov:cov r=true):Spec (lim P) f args r:=by
 intro Fz h vs hfz hargs
 subst htm
 have hs:St h Fz noL ⟨args++List.replicate (fd.ntmps-args.length) TV.Z,[]⟩ (vs++List.replicate (fd.ntmps-vs.length) undef) h:=by
  refine⟨?_,fun n b hb=>by simp at hb,fun n hn=>by simp[noL] at hn,fun n n' b b' nm hb=>by simp at hb,hfz,Ext.refl h⟩
  refine VLs.append hargs ?_
  rw[hargs.len]
  exact VLs.replicate (.Z noL undef) _
 obtain⟨K,e,a1,h1,w1,hexec,hw,hdf,s1,F1,L1,⟨he,ps,hps,hwk⟩,g1,hs1⟩:=hx h Fz noL _ h hs
 obtain⟨vs1,hres,hvs1⟩:=oQ (P:=P) hs1 _ ps hps
 have hs2:St h F1 L1 ⟨[Xp ps],s1.hp⟩ [iZ vs1] h1:=⟨VLs.cons (Ry hvs1) VLs.nil,hs1.blk,hs1.dom,hs1.inj,hs1.fz,hs1.ext⟩
 obtain⟨F2,L2,g2,hs3⟩:=hwk h F1 L1 _ h1 hs2
 have hm:wmin w1 none=w1:=by cases w1<;>rfl
 by_cases hcl:bN (iZ vs1)=true
 ·obtain⟨L4,hs4⟩:=hs3.clean hcl hcov hfz
  refine⟨iZ vs1,h,Fz,L4,nD (K:=K) ?_,Grow.refl _ _,hs4⟩
  unfold hU
  simp only[hf,hb,hexec]
  have hend:jL P fd h.length h a1 h1 w1=some (iZ vs1,h,none):=by
   simp only[jL,hdf,bF,hres,hcl,if_true,hm,hw]
  rcases he with rfl|rfl<;>exact hend
 ·refine⟨iZ vs1,h1,F2,L2,nD (K:=K) ?_,g1.trans g2,hs3⟩
  unfold hU
  simp only[hf,hb,hexec]
  have hend:jL P fd h.length h a1 h1 w1=some (iZ vs1,h1,none):=by
   simp[jL,hdf,bF,hres,hcl,hm,hw]
  rcases he with rfl|rfl<;>exact hend
theorem Spec.ov{f g:FuncId}{args:List TV}{r:TS}(hs:Spec (lim P) g args r)(hne:g≠f):Spec (over P f) g args r:=by
 intro Fz h vs hfz hargs
 obtain⟨v,h',F1,L1,hc,g1,hr⟩:=hs Fz h vs hfz hargs
 refine⟨v,h',F1,L1,?_,g1,hr⟩
 rw[He,if_neg (fun hh=>hne hh.1)]
 exact hc
theorem Spec.awake{f:FuncId}:Spec (over P f) f [] ⟨[.v (.bool true)],[]⟩:=by
 intro Fz h vs hfz hargs
 have:vs=[]:=by have:=hargs.len;simpa using this
 subst this
 exact⟨.bool true,h,Fz,noL,by rw[He,if_pos ⟨rfl,rfl⟩],Grow.refl _ _,⟨VLs.cons (.v noL _ rfl) VLs.nil,fun n b hb=>by simp at hb,fun n hn=>by simp[noL] at hn,fun n n' b b' nm hb=>by simp at hb,hfz,Ext.refl h⟩⟩
theorem aAy(hm:P.follows .mixedOrders=true){f:FuncId}(hv:AwT P f){g:FuncId}{fd:Func}{c:Code}{args:List TV}(hf:P.funcs[g]?=some fd)(hb:fd.body=some c)
 {tm0:List TV} (htm:args++List.replicate (fd.ntmps-args.length) TV.Z=tm0)
 (hx:TX (over P f) P c ⟨tm0,[]⟩ (fun e s=>(e = .normal∨e = .ret)∧pV P s.hp s.tm fd.results.toList=some [.v (.bool true)]))
 {Fz:Nat→Prop} {h:List Blk} {vs:List Value} (hfz:FZ Fz h) (hargs:VLs Fz h noL args vs)
 {B lo:Nat} {D:Nat→Prop} {m:NMap} {w:World} {args':List Value} (hr:Rel B lo D m h w) (hlo:lo≤h.length) (hargs':VRs D m vs args'):Calls P g ⟨args'⟩ w (fun e w'=>e = .returned (.bool true)∧Below w.heap.size w w'):=by
 refine Zs hm hv hf hb (args:=vs) rfl ?_ hr hlo hargs'
 subst htm
 have hs:St h Fz noL ⟨args++List.replicate (fd.ntmps-args.length) TV.Z,[]⟩ (vs++List.replicate (fd.ntmps-vs.length) undef) h:=by
  refine⟨?_,fun n b hb=>by simp at hb,fun n hn=>by simp[noL] at hn,fun n n' b b' nm hb=>by simp at hb,hfz,Ext.refl h⟩
  refine VLs.append hargs ?_
  rw[hargs.len]
  exact VLs.replicate (.Z noL undef) _
 refine (hx h Fz noL _ h hs).mono ?_
 rintro e a' h' ⟨hd,s',F',L',⟨he,hres⟩,g,hs'⟩
 refine⟨he,hd,?_⟩
 obtain⟨vs1,h1,h2⟩:=oQ (P:=P) hs' _ _ hres
 have hl:=h2.len
 match vs1,hl,h1,h2 with
 | [x],_,h1,h2 =>
  have:=h2.at' 0 _ x rfl rfl
  exact⟨[x],h1,by rw[this.bool_inv];rfl⟩
end
end Go.Rex
namespace Go.Rex
open Go.RowKit
section
inductive RN (fl:List (Option Nat)):TV→TV→Prop
 | Z {p:TV}:RN fl p .Z
 | keep {p q:TV} (e:p=q) (h:lf 4 q=true):RN fl p q
 | lsl {n o len j len':Nat} (h:fl[j]?=some (some n)) (e:len=len'):RN fl (.lsl n o len) (.lsl j o len')
 | lptr {n r o j:Nat} (h:fl[j]?=some (some n)):RN fl (.lptr n r o) (.lptr j r o)
 | nil {j:Nat} (h:fl[j]?=some none):RN fl (.v (.slice none 0 0)) (.lsl j 0 0)
 | nl {es:Nat}:RN fl (.v (.slice none 0 0)) (.list es [])
 | agg {l l':List TV} (hl:l'.length=l.length) (h:∀(i:Nat) p q,l[i]?=some p→l'[i]?=some q→RN fl p q):RN fl (.agg l) (.agg l')
 | tuple {l l':List TV} (hl:l'.length=l.length) (h:∀(i:Nat) p q,l[i]?=some p→l'[i]?=some q→RN fl p q):RN fl (.tuple l) (.tuple l')
structure RNs(fl:List (Option Nat))(l l':List TV):Prop where
 len:l'.length=l.length
 at':∀(i:Nat) p q,l[i]?=some p→l'[i]?=some q→RN fl p q
theorem RNs.nil{fl:List (Option Nat)}:RNs fl [] []:=⟨rfl,fun i p q h=>by simp at h⟩
theorem RNs.cons{fl:List (Option Nat)}{p q:TV}{l l':List TV}(h:RN fl p q)(hs:RNs fl l l'):RNs fl (p::l) (q::l'):=by
 refine⟨by simp[hs.len],fun i p q hp hq=>?_⟩
 cases i with
 | zero=>simp at hp hq;subst hp hq;exact h
 | succ i=>simp at hp hq;exact hs.at' i _ _ hp hq
theorem RN.agg'{fl:List (Option Nat)}{l l':List TV}(h:RNs fl l l'):RN fl (.agg l) (.agg l'):=.agg h.len h.at'
theorem RN.tuple'{fl:List (Option Nat)}{l l':List TV}(h:RNs fl l l'):RN fl (.tuple l) (.tuple l'):=.tuple h.len h.at'
variable {Fz:Nat→Prop} {h:List Blk} {L L':Nat→LI}
theorem RN.vl{fl:List (Option Nat)}(hL:∀ j n,fl[j]?=some (some n)→L' j=L n)(hV:∀ j,fl[j]?=some none→(L' j).ok=true∧(L' j).nm=none){p q:TV}(hr:RN fl p q):∀ {x:Value},VL Fz h L p x→VL Fz h L' q x:=by
 induction hr with
 | Z=>intro x _;exact .Z L' x
 | keep e hl=>intro x hp;subst e;exact VL.toNo 4 hl hp
 | lsl hj e =>
  intro x hp
  subst e
  have e:=hL _ _ hj
  cases hp with
  | lslnil _ _ ok hn=>rw[← e] at ok hn;exact .lslnil L' _ ok hn
  | lsl _ _ _ _ nm ok hn hle=>rw[← e] at ok hn hle ⊢;exact .lsl L' _ _ _ nm ok hn hle
 | lptr hj =>
  intro x hp
  have e:=hL _ _ hj
  cases hp with
  | lptr _ _ _ _ nm ok hn=>rw[← e] at ok hn ⊢;exact .lptr L' _ _ _ nm ok hn
 | nil hj =>
  intro x hp
  obtain rfl:=hp.bool_inv
  exact .lslnil L' _ (hV _ hj).1 (hV _ hj).2
 | nl =>
  intro x hp
  obtain rfl:=hp.bool_inv
  exact .nillist L' _
 | @agg l l' hl hh ih =>
  intro x hp
  cases hp with
  | agg _ _ l2 hl2 ha =>
   refine .agg L' l' l2 (by omega) fun i p y h1 h2=>?_
   have hlt:=(List.getElem?_eq_some_iff.1 h1).1
   have h0:l[i]?=some l[i]:=List.getElem?_eq_getElem (by omega)
   exact ih i _ _ h0 h1 (ha i _ _ h0 h2)
 | @tuple l l' hl hh ih =>
  intro x hp
  cases hp with
  | tuple _ _ l2 hl2 ha =>
   refine .tuple L' l' l2 (by omega) fun i p y h1 h2=>?_
   have hlt:=(List.getElem?_eq_some_iff.1 h1).1
   have h0:l[i]?=some l[i]:=List.getElem?_eq_getElem (by omega)
   exact ih i _ _ h0 h1 (ha i _ _ h0 h2)
def Bt:List (Option Nat)→Bool
 | []=>true
 | none::l=>Bt l
 | some n::l=>l.all (fun x=>x != some n)&&Bt l
theorem Ag:∀ {fl:List (Option Nat)},Bt fl=true→∀(i j n:Nat),fl[i]?=some (some n)→fl[j]?=some (some n)→i=j
 | [],_,i,j,n,h,_=>by simp at h
 | none::l,hr,i,j,n,h1,h2=>by
  cases i with
  | zero=>simp at h1
  | succ i=>cases j with
   | zero=>simp at h2
   | succ j=>rw[Ag (fl:=l) (by simpa [Bt] using hr) i j n (by simpa using h1) (by simpa using h2)]
 | some m::l,hr,i,j,n,h1,h2=>by
  simp only[Bt,Bool.and_eq_true] at hr
  have hne:∀ k,l[k]?≠some (some m):=fun k hk=>by
   have:=List.all_eq_true.1 hr.1 _ (List.mem_of_getElem? hk)
   simp at this
  cases i with
  | zero=>cases j with
   | zero=>rfl
   | succ j=>simp at h1;subst h1;exact absurd (by simpa using h2) (hne j)
  | succ i=>cases j with
   | zero=>simp at h2;subst h2;exact absurd (by simpa using h1) (hne i)
   | succ j=>rw[Ag (fl:=l) hr.2 i j n (by simpa using h1) (by simpa using h2)]
inductive RB (fl:List (Option Nat)) (hp:List TB):List TB→List (Option Nat)→Prop
 | nil:RB fl hp [] []
 | virt {es:Nat} {hp':List TB} {l:List (Option Nat)} (h:RB fl hp hp' l):RB fl hp (.rows es []::hp') (none::l)
 | rows {n es:Nat} {rows rows':List (List TV)} {hp':List TB} {l:List (Option Nat)} (h:RB fl hp hp' l) (hb:hp[n]?=some (.rows es rows)) (e:rows=rows'):RB fl hp (.rows es rows'::hp') (some n::l)
 | var {n:Nat} {row row':List TV} {hp':List TB} {l:List (Option Nat)} (h:RB fl hp hp' l) (hb:hp[n]?=some (.var row)) (hr:RNs fl row row'):RB fl hp (.var row'::hp') (some n::l)
theorem RB.at{fl:List (Option Nat)}{hp hp':List TB}{l:List (Option Nat)}(hb:RB fl hp hp' l):hp'.length=l.length∧∀(j:Nat) (b:TB),hp'[j]?=some b→(l[j]?=some none∧∃ es,b = .rows es [])∨∃ n,l[j]?=some (some n)∧((∃ es rows,b = .rows es rows∧hp[n]?=some b)∨∃ row row',b = .var row'∧hp[n]?=some (.var row)∧RNs fl row row'):=by
 induction hb with
 | nil=>exact⟨rfl,fun j b h=>by simp at h⟩
 | virt h ih =>
  refine⟨by simp[ih.1],fun j b hj=>?_⟩
  cases j with
  | zero=>simp at hj;subst hj;exact .inl ⟨rfl,_,rfl⟩
  | succ j=>exact ih.2 j b (by simpa using hj)
 | rows h hb e ih =>
  subst e
  refine⟨by simp[ih.1],fun j b hj=>?_⟩
  cases j with
  | zero=>simp at hj;subst hj;exact .inr ⟨_,rfl,.inl ⟨_,_,rfl,hb⟩⟩
  | succ j=>exact ih.2 j b (by simpa using hj)
 | var h hb hr ih =>
  refine⟨by simp[ih.1],fun j b hj=>?_⟩
  cases j with
  | zero=>simp at hj;subst hj;exact .inr ⟨_,rfl,.inr ⟨_,_,rfl,hb,hr⟩⟩
  | succ j=>exact ih.2 j b (by simpa using hj)
theorem Wk.ren{tm tm':List TV}{hp hp':List TB}(fl:List (Option Nat))(hok:Bt fl=true)(hB:RB fl hp hp' fl)(hT:RNs fl tm tm'):Wk ⟨tm,hp⟩ ⟨tm',hp'⟩:=by
 intro h0 Fz L vm h hs
 obtain⟨hlen,hat⟩:=hB.at
 have esOf':∀ j:Nat,∃ es:Nat,fl[j]?=some none→hp'[j]?=some (TB.rows es []):=by
  intro j
  cases hb:hp'[j]? with
  | none =>
   refine⟨0,fun hf=>?_⟩
   have h1:=(List.getElem?_eq_some_iff.1 hf).1
   rw[List.getElem?_eq_none_iff] at hb
   omega
  | some b =>
   rcases hat j b hb with⟨_,es,rfl⟩|⟨n,h1,_⟩
   ·exact⟨es,fun _=>rfl⟩
   ·exact⟨0,fun hf=>by rw[h1] at hf;cases hf⟩
 let es:Nat→Nat:=fun j=>Classical.choose (esOf' j)
 have hes:∀ j:Nat,fl[j]?=some none→hp'[j]?=some (TB.rows (es j) []):=fun j=>Classical.choose_spec (esOf' j)
 let L':Nat→LI:=fun j=>match fl[j]? with
  | some (some n)=>L n
  | some none=>⟨true,none,es j,0⟩
  | none=>⟨false,none,0,0⟩
 have hL:∀ j n:Nat,fl[j]?=some (some n)→L' j=L n:=fun j n hj=>by simp only[L',hj]
 have hV':∀ j:Nat,fl[j]?=some none→L' j=⟨true,none,es j,0⟩:=fun j hj=>by simp only[L',hj]
 have hV:∀ j:Nat,fl[j]?=some none→(L' j).ok=true∧(L' j).nm=none:=fun j hj=>by rw[hV' j hj];exact⟨rfl,rfl⟩
 have hN:∀ j:Nat,fl[j]?=none→(L' j).ok=false:=fun j hj=>by simp only[L',hj]
 clear_value L'
 have hmap:∀(l l':List TV) (x:List Value),RNs fl l l'→VLs Fz h L l x→VLs Fz h L' l' x:=by
  intro l l' x hr hx
  refine⟨by have:=hr.len;have:=hx.len;omega,fun i q y hq hy=>?_⟩
  have hlt:=(List.getElem?_eq_some_iff.1 hq).1
  have hll:=hr.len
  have h0:l[i]?=some l[i]:=List.getElem?_eq_getElem (by omega)
  exact (hr.at' i _ _ h0 hq).vl hL hV (hx.at' i _ _ h0 hy)
 refine⟨Fz,L',Grow.refl _ _,⟨hmap _ _ _ hT hs.tmr,?_,?_,?_,hs.fz,hs.ext⟩⟩
 ·intro j b hb
  rcases hat j b hb with⟨hj,es',rfl⟩|⟨n,hj,h1⟩
  ·have:=hes j hj
   rw[hb] at this
   injection this with this
   injection this with this _
   refine⟨(hV j hj).1,by rw[hV' j hj];exact this.symm,by rw[hV' j hj];rfl,by simp,.inl ⟨(hV j hj).2,rfl⟩⟩
  ·rcases h1 with⟨es',rows,rfl,hn⟩|⟨row,row',rfl,hn,hr⟩
   ·have:=hs.blk n _ hn
    unfold BR at this ⊢
    rw[hL j n hj]
    exact this
   ·obtain⟨q1,nm,cs,e1,e2,e3,e4,e5⟩:=hs.blk n _ hn
    unfold BR
    rw[hL j n hj]
    exact⟨q1,nm,cs,e1,e2,e3,e4,hmap _ _ _ hr e5⟩
 ·intro j hj
  show j<hp'.length
  rcases Nat.lt_or_ge j fl.length with hlt|hge
  ·omega
  ·rw[hN j (List.getElem?_eq_none_iff.2 hge)] at hj;cases hj
 ·intro j j' b b' nm hb hb' l1 l2 e1 e2
  have f:∀(j:Nat) (b:TB),hp'[j]?=some b→b.live=true→(L' j).nm=some nm→∃(n:Nat) (b0:TB),fl[j]?=some (some n)∧hp[n]?=some b0∧b0.live=true∧(L n).nm=some nm:=by
   intro j b hb hl he
   rcases hat j b hb with⟨hj,es',rfl⟩|⟨n,hj,h1⟩
   ·rw[(hV j hj).2] at he;cases he
   ·rw[hL j n hj] at he
    rcases h1 with⟨es',rows,rfl,hn⟩|⟨row,row',rfl,hn,hr⟩
    ·exact⟨n,_,hj,hn,rfl,he⟩
    ·exact⟨n,_,hj,hn,rfl,he⟩
  obtain⟨n,b0,g1,g2,g3,g4⟩:=f j b hb l1 e1
  obtain⟨n',b0',k1,k2,k3,k4⟩:=f j' b' hb' l2 e2
  obtain rfl:=hs.inj n n' b0 b0' nm g2 k2 g3 k3 g4 k4
  exact Ag hok j j' n g1 k1
end
section
variable {C:Ctx} {P:Program} {ops:Array Oper} {rest:List Oper} {tm tm2:List TV} {hp hp2:List TB} {Q:TS→Prop} {o:Oper}
variable {dst:Option Tmp} {ty:TypeId} {pos:String} {aft:Array Edge} {gd:Option (Nat×Bool)}
def eQ{α:Type}(xs:List α)(i:Int):Option α:=if 0≤i then xs[i.toNat]? else none
def mkI{α:Type}(bytes:Nat)(n:Int)(z:α):Option (List α):=if 0≤n∧n<2^63∧(bytes:Int)*n≤2^48 then some (List.replicate n.toNat z) else none
def pJ{α:Type}(bytes:Nat)(xs ys:List α):Option (List α):=if xs.length+ys.length≤2^40∧(xs.length+ys.length)*bytes≤140737488355328 then some (xs++ys) else none
theorem jA{α:Type}{xs:List α}{i:Int}{x:α}(h:eQ xs i=some x):0≤i∧i<xs.length:=by
 unfold eQ at h
 split at h
 ·have:=(List.getElem?_eq_some_iff.1 h).1;omega
 ·cases h
theorem jC{α:Type}{xs:List α}{i:Int}{x:α}(h:eQ xs i=some x):xs[i.toNat]?=some x:=by
 unfold eQ at h
 split at h
 ·exact h
 ·cases h
theorem gQ{α:Type}{xs:List α}{f:α→List TV}{i:Int}{x:α}(h:eQ xs i=some x):tidx (xs.map f) i=some (f x):=by
 unfold tidx
 rw[if_pos (jA h).1,List.getElem?_map,jC h]
 rfl
theorem TO.pop1{p:TV}(hw:twant ops tm o=some true)(hv:tpop P hp tm o=some p)(ht:tput tm o.dst p=tm2)(hq:TO C P ops rest ⟨tm2,hp⟩ Q):TO C P ops (o::rest) ⟨tm,hp⟩ Q:=by
 subst ht;exact TO.p hw (OpP.of hv) hq
theorem TO.skip1(hw:twant ops tm o=some false)(ht:tput tm o.dst (.tuple [])=tm2)(hq:TO C P ops rest ⟨tm2,hp⟩ Q):TO C P ops (o::rest) ⟨tm,hp⟩ Q:=by
 subst ht;exact TO.skip hw hq
variable {ms:List Nat} {i:Nat} {np:List Nat} {c:Nat}
theorem TD.pop1{p:TV}(hw:twant ops tm o=some true)(hv:tpop P hp tm o=some p)(ht:tput tm o.dst p=tm2)(hq:TD C P ops ms rest (i+1) np c ⟨tm2,hp⟩ Q):TD C P ops ms (o::rest) i np c ⟨tm,hp⟩ Q:=by
 subst ht;exact TD.p hw (OpP.of hv) hq
theorem TD.skip1(hw:twant ops tm o=some false)(ht:tput tm o.dst (.tuple [])=tm2)(hq:TD C P ops ms rest (i+1) np c ⟨tm2,hp⟩ Q):TD C P ops ms (o::rest) i np c ⟨tm,hp⟩ Q:=by
 subst ht;exact TD.skip hw hq
theorem TX.loopE{σ ε:Type}{b:Code}{step:σ→Option (σ ⊕ ε)}{x:σ}{e:ε}{Q:Exit→TS→Prop}(hr:run step x=some e)(I:σ→TS)(J:ε→Exit×TS)
 (hB:∀ x y,step x=some y→TX C P b (I x) (fun ex st=>match y with|.inl x'=>ex = .normal∧Wk st (I x')|.inr e=>ex=(J e).1∧Wk st (J e).2)) (hne:∀ e,(J e).1 ≠ .normal) (hq:Q (J e).1 (J e).2) {s:TS} (hw:Wk s (I x)):TX C P (.loop b) s Q:=by
 refine TX.weak hw (TX.post ((TX.loop hr I (fun e ex st=>ex=(J e).1∧Wk st (J e).2) (fun x x' h=>hB x _ h) (fun x e h=>?_)).mono ?_))
 ·exact (hB x _ h).mono fun ex st hh=>⟨by rw[hh.1];exact hne e,hh⟩
 ·rintro ex st ⟨rfl,hh⟩
  exact⟨_,hh,hq⟩
end
end Go.Rex
namespace Go.Rex
open Go.RowKit
section
variable {C:Ctx} {P:Program} {ops:Array Oper} {rest:List Oper} {tm tm2:List TV} {hp hp2:List TB} {Q:TS→Prop} {o:Oper}
variable {dst:Option Tmp} {ty:TypeId} {pos:String} {aft:Array Edge} {gd:Option (Nat×Bool)} {p q:TV} {ms:List Nat} {i:Nat} {np:List Nat} {c:Nat}
theorem TO.mv{x:Operand}(hw:twant ops tm { dst:=dst,op:=.move x,type:=ty,pos:=pos,after:=aft,guard:=gd }=some true)(hv:tev tm x=p)(ht:tput tm dst p=tm2)(hq:TO C P ops rest ⟨tm2,hp⟩ Q):TO C P ops ({ dst:=dst,op:=.move x,type:=ty,pos:=pos,after:=aft,guard:=gd }::rest) ⟨tm,hp⟩ Q:=
 TO.pop1 hw (by subst hv;rfl) ht hq
theorem TD.mv{x:Operand}(hw:twant ops tm { dst:=dst,op:=.move x,type:=ty,pos:=pos,after:=aft,guard:=gd }=some true)(hv:tev tm x=p)(ht:tput tm dst p=tm2)(hq:TD C P ops ms rest (i+1) np c ⟨tm2,hp⟩ Q):TD C P ops ms ({ dst:=dst,op:=.move x,type:=ty,pos:=pos,after:=aft,guard:=gd }::rest) i np c ⟨tm,hp⟩ Q:=
 TD.pop1 hw (by subst hv;rfl) ht hq
theorem TO.asg{x:Operand}(hw:twant ops tm { dst:=dst,op:=.assign x,type:=ty,pos:=pos,after:=aft,guard:=gd }=some true)(hv:tev tm x=p)(ht:tput tm dst p=tm2)(hq:TO C P ops rest ⟨tm2,hp⟩ Q):TO C P ops ({ dst:=dst,op:=.assign x,type:=ty,pos:=pos,after:=aft,guard:=gd }::rest) ⟨tm,hp⟩ Q:=
 TO.pop1 hw (by subst hv;rfl) ht hq
theorem TD.asg{x:Operand}(hw:twant ops tm { dst:=dst,op:=.assign x,type:=ty,pos:=pos,after:=aft,guard:=gd }=some true)(hv:tev tm x=p)(ht:tput tm dst p=tm2)(hq:TD C P ops ms rest (i+1) np c ⟨tm2,hp⟩ Q):TD C P ops ms ({ dst:=dst,op:=.assign x,type:=ty,pos:=pos,after:=aft,guard:=gd }::rest) i np c ⟨tm,hp⟩ Q:=
 TD.pop1 hw (by subst hv;rfl) ht hq
theorem TO.bin{b:BinOp}{t u:TypeId}{x y:Operand}{a d r:Value}(hw:twant ops tm { dst:=dst,op:=.binOp b t x y u,type:=ty,pos:=pos,after:=aft,guard:=gd }=some true)(hx:tev tm x = .v a)(hy:tev tm y = .v d)(hv:cQ b a d=some r)(ht:tput tm dst (.v r)=tm2)(hq:TO C P ops rest ⟨tm2,hp⟩ Q):TO C P ops ({ dst:=dst,op:=.binOp b t x y u,type:=ty,pos:=pos,after:=aft,guard:=gd }::rest) ⟨tm,hp⟩ Q:=
 TO.pop1 hw (by simp only[tpop,hx,hy,tbin,hv,Option.map_some,orT]) ht hq
theorem TD.bin{b:BinOp}{t u:TypeId}{x y:Operand}{a d r:Value}(hw:twant ops tm { dst:=dst,op:=.binOp b t x y u,type:=ty,pos:=pos,after:=aft,guard:=gd }=some true)(hx:tev tm x = .v a)(hy:tev tm y = .v d)(hv:cQ b a d=some r)(ht:tput tm dst (.v r)=tm2)(hq:TD C P ops ms rest (i+1) np c ⟨tm2,hp⟩ Q):TD C P ops ms ({ dst:=dst,op:=.binOp b t x y u,type:=ty,pos:=pos,after:=aft,guard:=gd }::rest) i np c ⟨tm,hp⟩ Q:=
 TD.pop1 hw (by simp only[tpop,hx,hy,tbin,hv,Option.map_some,orT]) ht hq
theorem TO.ext{x:Operand}{n:Nat}{l:List TV}(hw:twant ops tm { dst:=dst,op:=.extract x n,type:=ty,pos:=pos,after:=aft,guard:=gd }=some true)(hx:tev tm x = .tuple l)(hv:l[n]?=some p)(ht:tput tm dst p=tm2)(hq:TO C P ops rest ⟨tm2,hp⟩ Q):TO C P ops ({ dst:=dst,op:=.extract x n,type:=ty,pos:=pos,after:=aft,guard:=gd }::rest) ⟨tm,hp⟩ Q:=
 TO.pop1 hw (by simp only[tpop,hx,hv]) ht hq
theorem TD.ext{x:Operand}{n:Nat}{l:List TV}(hw:twant ops tm { dst:=dst,op:=.extract x n,type:=ty,pos:=pos,after:=aft,guard:=gd }=some true)(hx:tev tm x = .tuple l)(hv:l[n]?=some p)(ht:tput tm dst p=tm2)(hq:TD C P ops ms rest (i+1) np c ⟨tm2,hp⟩ Q):TD C P ops ms ({ dst:=dst,op:=.extract x n,type:=ty,pos:=pos,after:=aft,guard:=gd }::rest) i np c ⟨tm,hp⟩ Q:=
 TD.pop1 hw (by simp only[tpop,hx,hv]) ht hq
theorem TO.fa{t:TypeId}{x:Operand}{f:Nat}(hw:twant ops tm { dst:=dst,op:=.fieldAddr t x f,type:=ty,pos:=pos,after:=aft,guard:=gd }=some true)(hx:tev tm x=q)(hv:bC P t q f=some p)(ht:tput tm dst p=tm2)(hq:TO C P ops rest ⟨tm2,hp⟩ Q):TO C P ops ({ dst:=dst,op:=.fieldAddr t x f,type:=ty,pos:=pos,after:=aft,guard:=gd }::rest) ⟨tm,hp⟩ Q:=
 TO.pop1 hw (by simp only[tpop,hx,hv]) ht hq
theorem TD.fa{t:TypeId}{x:Operand}{f:Nat}(hw:twant ops tm { dst:=dst,op:=.fieldAddr t x f,type:=ty,pos:=pos,after:=aft,guard:=gd }=some true)(hx:tev tm x=q)(hv:bC P t q f=some p)(ht:tput tm dst p=tm2)(hq:TD C P ops ms rest (i+1) np c ⟨tm2,hp⟩ Q):TD C P ops ms ({ dst:=dst,op:=.fieldAddr t x f,type:=ty,pos:=pos,after:=aft,guard:=gd }::rest) i np c ⟨tm,hp⟩ Q:=
 TD.pop1 hw (by simp only[tpop,hx,hv]) ht hq
theorem TO.ia{t:TypeId}{x y:Operand}{q2:TV}(hw:twant ops tm { dst:=dst,op:=.indexAddr t x y,type:=ty,pos:=pos,after:=aft,guard:=gd }=some true)(hx:tev tm x=q)(hy:tev tm y=q2)(hv:aB P hp t q q2=some p)(ht:tput tm dst p=tm2)(hq:TO C P ops rest ⟨tm2,hp⟩ Q):TO C P ops ({ dst:=dst,op:=.indexAddr t x y,type:=ty,pos:=pos,after:=aft,guard:=gd }::rest) ⟨tm,hp⟩ Q:=
 TO.pop1 hw (by simp only[tpop,hx,hy,hv]) ht hq
theorem TD.ia{t:TypeId}{x y:Operand}{q2:TV}(hw:twant ops tm { dst:=dst,op:=.indexAddr t x y,type:=ty,pos:=pos,after:=aft,guard:=gd }=some true)(hx:tev tm x=q)(hy:tev tm y=q2)(hv:aB P hp t q q2=some p)(ht:tput tm dst p=tm2)(hq:TD C P ops ms rest (i+1) np c ⟨tm2,hp⟩ Q):TD C P ops ms ({ dst:=dst,op:=.indexAddr t x y,type:=ty,pos:=pos,after:=aft,guard:=gd }::rest) i np c ⟨tm,hp⟩ Q:=
 TD.pop1 hw (by simp only[tpop,hx,hy,hv]) ht hq
theorem TO.pk{x y z:Operand}(hw:twant ops tm { dst:=dst,op:=.pick x y z,type:=ty,pos:=pos,after:=aft,guard:=gd }=some true)(hv:tpick (tev tm x) (tev tm y) (tev tm z)=some p)(ht:tput tm dst p=tm2)(hq:TO C P ops rest ⟨tm2,hp⟩ Q):TO C P ops ({ dst:=dst,op:=.pick x y z,type:=ty,pos:=pos,after:=aft,guard:=gd }::rest) ⟨tm,hp⟩ Q:=
 TO.pop1 hw (by simp only[tpop,hv]) ht hq
theorem TD.pk{x y z:Operand}(hw:twant ops tm { dst:=dst,op:=.pick x y z,type:=ty,pos:=pos,after:=aft,guard:=gd }=some true)(hv:tpick (tev tm x) (tev tm y) (tev tm z)=some p)(ht:tput tm dst p=tm2)(hq:TD C P ops ms rest (i+1) np c ⟨tm2,hp⟩ Q):TD C P ops ms ({ dst:=dst,op:=.pick x y z,type:=ty,pos:=pos,after:=aft,guard:=gd }::rest) i np c ⟨tm,hp⟩ Q:=
 TD.pop1 hw (by simp only[tpop,hv]) ht hq
theorem TO.len{x:Operand}{t:TypeId}{ts:List TypeId}(hw:twant ops tm { dst:=dst,op:=.call { callee:=.builtin .len,args:=#[x],argTypes:=⟨t::ts⟩ },type:=ty,pos:=pos,after:=aft,guard:=gd }=some true)(hx:tev tm x=q)(hv:tlen P (some t) q=some p)(ht:tput tm dst p=tm2)(hq:TO C P ops rest ⟨tm2,hp⟩ Q):TO C P ops ({ dst:=dst,op:=.call { callee:=.builtin .len,args:=#[x],argTypes:=⟨t::ts⟩ },type:=ty,pos:=pos,after:=aft,guard:=gd }::rest) ⟨tm,hp⟩ Q:=
 TO.pop1 hw (by simp only[tpop,if_true,hx,List.getElem?_toArray,List.getElem?_cons_zero,hv,orT]) ht hq
theorem TD.len{x:Operand}{t:TypeId}{ts:List TypeId}(hw:twant ops tm { dst:=dst,op:=.call { callee:=.builtin .len,args:=#[x],argTypes:=⟨t::ts⟩ },type:=ty,pos:=pos,after:=aft,guard:=gd }=some true)(hx:tev tm x=q)(hv:tlen P (some t) q=some p)(ht:tput tm dst p=tm2)(hq:TD C P ops ms rest (i+1) np c ⟨tm2,hp⟩ Q):TD C P ops ms ({ dst:=dst,op:=.call { callee:=.builtin .len,args:=#[x],argTypes:=⟨t::ts⟩ },type:=ty,pos:=pos,after:=aft,guard:=gd }::rest) i np c ⟨tm,hp⟩ Q:=
 TD.pop1 hw (by simp only[tpop,if_true,hx,List.getElem?_toArray,List.getElem?_cons_zero,hv,orT]) ht hq
theorem TO.bld{t:TypeId}{ps:Array (Nat×Operand)}{l:List (Nat×TV)}(hw:twant ops tm { dst:=dst,op:=.build t ps,type:=ty,pos:=pos,after:=aft,guard:=gd }=some true)(hx:ps.toList.map (fun q=>(q.1,tev tm q.2))=l)(hv:tbuild P t l=some p)(ht:tput tm dst p=tm2)(hq:TO C P ops rest ⟨tm2,hp⟩ Q):TO C P ops ({ dst:=dst,op:=.build t ps,type:=ty,pos:=pos,after:=aft,guard:=gd }::rest) ⟨tm,hp⟩ Q:=
 TO.pop1 hw (by simp only[tpop,hx,hv]) ht hq
theorem TD.bld{t:TypeId}{ps:Array (Nat×Operand)}{l:List (Nat×TV)}(hw:twant ops tm { dst:=dst,op:=.build t ps,type:=ty,pos:=pos,after:=aft,guard:=gd }=some true)(hx:ps.toList.map (fun q=>(q.1,tev tm q.2))=l)(hv:tbuild P t l=some p)(ht:tput tm dst p=tm2)(hq:TD C P ops ms rest (i+1) np c ⟨tm2,hp⟩ Q):TD C P ops ms ({ dst:=dst,op:=.build t ps,type:=ty,pos:=pos,after:=aft,guard:=gd }::rest) i np c ⟨tm,hp⟩ Q:=
 TD.pop1 hw (by simp only[tpop,hx,hv]) ht hq
theorem TO.mf{f:FuncId}{a b:Array Operand}{l1 l2:List TV}(hw:twant ops tm { dst:=dst,op:=.makeFunc (.func f) a b,type:=ty,pos:=pos,after:=aft,guard:=gd }=some true)(hx:a.toList.map (tev tm)=l1)(hy:b.toList.map (tev tm)=l2)(hv:(l1.all (lf 4)&&l2.all (lf 4))=true)(ht:tput tm dst (.func f l1 l2)=tm2)(hq:TO C P ops rest ⟨tm2,hp⟩ Q):TO C P ops ({ dst:=dst,op:=.makeFunc (.func f) a b,type:=ty,pos:=pos,after:=aft,guard:=gd }::rest) ⟨tm,hp⟩ Q:=
 TO.pop1 hw (by subst hx hy;simp only[tpop];rw[if_pos];simpa only[List.all_map,Function.comp_def] using hv) ht hq
theorem TD.mf{f:FuncId}{a b:Array Operand}{l1 l2:List TV}(hw:twant ops tm { dst:=dst,op:=.makeFunc (.func f) a b,type:=ty,pos:=pos,after:=aft,guard:=gd }=some true)(hx:a.toList.map (tev tm)=l1)(hy:b.toList.map (tev tm)=l2)(hv:(l1.all (lf 4)&&l2.all (lf 4))=true)(ht:tput tm dst (.func f l1 l2)=tm2)(hq:TD C P ops ms rest (i+1) np c ⟨tm2,hp⟩ Q):TD C P ops ms ({ dst:=dst,op:=.makeFunc (.func f) a b,type:=ty,pos:=pos,after:=aft,guard:=gd }::rest) i np c ⟨tm,hp⟩ Q:=
 TD.pop1 hw (by subst hx hy;simp only[tpop];rw[if_pos];simpa only[List.all_map,Function.comp_def] using hv) ht hq
theorem TO.ld{t:TypeId}{a:Operand}(hw:twant ops tm { dst:=dst,op:=.load t a,type:=ty,pos:=pos,after:=aft,guard:=gd }=some true)(hx:tev tm a=p)(hv:tload P hp t p=some q)(ht:tput tm dst q=tm2)(hh2:hp=hp2)(hq:TO C P ops rest ⟨tm2,hp2⟩ Q):TO C P ops ({ dst:=dst,op:=.load t a,type:=ty,pos:=pos,after:=aft,guard:=gd }::rest) ⟨tm,hp⟩ Q:=by
 subst ht hh2
 exact TO.g hw (OpG.load (by rw[show tev (TS.mk tm hp).tm a=p from hx];exact hv)) hq
theorem TD.ld{t:TypeId}{a:Operand}(hw:twant ops tm { dst:=dst,op:=.load t a,type:=ty,pos:=pos,after:=aft,guard:=gd }=some true)(hx:tev tm a=p)(hv:tload P hp t p=some q)(ht:tput tm dst q=tm2)(hh2:hp=hp2)(hq:TD C P ops ms rest (i+1) (i::np) 0 ⟨tm2,hp2⟩ Q):TD C P ops ms ({ dst:=dst,op:=.load t a,type:=ty,pos:=pos,after:=aft,guard:=gd }::rest) i np 0 ⟨tm,hp⟩ Q:=by
 subst ht hh2
 exact TD.g hw (OpG.load (by rw[show tev (TS.mk tm hp).tm a=p from hx];exact hv)) hq
theorem TO.al{e:TypeId}{z:List Value}{zt:List TV}(hw:twant ops tm { dst:=dst,op:=.alloc e,type:=ty,pos:=pos,after:=aft,guard:=gd }=some true)(hv:fQ P e=some z)(hz:z.map TV.v=zt)(ht:tput tm dst (.lptr hp.length 0 0)=tm2)(hh2:(hp++[.var zt])=hp2)(hq:TO C P ops rest ⟨tm2,hp2⟩ Q):TO C P ops ({ dst:=dst,op:=.alloc e,type:=ty,pos:=pos,after:=aft,guard:=gd }::rest) ⟨tm,hp⟩ Q:=by
 subst ht hh2
 exact TO.g hw (by subst hz;exact OpG.alloc hv) hq
theorem TD.al{e:TypeId}{z:List Value}{zt:List TV}(hw:twant ops tm { dst:=dst,op:=.alloc e,type:=ty,pos:=pos,after:=aft,guard:=gd }=some true)(hv:fQ P e=some z)(hz:z.map TV.v=zt)(ht:tput tm dst (.lptr hp.length 0 0)=tm2)(hh2:(hp++[.var zt])=hp2)(hq:TD C P ops ms rest (i+1) (i::np) 0 ⟨tm2,hp2⟩ Q):TD C P ops ms ({ dst:=dst,op:=.alloc e,type:=ty,pos:=pos,after:=aft,guard:=gd }::rest) i np 0 ⟨tm,hp⟩ Q:=by
 subst ht hh2
 exact TD.g hw (by subst hz;exact OpG.alloc hv) hq
theorem TO.bf{e:TypeId}{x:Operand}{l:List TV}(hw:twant ops tm { dst:=dst,op:=.box e x,type:=ty,pos:=pos,after:=aft,guard:=gd }=some true)(hx:tev tm x=p)(hj:jH p=false)(hl:tcells p=l)(hlf:l.all (lf 4)=true)(ht:tput tm dst (.fptr true l 0)=tm2)(hh2:hp=hp2)(hq:TO C P ops rest ⟨tm2,hp2⟩ Q):TO C P ops ({ dst:=dst,op:=.box e x,type:=ty,pos:=pos,after:=aft,guard:=gd }::rest) ⟨tm,hp⟩ Q:=by
 subst ht hh2
 exact TO.g hw (by subst hl;exact OpG.boxF hx hj hlf) hq
theorem TO.bs{t:TypeId}{n:Nat}{ps:Array (Nat×Operand)}{l:List (Nat×TV)}{es:Nat}{rows:List (List TV)}(hw:twant ops tm { dst:=dst,op:=.buildSlice t n ps,type:=ty,pos:=pos,after:=aft,guard:=gd }=some true)(hx:ps.toList.map (fun q=>(q.1,tev tm q.2))=l)(hv:tslice P t n l=some (es,rows))(ht:tput tm dst (.list es rows)=tm2)(hh2:hp=hp2)(hq:TO C P ops rest ⟨tm2,hp2⟩ Q):TO C P ops ({ dst:=dst,op:=.buildSlice t n ps,type:=ty,pos:=pos,after:=aft,guard:=gd }::rest) ⟨tm,hp⟩ Q:=by
 subst ht hh2
 exact TO.g hw (OpG.buildSlice (s:=⟨tm,hp⟩) (by simp only[hx];exact hv)) hq
theorem TD.bs{t:TypeId}{n:Nat}{ps:Array (Nat×Operand)}{l:List (Nat×TV)}{es:Nat}{rows:List (List TV)}(hw:twant ops tm { dst:=dst,op:=.buildSlice t n ps,type:=ty,pos:=pos,after:=aft,guard:=gd }=some true)(hx:ps.toList.map (fun q=>(q.1,tev tm q.2))=l)(hv:tslice P t n l=some (es,rows))(ht:tput tm dst (.list es rows)=tm2)(hh2:hp=hp2)(hq:TD C P ops ms rest (i+1) (i::np) 0 ⟨tm2,hp2⟩ Q):TD C P ops ms ({ dst:=dst,op:=.buildSlice t n ps,type:=ty,pos:=pos,after:=aft,guard:=gd }::rest) i np 0 ⟨tm,hp⟩ Q:=by
 subst ht hh2
 exact TD.g hw (OpG.buildSlice (s:=⟨tm,hp⟩) (by simp only[hx];exact hv)) hq
theorem aCy(hsl0:True){α:Type}{x y:Operand}{t0 t1 e:TypeId}{tys:List TypeId}{n len es:Nat}{xs ys:List α}{f:α→List TV}{z:List Value}{new:List (List TV)}{xy:List α}(hx:tev tm x = .lsl n 0 len)(hb:hp[n]?=some (.rows es (xs.map f)))(hlen:len=xs.length)(hy:tev tm y = .list es new)(hnew:new=ys.map f)(hsl:bY P t0=some e)(hni:mS P (some t1)=true)(hz:fQ P e=some z)(hes:z.length=es)(hap:pJ (mW P e) xs ys=some xy)(hff:∀ a,(f a).length=es∧(f a).all tone=true∧(f a).all (lf 4)=true):OpW C P { dst:=dst,op:=.call { callee:=.builtin .append,args:=#[x,y],argTypes:=⟨t0::t1::tys⟩ },type:=ty,pos:=pos,after:=aft,guard:=gd } ⟨tm,hp⟩ ⟨tput (tm.map (kill n 4)) dst (.lsl n 0 xy.length),(hp.map (pL n)).set n (.rows es (xy.map f))⟩:=by
 unfold pJ at hap
 split at hap
 ·rename_i hl
  obtain rfl:=Option.some.inj hap
  subst hnew
  have:=OpW.append (C:=C) (P:=P) (s:=⟨tm,hp⟩) (dst:=dst) (ty:=ty) (pos:=pos) (aft:=aft) (gd:=gd) (x:=x) (y:=y) (t0:=t0) (t1:=t1) (e:=e) (tys:=tys) (n:=n) (len:=len) (es:=es) (rows:=xs.map f) (new:=ys.map f) (z:=z) hx hb (by simp[hlen]) hy hsl hni hz hes (by simpa [aCk] using hl)
   (fun r hr=>by obtain⟨a,_,rfl⟩:=List.mem_map.1 hr;exact (hff a).1) (fun r hr=>by obtain⟨a,_,rfl⟩:=List.mem_map.1 hr;exact (hff a).2.1) (fun r hr=>by obtain⟨a,_,rfl⟩:=List.mem_map.1 hr;exact (hff a).2.2)
  simpa using this
 ·cases hap
theorem TO.ap{α:Type}{x y:Operand}{t0 t1 e:TypeId}{tys:List TypeId}{n len es:Nat}{xs ys:List α}{f:α→List TV}{z:List Value}{new:List (List TV)}{xy:List α}(hw:twant ops tm { dst:=dst,op:=.call { callee:=.builtin .append,args:=#[x,y],argTypes:=⟨t0::t1::tys⟩ },type:=ty,pos:=pos,after:=aft,guard:=gd }=some true)(hx:tev tm x = .lsl n 0 len)(hb:hp[n]?=some (.rows es (xs.map f)))(hlen:len=xs.length)(hy:tev tm y = .list es new)(hnew:new=ys.map f)(hsl:bY P t0=some e)(hni:mS P (some t1)=true)(hz:fQ P e=some z)(hes:z.length=es)(hap:pJ (mW P e) xs ys=some xy)(hff:∀ a,(f a).length=es∧(f a).all tone=true∧(f a).all (lf 4)=true)(ht:tput (tm.map (kill n 4)) dst (.lsl n 0 xy.length)=tm2)(hh2:(hp.map (pL n)).set n (.rows es (xy.map f))=hp2)(hq:TO C P ops rest ⟨tm2,hp2⟩ Q):TO C P ops ({ dst:=dst,op:=.call { callee:=.builtin .append,args:=#[x,y],argTypes:=⟨t0::t1::tys⟩ },type:=ty,pos:=pos,after:=aft,guard:=gd }::rest) ⟨tm,hp⟩ Q:=by
 subst ht hh2
 exact TO.w hw (aCy trivial hx hb hlen hy hnew hsl hni hz hes hap hff) hq
theorem TD.ap{α:Type}{x y:Operand}{t0 t1 e:TypeId}{tys:List TypeId}{n len es:Nat}{xs ys:List α}{f:α→List TV}{z:List Value}{new:List (List TV)}{xy:List α}(hw:twant ops tm { dst:=dst,op:=.call { callee:=.builtin .append,args:=#[x,y],argTypes:=⟨t0::t1::tys⟩ },type:=ty,pos:=pos,after:=aft,guard:=gd }=some true)(hx:tev tm x = .lsl n 0 len)(hb:hp[n]?=some (.rows es (xs.map f)))(hlen:len=xs.length)(hy:tev tm y = .list es new)(hnew:new=ys.map f)(hsl:bY P t0=some e)(hni:mS P (some t1)=true)(hz:fQ P e=some z)(hes:z.length=es)(hap:pJ (mW P e) xs ys=some xy)(hff:∀ a,(f a).length=es∧(f a).all tone=true∧(f a).all (lf 4)=true)(hnp:np.all (fun j=>(aP ms i).testBit j)=true)(ht:tput (tm.map (kill n 4)) dst (.lsl n 0 xy.length)=tm2)(hh2:(hp.map (pL n)).set n (.rows es (xy.map f))=hp2)(hq:TD C P ops ms rest (i+1) (i::np) 1 ⟨tm2,hp2⟩ Q):TD C P ops ms ({ dst:=dst,op:=.call { callee:=.builtin .append,args:=#[x,y],argTypes:=⟨t0::t1::tys⟩ },type:=ty,pos:=pos,after:=aft,guard:=gd }::rest) i np c ⟨tm,hp⟩ Q:=by
 subst ht hh2
 exact TD.w hw (aCy trivial hx hb hlen hy hnew hsl hni hz hes hap hff) hnp hq
theorem TO.cal{fo:Operand}{g:FuncId}{args:Array Operand}{tys:Array TypeId}{first caps as:List TV}{th:List TB}(hw:twant ops tm { dst:=dst,op:=.call { callee:=.value fo,args:=args,argTypes:=tys },type:=ty,pos:=pos,after:=aft,guard:=gd }=some true)(hf:tev tm fo = .func g first caps)(hg:aL P g=true)(hsp:Spec C g as ⟨[p],th⟩)(has:first++(args.toList.map (tev tm)++caps)=as)(hl:as.all (lf 4)=true)(hth:th.all Ce=true)(ht:tput tm dst (shift hp.length 4 p)=tm2)(hh2:hp++th=hp2)(hq:TO C P ops rest ⟨tm2,hp2⟩ Q):TO C P ops ({ dst:=dst,op:=.call { callee:=.value fo,args:=args,argTypes:=tys },type:=ty,pos:=pos,after:=aft,guard:=gd }::rest) ⟨tm,hp⟩ Q:=by
 subst ht hh2
 exact TO.g hw (OpG.call (s:=⟨tm,hp⟩) hf hg has hl hsp hth) hq
theorem TD.cal{fo:Operand}{g:FuncId}{args:Array Operand}{tys:Array TypeId}{first caps as:List TV}{th:List TB}(hw:twant ops tm { dst:=dst,op:=.call { callee:=.value fo,args:=args,argTypes:=tys },type:=ty,pos:=pos,after:=aft,guard:=gd }=some true)(hf:tev tm fo = .func g first caps)(hg:aL P g=true)(hsp:Spec C g as ⟨[p],th⟩)(has:first++(args.toList.map (tev tm)++caps)=as)(hl:as.all (lf 4)=true)(hth:th.all Ce=true)(ht:tput tm dst (shift hp.length 4 p)=tm2)(hh2:hp++th=hp2)(hq:TD C P ops ms rest (i+1) (i::np) 0 ⟨tm2,hp2⟩ Q):TD C P ops ms ({ dst:=dst,op:=.call { callee:=.value fo,args:=args,argTypes:=tys },type:=ty,pos:=pos,after:=aft,guard:=gd }::rest) i np 0 ⟨tm,hp⟩ Q:=by
 subst ht hh2
 exact TD.g hw (OpG.call (s:=⟨tm,hp⟩) hf hg has hl hsp hth) hq
theorem TO.lok{fo:Operand}{g:FuncId}{args:Array Operand}{tys:Array TypeId}{first caps as:List TV}{th:List TB}(hw:twant ops tm { dst:=dst,op:=.call { callee:=.value fo,args:=args,argTypes:=tys },type:=ty,pos:=pos,after:=aft,guard:=gd }=some true)(hf:tev tm fo = .func g first caps)(hg:aL P g=true)(hsp:Spec C g as ⟨[p],th⟩)(has:first++((args.toList.map (tev tm)).map (view hp 4)++caps)=as)(hth:th.all Ce=true)(hcp:cl 4 p=true)(hcl:th.all qQ=true)(ht:tput tm dst (shift hp.length 4 p)=tm2)(hh2:hp++th=hp2)(hq:TO C P ops rest ⟨tm2,hp2⟩ Q):TO C P ops ({ dst:=dst,op:=.call { callee:=.value fo,args:=args,argTypes:=tys },type:=ty,pos:=pos,after:=aft,guard:=gd }::rest) ⟨tm,hp⟩ Q:=by
 subst ht hh2
 exact TO.g hw (OpG.look (s:=⟨tm,hp⟩) hf hg has hsp hth hcp hcl) hq
theorem TD.lok{fo:Operand}{g:FuncId}{args:Array Operand}{tys:Array TypeId}{first caps as:List TV}{th:List TB}(hw:twant ops tm { dst:=dst,op:=.call { callee:=.value fo,args:=args,argTypes:=tys },type:=ty,pos:=pos,after:=aft,guard:=gd }=some true)(hf:tev tm fo = .func g first caps)(hg:aL P g=true)(hsp:Spec C g as ⟨[p],th⟩)(has:first++((args.toList.map (tev tm)).map (view hp 4)++caps)=as)(hth:th.all Ce=true)(hcp:cl 4 p=true)(hcl:th.all qQ=true)(ht:tput tm dst (shift hp.length 4 p)=tm2)(hh2:hp++th=hp2)(hq:TD C P ops ms rest (i+1) (i::np) 0 ⟨tm2,hp2⟩ Q):TD C P ops ms ({ dst:=dst,op:=.call { callee:=.value fo,args:=args,argTypes:=tys },type:=ty,pos:=pos,after:=aft,guard:=gd }::rest) i np 0 ⟨tm,hp⟩ Q:=by
 subst ht hh2
 exact TD.g hw (OpG.look (s:=⟨tm,hp⟩) hf hg has hsp hth hcp hcl) hq
theorem TO.frz(n:Nat){l:List Oper}{b:TB}(hb:hp[n]?=some b)(hl:lfB b=true)(ht:tm.map (frz n b 4)=tm2)(hh2:(hp.map (Ld n b)).set n .dead=hp2)(hq:TO C P ops l ⟨tm2,hp2⟩ Q):TO C P ops l ⟨tm,hp⟩ Q:=by
 subst ht hh2
 exact TO.weak (Wk.freeze n hb hl) hq
theorem TD.frz(n:Nat){l:List Oper}{b:TB}(hb:hp[n]?=some b)(hl:lfB b=true)(ht:tm.map (frz n b 4)=tm2)(hh2:(hp.map (Ld n b)).set n .dead=hp2)(hcb:Nat.ble c 1=true)(hq:TD C P ops ms l i np c ⟨tm2,hp2⟩ Q):TD C P ops ms l i np c ⟨tm,hp⟩ Q:=by
 subst ht hh2
 exact TD.weak hcb (Wk.freeze n hb hl) hq
end
end Go.Rex
namespace Go.Rex
open Go.RowKit
section
variable {P:Program} {tm:List TV} {hp:List TB}
variable {dst:Option Tmp} {ty:TypeId} {pos:String} {aft:Array Edge} {gd:Option (Nat×Bool)} {x y:Operand} {t u:TypeId} {tys:List TypeId}
theorem nW{o:Oper}{v:Value}(ha:o.op.operands.toList.all (fun x=>(er 3 (tev tm x)).isSome)=true)(hv:Rex.pop P (erased tm) o=some v)(hi:pD 3 v=true):tgen P tm o=some (inj 3 v):=by
 unfold tgen
 rw[if_pos ha,hv]
 simp only
 rw[if_pos hi]
theorem bJ{a:Value}(h:tev tm x = .v a):erased tm x=a:=by unfold erased;rw[h];rfl
theorem kX{a:Value}(h:tev tm x = .v a):(er 3 (tev tm x)).isSome=true:=by rw[h];rfl
theorem dG{b:Bool}(h:tev tm x = .v (.bool b)):tpop P hp tm { dst:=dst,op:=.unOp .not t x,type:=ty,pos:=pos,after:=aft,guard:=gd }=some (.v (.bool (!b))):=by
 have:tgen P tm { dst:=dst,op:=.unOp .not t x,type:=ty,pos:=pos,after:=aft,guard:=gd }=some (inj 3 (.bool (!b))):=
  nW (by simp[Op.operands,kX h]) (by simp only[Rex.pop,Rex.pop0,Ym,bJ h]) rfl
 exact this
theorem Cx{k:IntKind}{n:Int}(h:tev tm x = .v (.int k n)):tpop P hp tm { dst:=dst,op:=.unOp .neg t x,type:=ty,pos:=pos,after:=aft,guard:=gd }=some (.v (.int k (k.wrap (0-n)))):=by
 have:tgen P tm { dst:=dst,op:=.unOp .neg t x,type:=ty,pos:=pos,after:=aft,guard:=gd }=some (inj 3 (.int k (k.wrap (0-n)))):=
  nW (by simp[Op.operands,kX h]) (by simp only[Rex.pop,Rex.pop0,Xh,bJ h]) rfl
 exact this
theorem zH{k:FloatKind}{a b:Nat}(h:tev tm x = .v (.complex k a b)):tpop P hp tm { dst:=dst,op:=.call { callee:=.builtin .real,args:=#[x],argTypes:=⟨tys⟩ },type:=ty,pos:=pos,after:=aft,guard:=gd }=some (.v (.float k a)):=by
 have:tgen P tm { dst:=dst,op:=.call { callee:=.builtin .real,args:=#[x],argTypes:=⟨tys⟩ },type:=ty,pos:=pos,after:=aft,guard:=gd }=some (inj 3 (.float k a)):=
  nW (by simpa [Op.operands,Call.operands] using kX h) (by
   exact Tz (bJ h)) rfl
 exact this
theorem zD{k:FloatKind}{a b:Nat}(h:tev tm x = .v (.complex k a b)):tpop P hp tm { dst:=dst,op:=.call { callee:=.builtin .imag,args:=#[x],argTypes:=⟨tys⟩ },type:=ty,pos:=pos,after:=aft,guard:=gd }=some (.v (.float k b)):=by
 have:tgen P tm { dst:=dst,op:=.call { callee:=.builtin .imag,args:=#[x],argTypes:=⟨tys⟩ },type:=ty,pos:=pos,after:=aft,guard:=gd }=some (inj 3 (.float k b)):=
  nW (by simpa [Op.operands,Call.operands] using kX h) (by
   exact Uv (bJ h)) rfl
 exact this
theorem Br{a b:Nat}(h:tev tm x = .v (.float .f32 a))(g:tev tm y = .v (.float .f32 b)):tpop P hp tm { dst:=dst,op:=.call { callee:=.builtin .complex,args:=#[x,y],argTypes:=⟨tys⟩ },type:=ty,pos:=pos,after:=aft,guard:=gd }=some (.v (.complex .f32 a b)):=by
 have:tgen P tm { dst:=dst,op:=.call { callee:=.builtin .complex,args:=#[x,y],argTypes:=⟨tys⟩ },type:=ty,pos:=pos,after:=aft,guard:=gd }=some (inj 3 (.complex .f32 a b)):=
  nW (by simpa [Op.operands,Call.operands] using ⟨kX h,kX g⟩) (by
   exact Jh (bJ h) (bJ g)) rfl
 exact this
theorem Cs{k k':IntKind}{a b:Int}(h:tev tm x = .v (.int k a))(g:tev tm y = .v (.int k' b)):tpop P hp tm { dst:=dst,op:=.call { callee:=.builtin .max,args:=#[x,y],argTypes:=⟨tys⟩ },type:=ty,pos:=pos,after:=aft,guard:=gd }=some (.v (.int k (if b>a then b else a))):=by
 have:tgen P tm { dst:=dst,op:=.call { callee:=.builtin .max,args:=#[x,y],argTypes:=⟨tys⟩ },type:=ty,pos:=pos,after:=aft,guard:=gd }=some (inj 3 (.int k (if b>a then b else a))):=
  nW (by simpa [Op.operands,Call.operands] using ⟨kX h,kX g⟩) (by
   simp only[Rex.pop,Rex.pop0,bpop];rw[if_neg (by decide),Wz,bJ h,bJ g]) rfl
 exact this
theorem Ru{k k':IntKind}{a b:Int}(h:tev tm x = .v (.int k a))(g:tev tm y = .v (.int k' b)):tpop P hp tm { dst:=dst,op:=.call { callee:=.builtin .min,args:=#[x,y],argTypes:=⟨tys⟩ },type:=ty,pos:=pos,after:=aft,guard:=gd }=some (.v (.int k (if b<a then b else a))):=by
 have:tgen P tm { dst:=dst,op:=.call { callee:=.builtin .min,args:=#[x,y],argTypes:=⟨tys⟩ },type:=ty,pos:=pos,after:=aft,guard:=gd }=some (inj 3 (.int k (if b<a then b else a))):=
  nW (by simpa [Op.operands,Call.operands] using ⟨kX h,kX g⟩) (by
   simp only[Rex.pop,Rex.pop0,bpop];rw[if_neg (by decide),Ye,bJ h,bJ g]) rfl
 exact this
theorem Nh{o:Oper}{v:Value}(hp0:Rex.pop0 P (erased tm) o=nG P (erased tm) o)(hsel:∀ cs b,o.op ≠ .select cs b)(ha:o.op.operands.toList.all (fun x=>(er 3 (tev tm x)).isSome)=true)(hc:o.op.operands.toList.all (fun x=>cU (erased tm x))=true)
 (hv:prun P (execOp (erased tm) o)=some (.value v)) (hi:pD 3 v=true) (hcv:bN v=true):tgen P tm o=some (inj 3 v):=by
 refine nW ha (Su ?_) hi
 rw[hp0]
 unfold nG
 split
 ·rename_i cs b e;exact absurd e (hsel _ _)
 ·rw[if_pos hc,hv]
  simp only
  rw[if_pos hcv]
theorem bH{α β:Type}{s:Sem α}{f:α→Sem β}:prun P (s >>= f)=(prun P s).bind fun a=>prun P (f a):=by
 induction s with
 | pure a=>rfl
 | program k ih=>exact ih _
 | mark m k ih=>exact ih
 | _=>rfl
theorem lG{t:TypeId}{d:TypeDesc}(h:P.underlying t=some d):prun P (underlying t)=some d:=by
 unfold underlying
 rw[bH]
 show prun P (match P.underlying t with | some d => pure d | none => stuck "no such type") = some d
 rw[h]
 rfl
theorem Zl{v w:Value}(h:tev tm x = .v v)(hc:cU v=true)(hw:prun P (convert t u v)=some w)(hi:pD 3 w=true)(hcw:bN w=true):tpop P hp tm { dst:=dst,op:=.convert t u x,type:=ty,pos:=pos,after:=aft,guard:=gd }=some (inj 3 w):=by
 have:tgen P tm { dst:=dst,op:=.convert t u x,type:=ty,pos:=pos,after:=aft,guard:=gd }=some (inj 3 w):=by
  refine Nh rfl (fun cs b e=>by cases e) (by simpa [Op.operands] using kX h) (by simpa [Op.operands,bJ h] using hc) ?_ hi hcw
  show prun P (convert t u (erased tm x) >>= fun r=>(pure (Next.value r):Sem Next))=_
  rw[bH,bJ h,hw]
  rfl
 exact this
theorem kF{k ks:IntKind}{kd:FloatKind}{n:Int}(hs:P.underlying t=some (.int ks))(hd:P.underlying u=some (.float kd))(h:tev tm x = .v (.int k n)):tpop P hp tm { dst:=dst,op:=.convert t u x,type:=ty,pos:=pos,after:=aft,guard:=gd }=some (.v (.float kd (kd.nearest n))):=by
 refine Zl (w:=.float kd (kd.nearest n)) h rfl ?_ rfl rfl
 unfold convert
 rw[bH,lG hs,Option.bind_some,bH,lG hd,Option.bind_some]
 rfl
theorem Sm{v w:Value}(h:tev tm x = .v v)(hn:Tx P t u v=some w)(hw:prun P (convert t u v)=some w∨prun P (convert t u v)=none)(hi:pD 3 w=true):tpop P hp tm { dst:=dst,op:=.convert t u x,type:=ty,pos:=pos,after:=aft,guard:=gd }=some (inj 3 w):=by
 have:tgen P tm { dst:=dst,op:=.convert t u x,type:=ty,pos:=pos,after:=aft,guard:=gd }=some (inj 3 w):=by
  refine nW (by simpa [Op.operands] using kX h) (wJ rfl ?_ ?_) hi
  ·show Tx P t u (erased tm x)=some w
   rw[bJ h];exact hn
  ·show prun P (convert t u (erased tm x) >>= fun r=>(pure (Next.value r):Sem Next))=_∨prun P (convert t u (erased tm x) >>= fun r=>(pure (Next.value r):Sem Next))=_
   rw[bH,bJ h]
   rcases hw with hw|hw
   ·rw[hw];exact .inl rfl
   ·rw[hw];exact .inr rfl
 exact this
theorem Ek{k kd:FloatKind}{b r:Nat}(hr:f2f k b kd=some r):prun P (Conv.floatToFloat k b kd)=some (.float kd r)∨prun P (Conv.floatToFloat k b kd)=none:=by
 unfold Conv.floatToFloat
 unfold f2f at hr
 split at hr
 ·rename_i e;rw[if_pos e];obtain rfl:=Option.some.inj hr;exact .inl rfl
 ·rename_i e
  rw[if_neg e]
  split at hr
  ·rename_i hn
   obtain⟨s,t,e2⟩:=mG hn
   have e3:k.decode b = .nan s t:=e2
   rw[e3]
   exact .inr rfl
  ·split at hr
   ·cases hr
   ·rename_i hd;obtain rfl:=Option.some.inj hr;simp only[hd];exact .inl rfl
   ·rename_i hd
    simp only[hd]
    split at hr
    ·cases hr
    ·rename_i hi
     obtain rfl:=Option.some.inj hr
     rw[if_neg hi]
     exact .inl rfl
theorem uB{k ks kd:FloatKind}{b r:Nat}(hs:P.underlying t=some (.float ks))(hd:P.underlying u=some (.float kd))(h:tev tm x = .v (.float k b))(hr:f2f k b kd=some r):tpop P hp tm { dst:=dst,op:=.convert t u x,type:=ty,pos:=pos,after:=aft,guard:=gd }=some (.v (.float kd r)):=by
 refine Sm (w:=.float kd r) h ?_ ?_ rfl
 ·simp only[Tx,hs,hd,hr,Option.map_some]
 ·have e : prun P (convert t u (.float k b)) = prun P (Conv.floatToFloat k b kd) := by
    unfold convert
    rw[bH,lG hs,Option.bind_some,bH,lG hd,Option.bind_some]
  rw[e]
  exact Ek hr
def f2i(s:FloatKind)(b:Nat)(d:IntKind):Option Int:=
 match (s.decode b).toInt .zero with
 | some n=>if d.min≤n∧n≤d.max then some n else none
 | none=>none
theorem rR{k ks:FloatKind}{kd:IntKind}{b:Nat}{r:Int}(hs:P.underlying t=some (.float ks))(hd:P.underlying u=some (.int kd))(h:tev tm x = .v (.float k b))(hr:f2i k b kd=some r):tpop P hp tm { dst:=dst,op:=.convert t u x,type:=ty,pos:=pos,after:=aft,guard:=gd }=some (.v (.int kd r)):=by
 have hnb:iH k b=false:=by
  cases hq:iH k b with
  | false=>rfl
  | true =>
   obtain⟨s,t,e⟩:=mG hq
   have e:k.decode b = .nan s t:=e
   unfold f2i at hr
   rw[e] at hr
   cases hr
 refine Zl (w:=.int kd r) h (by simp only[cU,depth,clean,pM,hnb];rfl) ?_ rfl rfl
 unfold convert
 rw[bH,lG hs,Option.bind_some,bH,lG hd,Option.bind_some]
 show prun P (Conv.floatToInt k b kd)=_
 unfold Conv.floatToInt
 unfold f2i at hr
 split at hr
 ·rename_i n hn
  split at hr
  ·rename_i hc
   obtain rfl:=Option.some.inj hr
   simp only[hn]
   rw[if_pos hc]
   rfl
  ·cases hr
 ·cases hr
theorem Bm{k kd ks:FloatKind}{a b r i:Nat}(hs:P.underlying t=some (.complex ks))(hd:P.underlying u=some (.complex kd))(h:tev tm x = .v (.complex k a b))(hr:f2f k a kd=some r)(hi:f2f k b kd=some i):tpop P hp tm { dst:=dst,op:=.convert t u x,type:=ty,pos:=pos,after:=aft,guard:=gd }=some (.v (.complex kd r i)):=by
 refine Sm (w:=.complex kd r i) h ?_ ?_ rfl
 ·simp only[Tx,hs,hd,hr,hi,Option.map_some,Option.bind_some]
 ·have e : prun P (convert t u (.complex k a b)) = prun P (Conv.complexToComplex k a b kd) := by
    unfold convert
    rw[bH,lG hs,Option.bind_some,bH,lG hd,Option.bind_some]
  rw[e]
  unfold Conv.complexToComplex
  rw[bH]
  rcases Ek (P:=P) hr with h1|h1
  ·rw[h1,Option.bind_some]
   simp only
   rw[bH]
   rcases Ek (P:=P) hi with h2|h2
   ·rw[h2];exact .inl rfl
   ·rw[h2];exact .inr rfl
  ·rw[h1];exact .inr rfl
def yA(op:BinOp)(k:IntKind)(a b:Int):Int:=
 let x:=BitVec.ofInt k.bits a
 let y:=BitVec.ofInt k.bits b
 match op with
 | .and=>k.wrap (x &&& y).toNat
 | .or=>k.wrap (x ||| y).toNat
 | .xor=>k.wrap (x ^^^ y).toNat
 | _=>k.wrap (x &&& ~~~y).toNat
def shI(op:BinOp)(k:IntKind)(a b:Int):Option Int:=
 if b<0 then none else match op with
 | .shl=>some (k.wrap (a*2^(min b.toNat k.bits)))
 | _=>some (a.fdiv (2^(min b.toNat k.bits)))
theorem Xs{b:BinOp}{v w r:Value}(h:tev tm x = .v v)(g:tev tm y = .v w)(hf:cQ b v w=none)(hc:cU v=true)(hd:cU w=true)(he:prun P (eqGuard b t x y v w)=some ())(hw:prun P (binOp b t v w)=some r)(hi:pD 3 r=true)(hcr:bN r=true) :
 tpop P hp tm { dst:=dst,op:=.binOp b t x y u,type:=ty,pos:=pos,after:=aft,guard:=gd }=some (inj 3 r):=by
 have h1:tgen P tm { dst:=dst,op:=.binOp b t x y u,type:=ty,pos:=pos,after:=aft,guard:=gd }=some (inj 3 r):=by
  refine Nh ?_ (fun cs b e=>by cases e) (by simpa [Op.operands] using ⟨kX h,kX g⟩) (by simpa [Op.operands,bJ h,bJ g] using ⟨hc,hd⟩) ?_ hi hcr
  ·simp only[Rex.pop0,bJ h,bJ g,hf,oS]
  ·show prun P ((eqGuard b t x y (erased tm x) (erased tm y) >>= fun _=>binOp b t (erased tm x) (erased tm y)) >>= fun r=>(pure (Next.value r):Sem Next))=_
   rw[bH,bJ h,bJ g,bH,he,Option.bind_some,hw]
   rfl
 simp only[tpop,h,g,tbin,hf,Option.map_none,orT]
 exact h1
theorem Rs{b:BinOp}{v w r:Value}(h:tev tm x = .v v)(g:tev tm y = .v w)(hf:cQ b v w=none)(hn:Nm b v w=some r)(hw:prun P (eqGuard b t x y v w >>= fun _=>binOp b t v w)=some r∨prun P (eqGuard b t x y v w >>= fun _=>binOp b t v w)=none)(hi:pD 3 r=true) :
 tpop P hp tm { dst:=dst,op:=.binOp b t x y u,type:=ty,pos:=pos,after:=aft,guard:=gd }=some (inj 3 r):=by
 have h1:tgen P tm { dst:=dst,op:=.binOp b t x y u,type:=ty,pos:=pos,after:=aft,guard:=gd }=some (inj 3 r):=by
  refine nW (by simpa [Op.operands] using ⟨kX h,kX g⟩) (wJ ?_ ?_ ?_) hi
  ·simp only[Rex.pop0,bJ h,bJ g,hf,oS]
  ·show Nm b (erased tm x) (erased tm y)=some r
   rw[bJ h,bJ g];exact hn
  ·show prun P ((eqGuard b t x y (erased tm x) (erased tm y) >>= fun _=>binOp b t (erased tm x) (erased tm y)) >>= fun r=>(pure (Next.value r):Sem Next))=_∨prun P ((eqGuard b t x y (erased tm x) (erased tm y) >>= fun _=>binOp b t (erased tm x) (erased tm y)) >>= fun r=>(pure (Next.value r):Sem Next))=_
   rw[bJ h,bJ g,bH]
   rcases hw with hw|hw
   ·rw[hw];exact .inl rfl
   ·rw[hw];exact .inr rfl
 simp only[tpop,h,g,tbin,hf,Option.map_none,orT]
 exact h1
theorem Hr{b:BinOp}{v w:Value}(hb:b ≠ .eql∧b ≠ .neq):prun P (eqGuard b t x y v w)=some ():=by
 cases b<;>first|rfl|exact absurd rfl hb.1|exact absurd rfl hb.2
theorem vC{b:BinOp}{k:IntKind}{a d:Int}(h:tev tm x = .v (.int k a))(g:tev tm y = .v (.int k d))(hb:b = .and∨b = .or∨b = .xor∨b = .andNot):tpop P hp tm { dst:=dst,op:=.binOp b t x y u,type:=ty,pos:=pos,after:=aft,guard:=gd }=some (.v (.int k (yA b k a d))):=by
 refine Xs (r:=.int k (yA b k a d)) h g ?_ rfl rfl (Hr ?_) ?_ rfl rfl
 ·rcases hb with rfl|rfl|rfl|rfl<;>simp[cQ]
 ·rcases hb with rfl|rfl|rfl|rfl<;>exact⟨by decide,by decide⟩
 ·rcases hb with rfl|rfl|rfl|rfl<;>simp[binOp,Op.intBits,yA]<;>rfl
theorem wK{b:BinOp}{k k':IntKind}{a d r:Int}(h:tev tm x = .v (.int k a))(g:tev tm y = .v (.int k' d))(hb:b = .shl∨b = .shr)(hr:shI b k a d=some r):tpop P hp tm { dst:=dst,op:=.binOp b t x y u,type:=ty,pos:=pos,after:=aft,guard:=gd }=some (.v (.int k r)):=by
 unfold shI at hr
 split at hr
 ·cases hr
 ·rename_i hd
  refine Xs (r:=.int k r) h g ?_ rfl rfl (Hr ?_) ?_ rfl rfl
  ·rcases hb with rfl|rfl<;>simp[cQ]
  ·rcases hb with rfl|rfl<;>exact⟨by decide,by decide⟩
  ·rcases hb with rfl|rfl<;>(obtain rfl:=Option.some.inj hr;simp only[binOp,Op.shift,if_neg hd];rfl)
end
end Go.Rex
namespace Go.Rex
open Go.RowKit
section
variable {C:Ctx} {P:Program} {Fz:Nat→Prop} {h h0:List Blk} {L:Nat→LI} {s:TS} {tm:List Value}
variable {dst:Option Tmp} {ty:TypeId} {pos:String} {aft:Array Edge} {gd:Option (Nat×Bool)}
end
end Go.Rex
namespace Go.Rex
open Go.RowKit
section
variable {C:Ctx} {P:Program} {ops:Array Oper} {rest:List Oper} {tm tm2:List TV} {hp hp2:List TB} {Q:TS→Prop} {o:Oper}
variable {dst:Option Tmp} {ty:TypeId} {pos:String} {aft:Array Edge} {gd:Option (Nat×Bool)} {p q:TV} {ms:List Nat} {i:Nat} {np:List Nat} {c:Nat}
theorem stV{t:TypeId}{a x:Operand}{n ob:Nat}{row row2 l:List TV}(ha:tev tm a = .lptr n 0 ob)(hx:tev tm x=p)(hj:jH p=false)(hl:tcells p=l)(hb:hp[n]?=some (.var row))(ht:okT P t=true)(hlen:l.length=P.cellsOf t)(hone:l.all tone=true)(hfit:Nat.ble (ob+l.length) row.length=true)(hv:tsplice row ob l=row2) :
 OpW C P { dst:=none,op:=.store t a x,type:=ty,pos:=pos,after:=aft,guard:=gd } ⟨tm,hp⟩ ⟨tm,hp.set n (.var row2)⟩:=by
 subst hl hv
 refine OpW.store (s:=⟨tm,hp⟩) ?_
 rw[show tev (TS.mk tm hp).tm a=_ from ha,show tev (TS.mk tm hp).tm x=p from hx]
 simp only[tstore]
 rw[if_pos ⟨hj,ht,hlen,hone⟩,hb]
 simp only
 rw[if_pos ⟨trivial,Nat.le_of_ble_eq_true hfit⟩]
theorem stR{α:Type}{f:α→List TV}{xs:List α}{y:α}{u:α}{t:TypeId}{a x:Operand}{n r ob es:Nat}{l:List TV}(ha:tev tm a = .lptr n r ob)(hx:tev tm x=p)(hj:jH p=false)(hl:tcells p=l)(hb:hp[n]?=some (.rows es (xs.map f)))(hr:xs[r]?=some u)(ht:okT P t=true)(hlen:l.length=P.cellsOf t)(hone:l.all tone=true)
 (hlf:l.all (lf 4)=true) (hfit:Nat.ble (ob+l.length) (f u).length=true) (hv:tsplice (f u) ob l=f y) :
 OpW C P { dst:=none,op:=.store t a x,type:=ty,pos:=pos,after:=aft,guard:=gd } ⟨tm,hp⟩ ⟨tm,hp.set n (.rows es ((xs.set r y).map f))⟩:=by
 subst hl
 refine OpW.store (s:=⟨tm,hp⟩) ?_
 rw[show tev (TS.mk tm hp).tm a=_ from ha,show tev (TS.mk tm hp).tm x=p from hx]
 simp only[tstore]
 rw[if_pos ⟨hj,ht,hlen,hone⟩,hb]
 simp only[List.getElem?_map,hr,Option.map_some]
 rw[if_pos ⟨Nat.le_of_ble_eq_true hfit,hlf⟩,hv,List.map_set]
theorem TO.sv{t:TypeId}{a x:Operand}{n ob:Nat}{row row2 l:List TV}(hw:twant ops tm { dst:=none,op:=.store t a x,type:=ty,pos:=pos,after:=aft,guard:=gd }=some true)(ha:tev tm a = .lptr n 0 ob)(hx:tev tm x=p)(hj:jH p=false)(hl:tcells p=l)(hb:hp[n]?=some (.var row))(ht:okT P t=true)(hlen:l.length=P.cellsOf t)(hone:l.all tone=true)(hfit:Nat.ble (ob+l.length) row.length=true)(hv:tsplice row ob l=row2)
 (hh2:hp.set n (.var row2)=hp2) (hq:TO C P ops rest ⟨tm,hp2⟩ Q):TO C P ops ({ dst:=none,op:=.store t a x,type:=ty,pos:=pos,after:=aft,guard:=gd }::rest) ⟨tm,hp⟩ Q:=by
 subst hh2;exact TO.w hw (stV ha hx hj hl hb ht hlen hone hfit hv) hq
theorem TD.sv{t:TypeId}{a x:Operand}{n ob:Nat}{row row2 l:List TV}(hw:twant ops tm { dst:=none,op:=.store t a x,type:=ty,pos:=pos,after:=aft,guard:=gd }=some true)(ha:tev tm a = .lptr n 0 ob)(hx:tev tm x=p)(hj:jH p=false)(hl:tcells p=l)(hb:hp[n]?=some (.var row))(ht:okT P t=true)(hlen:l.length=P.cellsOf t)(hone:l.all tone=true)(hfit:Nat.ble (ob+l.length) row.length=true)(hv:tsplice row ob l=row2)
 (hnp:okW ops ms i ⟨tm,hp⟩ n np=true) (hh2:hp.set n (.var row2)=hp2) (hq:TD C P ops ms rest (i+1) (i::np) 1 ⟨tm,hp2⟩ Q):TD C P ops ms ({ dst:=none,op:=.store t a x,type:=ty,pos:=pos,after:=aft,guard:=gd }::rest) i np c ⟨tm,hp⟩ Q:=by
 subst hh2;exact TD.wF (s:=⟨tm,hp⟩) hw ha (stV ha hx hj hl hb ht hlen hone hfit hv) hnp hq
theorem TO.sr{α:Type}(f:α→List TV)(xs:List α)(u y:α){t:TypeId}{a x:Operand}{n r ob es:Nat}{l:List TV}(hr:xs[r]?=some u)(hw:twant ops tm { dst:=none,op:=.store t a x,type:=ty,pos:=pos,after:=aft,guard:=gd }=some true)(ha:tev tm a = .lptr n r ob)(hx:tev tm x=p)(hj:jH p=false)(hl:tcells p=l)(hb:hp[n]?=some (.rows es (xs.map f)))(ht:okT P t=true)(hlen:l.length=P.cellsOf t)(hone:l.all tone=true)
 (hlf:l.all (lf 4)=true) (hfit:Nat.ble (ob+l.length) (f u).length=true) (hv:tsplice (f u) ob l=f y) (hh2:hp.set n (.rows es ((xs.set r y).map f))=hp2) (hq:TO C P ops rest ⟨tm,hp2⟩ Q):TO C P ops ({ dst:=none,op:=.store t a x,type:=ty,pos:=pos,after:=aft,guard:=gd }::rest) ⟨tm,hp⟩ Q:=by
 subst hh2;exact TO.w hw (stR ha hx hj hl hb hr ht hlen hone hlf hfit hv) hq
theorem TD.sr{α:Type}(f:α→List TV)(xs:List α)(u y:α){t:TypeId}{a x:Operand}{n r ob es:Nat}{l:List TV}(hr:xs[r]?=some u)(hw:twant ops tm { dst:=none,op:=.store t a x,type:=ty,pos:=pos,after:=aft,guard:=gd }=some true)(ha:tev tm a = .lptr n r ob)(hx:tev tm x=p)(hj:jH p=false)(hl:tcells p=l)(hb:hp[n]?=some (.rows es (xs.map f)))(ht:okT P t=true)(hlen:l.length=P.cellsOf t)(hone:l.all tone=true)
 (hlf:l.all (lf 4)=true) (hfit:Nat.ble (ob+l.length) (f u).length=true) (hv:tsplice (f u) ob l=f y) (hnp:okW ops ms i ⟨tm,hp⟩ n np=true) (hh2:hp.set n (.rows es ((xs.set r y).map f))=hp2) (hq:TD C P ops ms rest (i+1) (i::np) 1 ⟨tm,hp2⟩ Q):TD C P ops ms ({ dst:=none,op:=.store t a x,type:=ty,pos:=pos,after:=aft,guard:=gd }::rest) i np c ⟨tm,hp⟩ Q:=by
 subst hh2;exact TD.wF (s:=⟨tm,hp⟩) hw ha (stR ha hx hj hl hb hr ht hlen hone hlf hfit hv) hnp hq
end
section
variable {C:Ctx} {P:Program} {ops:Array Oper} {rest:List Oper} {tm tm2:List TV} {hp hp2:List TB} {Q:TS→Prop} {o:Oper}
variable {dst:Option Tmp} {ty:TypeId} {pos:String} {aft:Array Edge} {gd:Option (Nat×Bool)} {p q:TV} {ms:List Nat} {i:Nat} {np:List Nat} {c:Nat}
end
theorem z1:(∀ tm t,tev tm (.tmp t)=tnth tm t)∧(∀ tm k n,tev tm (.const (.int k n)) = .v (.int k n))∧(∀ tm b,tev tm (.const (.bool b)) = .v (.bool b))∧(∀ tm s,tev tm (.const (.string s)) = .v (.string s))∧(∀ tm k b,tev tm (.const (.float k b)) = .v (.float k b)) ∧
 (∀ tm k a b,tev tm (.const (.complex k a b)) = .v (.complex k a b))∧(∀ tm,tev tm (.const (.slice none 0 0)) = .v (.slice none 0 0))∧(∀ tm,tev tm (.const .nilFunc) = .v .nilFunc)∧(∀ tm,tev tm (.const .nilIface) = .v .nilIface)∧(∀ tm,tev tm (.const (.pointer none)) = .v (.pointer none)) ∧
 (∀ tm f,tev tm (.func f) = .func f [] [])∧(∀ a l,tnth (a::l) 0=a)∧(∀ a l n,tnth (a::l) (n+1)=tnth l n)∧(∀ tm p,tput tm none p=tm)∧(∀ tm d p,tput tm (some d) p=tm.set d p):=
 ⟨fun _ _=>rfl,fun _ _ _=>rfl,fun _ _=>rfl,fun _ _=>rfl,fun _ _ _=>rfl,fun _ _ _ _=>rfl,fun _=>rfl,fun _=>rfl,fun _=>rfl,fun _=>rfl,fun _ _=>rfl,fun _ _=>rfl,fun _ _ _=>rfl,fun _ _=>rfl,fun _ _ _=>rfl⟩
theorem z2:(∀ k a b,cQ .add (.int k a) (.int k b)=some (.int k (k.wrap (a+b))))∧(∀ k a b,cQ .sub (.int k a) (.int k b)=some (.int k (k.wrap (a-b))))∧(∀ k a b,cQ .mul (.int k a) (.int k b)=some (.int k (k.wrap (a*b)))) ∧
 (∀ k a b,cQ .lss (.int k a) (.int k b)=some (.bool (decide (a<b))))∧(∀ k a b,cQ .leq (.int k a) (.int k b)=some (.bool (decide (a≤b))))∧(∀ k a b,cQ .gtr (.int k a) (.int k b)=some (.bool (decide (a>b))))∧(∀ k a b,cQ .geq (.int k a) (.int k b)=some (.bool (decide (a≥b)))) ∧
 (∀ k a b,cQ .eql (.int k a) (.int k b)=some (.bool (decide (a=b))))∧(∀ k a b,cQ .neq (.int k a) (.int k b)=some (.bool (decide (a≠b))))∧(∀ k a b,cQ .quo (.int k a) (.int k b)=if b=0 then none else some (.int k (k.wrap (a.tdiv b))))∧(∀ k a b,cQ .rem (.int k a) (.int k b)=if b=0 then none else some (.int k (a.tmod b))):=by
 refine⟨?_,?_,?_,?_,?_,?_,?_,?_,?_,?_,?_⟩<;>(intro k a b;simp only[cQ,if_true])
end Go.Rex
namespace Go.Rex
open Go.RowKit
section
variable {C:Ctx} {P:Program} {ops:Array Oper} {rest:List Oper} {tm tm2:List TV} {hp hp2:List TB} {Q:TS→Prop} {o:Oper}
variable {dst:Option Tmp} {ty:TypeId} {pos:String} {aft:Array Edge} {gd:Option (Nat×Bool)} {p q:TV} {ms:List Nat} {i:Nat} {np:List Nat} {c:Nat}
theorem TO.here{l:List Oper}{s:TS}(h:TO C P ops l s Q):TO C P ops l s Q:=h
theorem TD.here{l:List Oper}{s:TS}(h:TD C P ops ms l i np c s Q):TD C P ops ms l i np c s Q:=h
theorem mkG{α:Type}{f:α→List TV}{z0:α}{xs:List α}{t e:TypeId}{x y:Operand}{k k':IntKind}{n:Int}{z:List Value}{es by':Nat}(hm:mkI by' n z0=some xs)(hx:tev tm x = .v (.int k n))(hy:tev tm y = .v (.int k' n))(hs:bY P t=some e)(hz:fQ P e=some z)(hb:mW P e=by')(hne:z.length=es)(he:Nat.ble 1 es=true)(hf:z.map .v=f z0) :
 OpG C P { dst:=dst,op:=.makeSlice t x y,type:=ty,pos:=pos,after:=aft,guard:=gd } ⟨tm,hp⟩ ⟨tput tm dst (.lsl hp.length 0 xs.length),hp++[.rows es (xs.map f)]⟩:=by
 unfold mkI at hm
 split at hm
 ·rename_i hc
  obtain rfl:=Option.some.inj hm
  have:=OpG.makeSlice (C:=C) (P:=P) (s:=⟨tm,hp⟩) (dst:=dst) (ty:=ty) (pos:=pos) (aft:=aft) (gd:=gd) (t:=t) (l:=x) (c:=y) (n:=n.toNat) (z:=z) (by
   rw[show tev (TS.mk tm hp).tm x=_ from hx,show tev (TS.mk tm hp).tm y=_ from hy]
   simp only[tmake,hs,hz,hb]
   rw[if_pos ⟨trivial,hc.1,hc.2.1,hc.2.2,fun h=>by rw[h] at hne;simp at hne;subst hne;simp[Nat.ble] at he⟩])
  rw[hne,hf] at this
  simpa using this
 ·cases hm
theorem TO.mk{α:Type}(f:α→List TV){z0:α}{xs:List α}{t e:TypeId}{x y:Operand}{k k':IntKind}{n:Int}{z:List Value}{es by':Nat}(hm:mkI by' n z0=some xs)(hw:twant ops tm { dst:=dst,op:=.makeSlice t x y,type:=ty,pos:=pos,after:=aft,guard:=gd }=some true)(hx:tev tm x = .v (.int k n))(hy:tev tm y = .v (.int k' n))(hs:bY P t=some e)(hz:fQ P e=some z)(hb:mW P e=by')(hne:z.length=es)(he:Nat.ble 1 es=true)(hf:z.map .v=f z0)
 (ht:tput tm dst (.lsl hp.length 0 xs.length)=tm2) (hh2:hp++[.rows es (xs.map f)]=hp2) (hq:TO C P ops rest ⟨tm2,hp2⟩ Q):TO C P ops ({ dst:=dst,op:=.makeSlice t x y,type:=ty,pos:=pos,after:=aft,guard:=gd }::rest) ⟨tm,hp⟩ Q:=by
 subst ht hh2;exact TO.g hw (mkG hm hx hy hs hz hb hne he hf) hq
theorem boG{α:Type}{f:α→List TV}{xs:List α}{t:TypeId}{n es:Nat}{ps:Array (Nat×Operand)}{l:List (Nat×TV)}{rows:List (List TV)}(hx:ps.toList.map (fun q=>(q.1,tev tm q.2))=l)(hv:tslice P t n l=some (es,rows))(hr:rows=xs.map f)(hn:n=xs.length) :
 OpG C P { dst:=dst,op:=.buildSlice t n ps,type:=ty,pos:=pos,after:=aft,guard:=gd } ⟨tm,hp⟩ ⟨tput tm dst (.lsl hp.length 0 xs.length),hp++[.rows es (xs.map f)]⟩:=by
 subst hr hn
 exact OpG.buildOwn (s:=⟨tm,hp⟩) (by simp only[hx];exact hv)
theorem TO.bl{α:Type}(f:α→List TV)(xs:List α){t:TypeId}{n es:Nat}{ps:Array (Nat×Operand)}{l:List (Nat×TV)}{rows:List (List TV)}(hw:twant ops tm { dst:=dst,op:=.buildSlice t n ps,type:=ty,pos:=pos,after:=aft,guard:=gd }=some true)(hx:ps.toList.map (fun q=>(q.1,tev tm q.2))=l)(hv:tslice P t n l=some (es,rows))(hr:rows=xs.map f)(hn:n=xs.length)
 (ht:tput tm dst (.lsl hp.length 0 xs.length)=tm2) (hh2:hp++[.rows es (xs.map f)]=hp2) (hq:TO C P ops rest ⟨tm2,hp2⟩ Q):TO C P ops ({ dst:=dst,op:=.buildSlice t n ps,type:=ty,pos:=pos,after:=aft,guard:=gd }::rest) ⟨tm,hp⟩ Q:=by
 subst ht hh2;exact TO.g hw (boG hx hv hr hn) hq
end
end Go.Rex
