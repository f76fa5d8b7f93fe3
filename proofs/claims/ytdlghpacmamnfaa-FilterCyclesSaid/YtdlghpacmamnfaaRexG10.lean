/- An executor of the program's functions on trees of values,proved sound. -/
import Derived.Test.YtdlghpacmamnfaaRexG9
import Derived.Test.YtdlghpacmamnfaaRexG7
set_option linter.unusedSimpArgs false
set_option linter.unusedVariables false
set_option linter.unusedSectionVars false
set_option linter.defProp false
namespace Go.Rex
open Go.RowKit
section
variable {C:Ctx} {P:Program} {h0 h h':List Blk} {Fz Fz':Nat→Prop} {L L':Nat→LI} {s s':TS} {tm:List Value} {dst:Option Tmp} {ty:TypeId} {pos:String} {aft:Array Edge} {gd:Option (Nat×Bool)}
def tM:List Nat→Nat→Option Nat
 | [],_=>none
 | k::ks,n=>if k=n then some 0 else (tM ks n).map (· + 1)
theorem oD:∀(ks:List Nat) {n j:Nat},tM ks n=some j→ks[j]?=some n
 | [],n,j,h=>by cases h
 | k::ks,n,j,h=>by
  simp only[tM] at h
  split at h
  ·rename_i e;obtain rfl:=a6 h;simp[e]
  ·obtain⟨a,ha,rfl⟩:=b9.1 h
   simpa using oD ks ha
def hand1(ks:List Nat):TV→TV
 | .lsl n o len=>match tM ks n with
  | some j=>.lsl j o len
  | none=>.Z
 | .lptr n r o=>match tM ks n with
  | some j=>.lptr j r o
  | none=>.Z
 | p=>if lf 4 p=true then p else .Z
def eP(L:Nat→LI)(ks:List Nat):Nat→LI:=fun j=>match ks[j]? with
 | some k=>L k
 | none=>⟨false,none,0,0⟩
theorem VL.hand1{ks:List Nat}{F:Nat→Prop}(hF:∀ n,Fz n→F n){p:TV}{x:Value}(hp:VL Fz h L p x):VL F h (eP L ks) (hand1 ks p) x:=by
 have key:VL F h (eP L ks) (if lf 4 p=true then p else .Z) x:=by
  split
  ·rename_i hl;exact (VL.toNo 4 hl hp).mono hF (fun _ _=>rfl)
  ·exact .Z _ x
 unfold Rex.hand1
 split
 ·rename_i n o len
  split
  ·rename_i j hj
   have e:eP L ks j=L n:=by unfold eP;rw[oD ks hj]
   cases hp with
   | lslnil _ _ ok hn=>exact .lslnil _ j (by rw[e];exact ok) (by rw[e];exact hn)
   | lsl _ _ _ _ nm ok hn hle =>
    have:=VL.lsl (Fz:=F) (h:=h) (eP L ks) j o len nm (by rw[e];exact ok) (by rw[e];exact hn) (by rw[e];exact hle)
    rw[e] at this
    exact this
  ·exact .Z _ x
 ·rename_i n r o
  split
  ·rename_i j hj
   have e:eP L ks j=L n:=by unfold eP;rw[oD ks hj]
   cases hp with
   | lptr _ _ _ _ nm ok hn =>
    have:=VL.lptr (Fz:=F) (h:=h) (eP L ks) j r o nm (by rw[e];exact ok) (by rw[e];exact hn)
    rw[e] at this
    exact this
  ·exact .Z _ x
 ·exact key
def gW(hp:List TB):List Nat→List TB→List TB
 | k::ks,b::bs=>gW (hp.set k b) ks bs
 | _,_=>hp
theorem oK:∀(ks:List Nat) (bs:List TB) (hp:List TB),(gW hp ks bs).length=hp.length
 | [],bs,hp=>by cases bs<;>rfl
 | k::ks,[],hp=>rfl
 | k::ks,b::bs,hp=>by simp only[gW];rw[oK ks bs];simp
theorem lY:∀(ks:List Nat) (bs:List TB) (hp:List TB),ks.Nodup→bs.length=ks.length→∀(n:Nat) (b:TB),(gW hp ks bs)[n]?=some b→(∃ j:Nat,ks[j]?=some n∧bs[j]?=some b)∨(n ∉ ks∧hp[n]?=some b)
 | [],bs,hp,_,_,n,b,hb=>.inr ⟨by simp,by cases bs<;>exact hb⟩
 | k::ks,[],hp,_,hl,n,b,hb=>by simp at hl
 | k::ks,c::bs,hp,hnd,hl,n,b,hb=>by
  simp only[gW] at hb
  have hnd':=List.nodup_cons.1 hnd
  rcases lY ks bs _ hnd'.2 (by simpa using hl) n b hb with⟨j,h1,h2⟩|⟨h1,h2⟩
  ·exact .inl ⟨j+1,by simpa using h1,by simpa using h2⟩
  ·by_cases e:k=n
   ·subst e
    rw[g9] at h2
    split at h2
    ·split at h2
     ·exact .inl ⟨0,rfl,h2⟩
     ·cases h2
    ·rename_i hh;exact absurd rfl hh
   ·rw[d6 e] at h2
    exact .inr ⟨by simp;exact⟨fun e2=>e e2.symm,h1⟩,h2⟩
theorem OpW.own{f:Operand}{g:FuncId}{args:Array Operand}{tys:Array TypeId}{first caps as:List TV}{ks:List Nat}{B B':List TB}{p:TV}(hf:tev s.tm f = .func g first caps)(hg:dP P g=true)
 (has:(first++(args.toList.map (tev s.tm)++caps)).map (hand1 ks)=as) (hB:ks.map (fun k=>s.hp[k]?)=B.map some) (hnd:ks.Nodup) (hrw:B.all dA=true) (hsp:SpecO C g as B p B') (hlen:B'.length=B.length) (hrw':B'.all dA=true) (hcl:B'.all qY=true) :
 OpW C P { dst:=dst,op:=.call { callee:=.value f,args:=args,argTypes:=tys },type:=ty,pos:=pos,after:=aft,guard:=gd } s ⟨tput s.tm dst p,gW s.hp ks B'⟩:=by
 intro h0 Fz L tm h hs
 subst has
 have hfv:=bQ hs.fz hs.tmr f
 rw[hf] at hfv
 obtain⟨f',c',hfe,vf,vc⟩:∃ f' c',ev tm f = .func (.func g) ⟨f'⟩ ⟨c'⟩∧VLs Fz h noL first f'∧VLs Fz h noL caps c':=by
  generalize ev tm f=y at *
  cases hfv with
  | func _ _ _ _ a' b' la ha lb hb=>exact⟨a',b',rfl,⟨la,ha⟩,⟨lb,hb⟩⟩
 have hno:∀ n,(noL n).ok=true→L n=noL n:=fun n h=>by simp[noL] at h
 have hlk:B.length=ks.length:=by have:=congrArg List.length hB;simpa using this.symm
 have hBat:∀(j k:Nat) (b:TB),ks[j]?=some k→B[j]?=some b→s.hp[k]?=some b:=by
  intro j k b h1 h2
  have:=congrArg (fun l=>l[j]?) hB
  simp only[List.getElem?_map,h1,h2,Option.map_some] at this
  exact a6 this
 let F:Nat→Prop:=fun m=>Fz m∨∃ n b,n ∉ ks∧s.hp[n]?=some b∧b.live=true∧(L n).nm=some m
 have hFz:∀ n,Fz n→F n:=fun n hn=>.inl hn
 have hargs:VLs F h (eP L ks) ((first++(args.toList.map (tev s.tm)++caps)).map (hand1 ks)) (f'++(args.toList.map (ev tm)++c')):=by
  have hall:∀(l:List TV) (x:List Value) (M:Nat→LI),(∀ n,(M n).ok=true→L n=M n)→VLs Fz h M l x→VLs F h (eP L ks) (l.map (hand1 ks)) x:=by
   intro l x M hM hv
   refine⟨by rw[j0];exact hv.len,fun i q y h1 h2=>?_⟩
   rw[d2] at h1
   cases hq:l[i]? with
   | none=>rw[hq] at h1;cases h1
   | some q0=>rw[hq] at h1;obtain rfl:=a6 h1;exact VL.hand1 hFz ((hv.at' i q0 y hq h2).own hM)
  rw[List.map_append,List.map_append]
  exact VLs.append (hall _ _ noL hno vf) (VLs.append (hall _ _ L (fun _ _=>rfl) (sJ hs.fz hs.tmr args.toList)) (hall _ _ noL hno vc))
 have hlive:∀(j:Nat) (b:TB),B[j]?=some b→b.live=true:=fun j b hb=>by
  exact mM (a8.1 hrw b (b6 hb))
 have hlive':∀(j:Nat) (b:TB),B'[j]?=some b→b.live=true:=fun j b hb=>by
  exact mM (a8.1 hrw' b (b6 hb))
 have hkj:∀ j:Nat,j<B.length→∃ k b,ks[j]?=some k∧B[j]?=some b∧s.hp[k]?=some b∧eP L ks j=L k:=by
  intro j hj
  have hk:j<ks.length:=by omega
  refine⟨ks[j],B[j],b5 hk,b5 hj,hBat j _ _ (b5 hk) (b5 hj),?_⟩
  unfold eP
  rw[b5 hk]
 have hnoF:∀(k:Nat) (b:TB) (nm:Nat),k∈ks→s.hp[k]?=some b→b.live=true→(L k).nm=some nm→¬ F nm:=by
  rintro k b nm hk hb hlv hn (h1|⟨n,b',h1,h2,h3,h4⟩)
  ·exact (hs.lowB k b nm hb hlv hn).2.2 h1
  ·exact h1 (hs.inj k n b b' nm hb h2 hlv h3 hn h4 ▸ hk)
 have hst:St h0 F (eP L ks) ⟨(first++(args.toList.map (tev s.tm)++caps)).map (hand1 ks),B⟩ (f'++(args.toList.map (ev tm)++c')) h:=by
  refine⟨hargs,fun j b hb=>?_,fun j hj=>?_,fun j j' b b' nm hb hb' hl hl' hn hn'=>?_,?_,hs.ext⟩
  ·obtain⟨k,b2,h1,h2,h3,h4⟩:=hkj j (a7.1 hb).1
   rw[hb] at h2;obtain rfl:=a6 h2
   have hB0:=hs.blk k _ h3
   have hB1:BR h0.length F h L k b:=hB0.mono hFz (fun _ _=>rfl) (fun nm _ hnf hbb hnn=>⟨hbb,hnoF k _ nm (b6 h1) h3 (hlive j b hb) hnn⟩)
   exact hB1.seat (fun _=>a8.1 hrw b (b6 hb)) h4
  ·by_cases hj2:j<B.length
   ·exact hj2
   ·have:eP L ks j=⟨false,none,0,0⟩:=by unfold eP;rw[List.getElem?_eq_none (by omega)]
    rw[this] at hj;cases hj
  ·obtain⟨k,b2,h1,h2,h3,h4⟩:=hkj j (a7.1 hb).1
   obtain⟨k',b2',h1',h2',h3',h4'⟩:=hkj j' (a7.1 hb').1
   rw[h4] at hn;rw[h4'] at hn'
   have ek:=hs.inj k k' b2 b2' nm h3 h3' (hlive j _ h2) (hlive j' _ h2') hn hn'
   subst ek
   exact (List.getElem?_inj (a7.1 h1).1 hnd).1 (h1.trans h1'.symm)
  ·refine hs.fz.to hFz (fun _ _=>rfl) ?_
   rintro n (hn|⟨m,b,h1,h2,h3,h4⟩)
   ·exact hs.fz n hn
   ·exact (hs.lowB m b n h2 h3 h4).1
 obtain⟨v,h',wr,hc,hw,hsame,hext,hv,hblk⟩:=hsp h0 F (eP L ks) h _ hst
 have hle:h.length≤h'.length:=by
  rcases hw with⟨-,hx⟩|⟨nm,-,-,-,h4⟩
  ·exact hx.le
  ·exact h4
 have hsz:∀ n,Fz n→h'[n]?=h[n]?:=fun n hn=>hsame n (.inl hn)
 refine .inr ⟨rfl,v,h',wr,by rw[sS hfe hg];exact hc,hw,Fz,L,⟨fun _ h=>h,fun _ h=>.inl h,hsz⟩,?_⟩
 have hkb:∀(j k:Nat) (b:TB),ks[j]?=some k→B'[j]?=some b→∃ b0,s.hp[k]?=some b0∧b0.live=true:=by
  intro j k b h1 h2
  have hj:j<B.length:=by rw[← hlen];exact (a7.1 h2).1
  obtain⟨k',b0,e1,e2,e3,-⟩:=hkj j hj
  rw[h1] at e1;obtain rfl:=a6 e1
  exact⟨b0,e3,hlive j _ e2⟩
 have hthere:∀(n:Nat) (b:TB),(gW s.hp ks B')[n]?=some b→b.live=true→∃ b0,s.hp[n]?=some b0∧b0.live=true:=by
  intro n b hb hl
  rcases lY ks B' s.hp hnd (by omega) n b hb with⟨j,h1,h2⟩|⟨h1,h2⟩
  ·exact hkb j n b h1 h2
  ·exact⟨b,h2,hl⟩
 have htm:VLs Fz h' L (tput s.tm dst p) (aN tm dst v):=by
  have hs2:St h0 Fz L s tm h:=hs
  have hm:=hs.tmr.mono (fun _ h=>h) hsz
  cases dst with
  | none=>exact hm
  | some d=>exact hm.set d (hv _ _ _)
 refine⟨htm,fun n b hb=>?_,fun n hn=>?_,fun n n' b b' nm hb hb' hl hl' hn hn'=>?_,hs.fz.to (fun _ h=>h) hsz fun n hn=>d7 (hs.fz n hn) hle,hext⟩
 ·rcases lY ks B' s.hp hnd (by omega) n b hb with⟨j,h1,h2⟩|⟨h1,h2⟩
  ·have hj:j<B.length:=by rw[← hlen];exact (a7.1 h2).1
   obtain⟨k,b0,e1,e2,e3,e4⟩:=hkj j hj
   rw[h1] at e1;obtain rfl:=a6 e1
   have hq:=hblk j b h2
   have hq2:BR h0.length Fz h' (eP L ks) j b:=BR.move hq (a8.1 hcl b (b6 h2)) (fun _=>a8.1 hrw' b (b6 h2)) (.inl rfl) (fun nm _ a3=>⟨fun hF=>a3 (.inl hF),rfl⟩)
   exact hq2.seat (fun _=>a8.1 hrw' b (b6 h2)) e4.symm
  ·by_cases hl:b.live=true
   ·exact (hs.blk n b h2).mono (fun _ h=>h) hsz (fun nm b1 hnf hbb hnn=>⟨by rw[hsame nm (.inr ⟨n,b,h1,h2,hl,hnn⟩)];exact hbb,hnf⟩)
   ·cases b with
    | dead=>trivial
    | rows=>exact absurd rfl hl
    | var=>exact absurd rfl hl
    | tbl=>exact absurd rfl hl
 ·rw[oK];exact hs.dom n hn
 ·obtain⟨b0,e1,e2⟩:=hthere n b hb hl
  obtain⟨b1,e3,e4⟩:=hthere n' b' hb' hl'
  exact hs.inj n n' b0 b1 nm e1 e3 e2 e4 hn hn'
variable {ops:Array Oper} {o:Oper} {rest:List Oper} {Q:TS→Prop} {ms:List Nat} {i:Nat} {np:List Nat} {c:Nat} {tv tv2:List TV} {hp hp2:List TB}
theorem TO.own{fo:Operand}{g:FuncId}{args:Array Operand}{tys:Array TypeId}{first caps as:List TV}{ks:List Nat}{B B':List TB}{p:TV}(hw:twant ops tv { dst:=dst,op:=.call { callee:=.value fo,args:=args,argTypes:=tys },type:=ty,pos:=pos,after:=aft,guard:=gd }=some true)(hf:tev tv fo = .func g first caps)(hg:dP P g=true)(hsp:SpecO C g as B p B')(has:(first++(args.toList.map (tev tv)++caps)).map (hand1 ks)=as)(hB:ks.map (fun k=>hp[k]?)=B.map some)(hnd:ks.Nodup)(hrw:B.all dA=true)(hlen:B'.length=B.length)(hrw':B'.all dA=true)(hcl:B'.all qY=true)(ht:tput tv dst p=tv2)(hh2:gW hp ks B'=hp2)(hq:TO C P ops rest ⟨tv2,hp2⟩ Q):TO C P ops ({ dst:=dst,op:=.call { callee:=.value fo,args:=args,argTypes:=tys },type:=ty,pos:=pos,after:=aft,guard:=gd }::rest) ⟨tv,hp⟩ Q:=by
 subst ht hh2
 exact TO.w hw (OpW.own (s:=⟨tv,hp⟩) hf hg has hB hnd hrw hsp hlen hrw' hcl) hq
end
end Go.Rex
namespace Go.Rex
open Go.RowKit
section
variable {C:Ctx} {P:Program} {s s':TS} {dst:Option Tmp} {ty:TypeId} {pos:String} {aft:Array Edge} {gd:Option (Nat×Bool)}
def named(args:List TV)(B:List TB)(tm:List TV):List Nat→Nat→Prop
 | [],_=>True
 | i::is,n=>((∃ len len',args[i]?=some (.lsl n 0 len)∧tm[i]?=some (.lsl n 0 len'))∨sA B n=true∧args[i]?=some (.lptr n 0 0)∧tm[i]?=some (.lptr n 0 0))∧named args B tm is (n+1)
def vY:List TB→List TB→Bool
 | [],[]=>true
 | b::bs,b'::bs'=>zQ b b'&&vY bs bs'
 | _,_=>false
theorem tG:∀(B B':List TB),vY B B'=true→B'.length=B.length∧∀(n:Nat) (b b':TB),B[n]?=some b→B'[n]?=some b'→zQ b b'=true
 | [],[],_=>⟨rfl,fun n b b' h=>by simp at h⟩
 | [],_::_,h=>by cases h
 | _::_,[],h=>by cases h
 | b::bs,b'::bs',h=>by
  simp only[vY,Bool.and_eq_true] at h
  obtain⟨i1,i2⟩:=tG bs bs' h.2
  refine⟨by simp[i1],fun n x x' h1 h2=>?_⟩
  cases n with
  | zero=>simp at h1 h2;subst h1 h2;exact h.1
  | succ n=>exact i2 n x x' (by simpa using h1) (by simpa using h2)
theorem mJ{args tm:List TV}{B:List TB}{c:Code}:∀(is:List Nat) (n:Nat),named args B tm is n→is.all (fun i=>!(cdsts c).contains i)=true→∀ j,j<is.length→stays args B c tm (n+j)=true
 | [],n,_,_,j,hj=>by simp at hj
 | i::is,n,hn,hc,j,hj=>by
  obtain⟨h0,h3⟩:=hn
  simp only[List.all_cons,Bool.and_eq_true] at hc
  cases j with
  | zero =>
   unfold stays
   rcases h0 with⟨len,len',h1,h2⟩|⟨hv,h1,h2⟩
   ·refine List.any_eq_true.2 ⟨i,by simpa using (a7.1 h1).1,?_⟩
    simp only[h1,h2,Nat.add_zero,BEq.rfl,Bool.true_and]
    exact hc.1
   ·refine List.any_eq_true.2 ⟨i,by simpa using (a7.1 h1).1,?_⟩
    simp only[h1,h2,Nat.add_zero,BEq.rfl,Bool.true_and,hv]
    exact hc.1
  | succ j =>
   have:=mJ is (n+1) h3 hc.2 j (by simpa using hj)
   rw[show n+(j+1)=n+1+j by omega]
   exact this
theorem SpecO.of{f:FuncId}{fd:Func}{c:Code}{args:List TV}{B B':List TB}{p:TV}{is:List Nat}(hf:P.funcs[f]?=some fd)(hb:fd.body=some c)(hnr:cS c=true)(hcd:is.all (fun i=>!(cdsts c).contains i)=true)(hil:is.length=B.length)
 {tm0:List TV} (htm:args++List.replicate (fd.ntmps-args.length) TV.Z=tm0) (hes:vY B B'=true) (hp:lf 4 p=true) (hpc:cl 4 p=true) (hir:B'.all dA=true) (hcl:B'.all qY=true)
 (hx:TX (lim P) P c ⟨tm0,B⟩ (fun e s=>(e = .normal∨e = .ret)∧∃ ps,eL P s.hp s.tm fd.results.toList=some ps∧yW ps=p∧s.hp.take B.length=B'∧named args B s.tm is 0)):SpecO (lim P) f args B p B':=by
 obtain⟨hlen,hes'⟩:=tG _ _ hes
 refine SpecO.fn hf hb hnr htm (hx.mono ?_) hp hpc hir hcl hlen hes'
 rintro e s ⟨he,ps,h1,h2,h3,h4⟩
 refine⟨he,ps,h1,h2,h3,a8.2 fun n hn=>?_⟩
 have:=mJ (c:=c) is 0 h4 hcd n (by rw[hil];simpa using hn)
 rwa [g6] at this
noncomputable def Al{α:Type}(a b:List α):List α:=if b.length=a.length then b else a
theorem yP{α:Type}{a b:List α}(h:b.length=a.length):Al a b=b:=b8 h
inductive Pair:List TB→List TB→List TB→Prop
 | nil:Pair [] [] []
 | cons {es:Nat} {α:Type} {f:α→List TV} {a b:List α} {B B' B2:List TB} (h:Pair B B' B2):Pair (.rows es (a.map f)::B) (.rows es (b.map f)::B') (.rows es ((Al a b).map f)::B2)
 | var {row row':List TV} {B B' B2:List TB} (h:Pair B B' B2) (hr:row.all (lf 4)=true) (hr':row'.all (lf 4)=true):Pair (.var row::B) (.var row'::B') (.var row'::B2)
theorem Pair.rows{B B' B2:List TB}(h:Pair B B' B2):B.all dA=true∧B'.all dA=true∧B'.length=B.length:=by
 induction h with
 | nil=>exact⟨rfl,rfl,rfl⟩
 | cons h ih=>exact⟨by simp[dA,ih.1],by simp[dA,ih.2.1],by simp[ih.2.2]⟩
 | var h hr hr' ih=>exact⟨by simp only[List.all_cons,dA,hr,ih.1,Bool.and_self],by simp only[List.all_cons,dA,hr',ih.2.1,Bool.and_self],by simp[ih.2.2]⟩
theorem Pair.eq{B B' B2:List TB}(h:Pair B B' B2):(∀(n es es':Nat) (r r':List (List TV)),B[n]?=some (.rows es r)→B'[n]?=some (.rows es' r')→r'.length=r.length)→B2=B':=by
 induction h with
 | nil=>intro _;rfl
 | cons h ih =>
  rename_i es α f a b B B' B2
  intro hl
  have h1:=hl 0 es es _ _ rfl rfl
  rw[j0,j0] at h1
  rw[yP h1,ih fun n es es' r r' h1 h2=>hl (n+1) es es' r r' h1 h2]
 | var h hr hr' ih =>
  intro hl
  rw[ih fun n es es' r r' h1 h2=>hl (n+1) es es' r r' h1 h2]
theorem SpecO.pair{f:FuncId}{args:List TV}{B B' B2:List TB}{p:TV}(hs:SpecO C f args B p B')(hp:Pair B B' B2):SpecO C f args B p B2:=by
 intro h0 Fz L h vs hst
 obtain⟨v,h',wr,hc,hw,h1,h2,h3,h4⟩:=hs h0 Fz L h vs hst
 have e:B2=B':=hp.eq fun n es es' r r' hb hb'=>by
  obtain⟨-,-,q,-⟩:=hst.blk n _ hb
  obtain⟨-,-,q',-⟩:=h4 n _ hb'
  exact q'.symm.trans q
 subst e
 exact⟨v,h',wr,hc,hw,h1,h2,h3,h4⟩
theorem Pair.rows2{B B' B2:List TB}(h:Pair B B' B2):B2.all dA=true∧B2.length=B.length:=by
 induction h with
 | nil=>exact⟨rfl,rfl⟩
 | cons h ih=>exact⟨by simp[dA,ih.1],by simp[ih.2]⟩
 | var h hr hr' ih=>exact⟨by simp only[List.all_cons,dA,hr',ih.1,Bool.and_self],by simp[ih.2]⟩
variable {ops:Array Oper} {o:Oper} {rest:List Oper} {Q:TS→Prop} {ms:List Nat} {i:Nat} {np:List Nat} {c:Nat} {tv tv2:List TV} {hp hp2:List TB}
theorem TO.ownl{fo:Operand}{g:FuncId}{args:Array Operand}{tys:Array TypeId}{first caps as:List TV}(ks:List Nat){B B' B2:List TB}{p:TV}(hw:twant ops tv { dst:=dst,op:=.call { callee:=.value fo,args:=args,argTypes:=tys },type:=ty,pos:=pos,after:=aft,guard:=gd }=some true)(hf:tev tv fo = .func g first caps)(hg:dP P g=true)(hsp:SpecO C g as B p B')(hpr:Pair B B' B2)(has:(first++(args.toList.map (tev tv)++caps)).map (hand1 ks)=as)(hB:ks.map (fun k=>hp[k]?)=B.map some)(hnd:ks.Nodup)(hcl:B2.all qY=true)(ht:tput tv dst p=tv2)(hh2:gW hp ks B2=hp2)(hq:TO C P ops rest ⟨tv2,hp2⟩ Q):TO C P ops ({ dst:=dst,op:=.call { callee:=.value fo,args:=args,argTypes:=tys },type:=ty,pos:=pos,after:=aft,guard:=gd }::rest) ⟨tv,hp⟩ Q:=
 TO.own hw hf hg (hsp.pair hpr) has hB hnd hpr.rows.1 hpr.rows2.2 hpr.rows2.1 hcl ht hh2 hq
end
end Go.Rex
namespace Go.Rex
section
variable {P:Program} {tm:List TV} {hp:List TB} {dst:Option Tmp} {ty:TypeId} {pos:String} {aft:Array Edge} {gd:Option (Nat×Bool)} {x y z:Operand} {tys:List TypeId}
end
end Go.Rex
open Go.RowKit
namespace Go.Rex
open Go
def mget{α β:Type}[DecidableEq α](m:List (α×β))(k:α):Option β:=(m.find? fun e=>decide (k=e.1)).map (·.2)
def mset{α β:Type}[DecidableEq α](m:List (α×β))(k:α)(v:β):List (α×β):=
 match m.findIdx? fun e=>decide (k=e.1) with
 | some i=>m.modify i fun e=>(e.1,v)
 | none=>m++[(k,v)]
structure KeyOk(P:Program)(kt:TypeId){α:Type}[DecidableEq α](f:α→Value):Prop where
 fixed:∀ a,aR (f a)=true
 chk:∀ e a,(prun P (Instr.checkKey e 10000 kt (f a))).isSome=true
 find:∀(k:α) (ks:List α) (es:List MapEntry),es.map (·.key)=ks.map f→prun P (Instr.findKey kt (f k) es)=some ((ks.findIdx? fun b=>decide (k=b)).bind fun i=>es[i]?.map fun e=>(i,e.val))
 stay:∀ a,prun P (Instr.keyThatStays (f a) (f a))=some (f a)
theorem oH{P:Program}{α:Type}[DecidableEq α]{f:α→Value}{kt:TypeId}(h:∀ a b,prun P (Op.equal kt (f a) (f b))=some (decide (a=b)))(k:α):∀(ks:List α) (es:List MapEntry) (i:Nat),es.map (·.key)=ks.map f→prun P (Instr.findAsking kt (f k) es i)=some ((ks.findIdx? fun b=>decide (k=b)).bind fun j=>es[j]?.map fun e=>(i+j,e.val))
 | [],[],i,_=>rfl
 | [],e::es,i,he=>by cases he
 | b::ks,[],i,he=>by cases he
 | b::ks,e::es,i,he=>by
  simp only[List.map_cons,List.cons.injEq] at he
  obtain⟨h1,h2⟩:=he
  unfold Instr.findAsking
  rw[aG,h1,h k b,d9]
  by_cases q:k=b
  ·simp[q,List.findIdx?_cons];rfl
  ·have ih:=oH h k ks es (i+1) h2
   simp only[decide_eq_false q,Bool.false_eq_true,if_false]
   rw[ih,List.findIdx?_cons,decide_eq_false q]
   simp only[Bool.false_eq_true,if_false]
   cases ks.findIdx? fun b=>decide (k=b) with
   | none=>rfl
   | some j=>simp[Nat.add_assoc,Nat.add_comm 1 j]
theorem Ac{P:Program}{kt:TypeId}{kd:TypeDesc}{α:Type}[DecidableEq α]{f:α→Value}(hu:P.underlying kt=some kd)(hf:∀ a,aR (f a)=true)(hc:∀ e a,(prun P (Instr.checkKey e 10000 kt (f a))).isSome=true)(hs:∀ a,Instr.sameBits 10000 (f a) (f a)=true)(hn:∀ a b,Instr.sameNow kd (f a) (f b)=none)(h:∀ a b,prun P (Op.equal kt (f a) (f b))=some (decide (a=b))):KeyOk P kt f:=
 ⟨hf,hc,fun k ks es he=>by
  unfold Instr.findKey
  rw[aG,dS hu,d9]
  cases es with
  | nil=>cases ks with
   | nil=>rfl
   | cons b ks=>cases he
  | cons e es=>cases ks with
   | nil=>cases he
   | cons b ks =>
    have h1:e.key=f b:=by simpa using (List.cons.inj he).1
    have e1:Instr.findNow kd (f k) (e::es) 0=none:=by unfold Instr.findNow;rw[h1,hn]
    rw[e1]
    have:=oH h k (b::ks) (e::es) 0 he
    simp only[Nat.zero_add] at this
    exact this,fun a=>by unfold Instr.keyThatStays;rw[b8 (hs a)];rfl⟩
theorem xQ{α β:Type}[DecidableEq α](m:List (α×β))(k:α):mget m k=((m.map (·.1)).findIdx? fun b=>decide (k=b)).bind fun i=>m[i]?.map (·.2):=by
 unfold mget
 induction m with
 | nil=>rfl
 | cons e m ih =>
  rw[List.find?_cons,List.map_cons,List.findIdx?_cons]
  by_cases q:k=e.1
  ·simp[q]
  ·simp only[decide_eq_false q]
   rw[ih]
   simp only[Bool.false_eq_true,if_false]
   cases (m.map (·.1)).findIdx? fun b=>decide (k=b)<;>simp
section
variable {C:Ctx} {P:Program} {Fz:Nat→Prop} {h0 h:List Blk} {L:Nat→LI} {s:TS} {tm:List Value}
variable {dst:Option Tmp} {ty:TypeId} {pos:String} {aft:Array Edge} {gd:Option (Nat×Bool)}
def ents{α β:Type}(ek:α→TV)(ev:β→TV)(m:List (α×β)):List (TV×TV):=m.map fun e=>(ek e.1,ev e.2)
theorem vJ{α β:Type}{ek:α→TV}{ev:β→TV}{f:α→Value}{g:β→Value}(hk:∀ a,er 3 (ek a)=some (f a))(hv:∀ b,er 3 (ev b)=some (g b)){m:List (α×β)}{es:Array MapEntry}(hE:ER Fz h (ents ek ev m) es) :
 es.toList.map (·.key)=(m.map (·.1)).map f∧es.toList.map (·.val)=(m.map (·.2)).map g:=by
 have hl:=hE.len
 unfold ents at hl
 rw[j0] at hl
 have at1:∀ i (hi:i<m.length) (hi2:i<es.toList.length),(es.toList[i]).key=f m[i].1∧(es.toList[i]).val=g m[i].2:=fun i hi hi2=>by
  have h1:(ents ek ev m)[i]?=some (ek m[i].1,ev m[i].2):=by unfold ents;rw[d2,b5 hi];rfl
  have h2:es[i]?=some es.toList[i]:=by rw[c9 (by simpa using hi2)];rfl
  obtain⟨a,b⟩:=hE.at' i _ _ h1 h2
  exact⟨VL.er 3 (hk _) a,VL.er 3 (hv _) b⟩
 constructor
 ·apply List.ext_getElem
  ·simp[hl]
  ·intro i h1 h2
   simp only[List.length_map] at h1 h2
   simp only[List.getElem_map]
   exact (at1 i h2 h1).1
 ·apply List.ext_getElem
  ·simp[hl]
  ·intro i h1 h2
   simp only[List.length_map] at h1 h2
   simp only[List.getElem_map]
   exact (at1 i h2 h1).2
end
section
variable {C:Ctx} {P:Program} {Fz:Nat→Prop} {h0 h:List Blk} {L:Nat→LI} {s:TS} {tm:List Value}
variable {dst:Option Tmp} {ty:TypeId} {pos:String} {aft:Array Edge} {gd:Option (Nat×Bool)}
theorem St.newM(hs:St h0 Fz L s tm h){b:TB}{es tot:Nat}{blk:Blk}(hb:BR h0.length Fz (h++[blk]) (fB L s.hp.length h.length es tot) s.hp.length b) :
 St h0 Fz (fB L s.hp.length h.length es tot) ⟨s.tm,s.hp++[b]⟩ tm (h++[blk]):=by
 have hold:=nT hs (nm:=h.length) (es:=es) (tot:=tot)
 have hs1:=hs.heap (Ext.app h [blk]) (Fz':=Fz) (fun _ h=>h) (fun n hn=>.inl hn)
 have hlow:∀ n b nm,s.hp[n]?=some b→b.live=true→(L n).nm=some nm→nm<h.length:=by
  intro n b nm hb hlv hn
  have:=hs.blk n b hb
  cases b with
  | dead=>cases hlv
  | rows es rows =>
   obtain⟨-,-,-,-,h5⟩:=this
   rcases h5 with h5|⟨nm',cs,e1,e2,e3,e4,e5⟩
   ·rw[h5.1] at hn;cases hn
   ·rw[e1] at hn;obtain rfl:=a6 hn
    exact (a7.1 e4).1
  | var row =>
   obtain⟨-,nm',cs,e1,e2,e3,e4,e5⟩:=this
   rw[e1] at hn;obtain rfl:=a6 hn
   exact (a7.1 e4).1
  | tbl row =>
   obtain⟨-,nm',cs,e1,e2,e3,e4,e5⟩:=this
   rw[e1] at hn;obtain rfl:=a6 hn
   exact (a7.1 e4).1
 refine⟨hs1.tmr.own hold,?_,?_,?_,hs1.fz,hs1.ext⟩
 ·intro n b' hb'
  rcases d4 n s.hp.length with hlt|hge
  ·rw[b4 hlt] at hb'
   exact (hs1.blk n b' hb').own hold (by unfold fB;rw[d5 (by omega)])
  ·rw[b7 hge] at hb'
   have hlt:=(a7.1 hb').1
   simp only[List.length_singleton] at hlt
   obtain rfl:n=s.hp.length:=by omega
   simp at hb'
   subst hb'
   exact hb
 ·intro n hn
  simp only[List.length_append,List.length_singleton]
  unfold fB at hn
  split at hn
  ·omega
  ·have:=hs.dom n hn;omega
 ·intro n n' b1 b2 nm hb1 hb2 l1 l2 e1 e2
  have f:∀ n (b':TB),(s.hp++[b])[n]?=some b'→(n<s.hp.length∧s.hp[n]?=some b')∨n=s.hp.length:=by
   intro n b' hb'
   rcases d4 n s.hp.length with hlt|hge
   ·rw[b4 hlt] at hb';exact .inl ⟨hlt,hb'⟩
   ·rw[b7 hge] at hb'
    have hlt:=(a7.1 hb').1
    simp only[List.length_singleton] at hlt
    exact .inr (by omega)
  rcases f n b1 hb1 with⟨a1,a2⟩|rfl<;>rcases f n' b2 hb2 with⟨c1,c2⟩|rfl
  ·unfold fB at e1 e2
   rw[d5 (by omega)] at e1 e2
   exact hs.inj n n' b1 b2 nm a2 c2 l1 l2 e1 e2
  ·unfold fB at e1
   rw[d5 (by omega)] at e1
   rw[aY] at e2
   obtain rfl:=a6 e2
   have:=hlow n b1 _ a2 l1 e1
   omega
  ·unfold fB at e2
   rw[d5 (by omega)] at e2
   rw[aY] at e1
   obtain rfl:=a6 e1
   have:=hlow n' b2 _ c2 l2 e2
   omega
  ·rfl
theorem St.writeM(hs:St h0 Fz L s tm h){n nm:Nat}{b b':TB}{blk blk':Blk}(hb:s.hp[n]?=some b)(hlv:b.live=true)(hn:(L n).nm=some nm)(hc:h[nm]?=some blk)(hlo:h0.length≤nm)(hnf:¬ Fz nm)
 (hb':BR h0.length Fz (h.set nm blk') L n b'):St h0 Fz L ⟨s.tm,s.hp.set n b'⟩ tm (h.set nm blk'):=by
 have hlt:=(a7.1 hc).1
 have hh:∀ k,Fz k→(h.set nm blk')[k]?=h[k]?:=fun k hk=>by
  rw[d6];rintro rfl;exact hnf hk
 refine⟨hs.tmr.mono (fun _ h=>h) hh,?_,fun k hk=>by simpa using hs.dom k hk,?_,hs.fz.to (fun _ h=>h) hh fun k hk=>by simpa using hs.fz k hk,?_⟩
 ·intro k bk hk
  rw[g9] at hk
  split at hk
  ·rename_i e
   subst e
   split at hk
   ·obtain rfl:=a6 hk;exact hb'
   ·cases hk
  ·rename_i e
   by_cases hlk:bk.live=true
   ·refine (hs.blk k bk hk).mono (fun _ h=>h) hh (fun nm' b hf hb hn'=>⟨?_,hf⟩)
    rw[d6]
    ·exact hb
    ·rintro rfl
     exact e (hs.inj n k _ bk nm (by assumption) hk hlv hlk hn hn')
   ·cases bk with
    | dead=>trivial
    | _=>exact absurd rfl hlk
 ·intro k k' c c' nm' h1 h2 l1 l2 e1 e2
  have f:∀(k:Nat) (c:TB),(s.hp.set n b')[k]?=some c→c.live=true→∃ c0:TB,s.hp[k]?=some c0∧c0.live=true:=by
   intro k c hk hl
   rw[g9] at hk
   split at hk
   ·rename_i e;subst e;exact⟨b,hb,hlv⟩
   ·exact⟨c,hk,hl⟩
  obtain⟨c1,g1,g2⟩:=f k c h1 l1
  obtain⟨c2,g3,g4⟩:=f k' c' h2 l2
  exact hs.inj k k' c1 c2 nm' g1 g3 g2 g4 e1 e2
 ·obtain⟨t,rfl⟩:=hs.ext
  exact⟨t.set (nm-h0.length) blk',by rw[List.set_append_right _ _ hlo]⟩
theorem OpG.mkmap{t:TypeId}:OpG C P { dst:=dst,op:=.makeMap t none,type:=ty,pos:=pos,after:=aft,guard:=gd } s ⟨tput s.tm dst (.lmap s.hp.length),s.hp++[.tbl []]⟩:=by
 intro h0 Fz L tm h hs
 have hB:BR h0.length Fz (h++[.map #[] 0]) (fB L s.hp.length h.length 0 0) s.hp.length (.tbl []):=by
  unfold BR
  rw[aY]
  exact⟨rfl,h.length,(#[],0),rfl,hs.ext.le,fun hf=>by have:=hs.fz _ hf;omega,by simp,⟨rfl,fun i p e hp he=>by simp at hp⟩⟩
 refine⟨rfl,.map (some h.length),h++[.map #[] 0],rfl,Ext.app _ _,Fz,_,Grow.ext hs.fz (Ext.app _ _),(hs.newM hB).put dst ?_⟩
 exact .lmap _ _ _ (by rw[aY]) (by rw[aY])
variable {α β:Type} [DecidableEq α] {eK:α→TV} {eV:β→TV} {f:α→Value} {g:β→Value}
theorem pT{n:Nat}{l:List (TV×TV)}{y:Value}(hs:St h0 Fz L s tm h)(hy:VL Fz h L (.lmap n) y)(hb:s.hp[n]?=some (.tbl l)):∃ nm es clock,y = .map (some nm)∧(L n).nm=some nm∧h0.length≤nm∧¬ Fz nm∧h[nm]?=some (.map es clock)∧ER Fz h l es:=by
 cases hy with
 | lmap _ _ nm ok hn =>
  obtain⟨-,nm',cs,e1,e2,e3,e4,e5⟩:=hs.blk n _ hb
  rw[hn] at e1
  obtain rfl:=a6 e1
  exact⟨nm,cs.1,cs.2,rfl,hn,e2,e3,e4,e5⟩
structure Told{α:Type}(e:α→TV)(f:α→Value):Prop where
 er:∀ a,er 3 (e a)=some (f a)
 vl:∀(a:α) (Fz:Nat→Prop) (h:List Blk) (L:Nat→LI),VL Fz h L (e a) (f a)
theorem ER.of{Fz:Nat→Prop}{h:List Blk}{m:List (α×β)}{es:Array MapEntry}(hk:Told eK f)(hv:Told eV g)(h1:es.toList.map (·.key)=(m.map (·.1)).map f)(h2:es.toList.map (·.val)=(m.map (·.2)).map g):ER Fz h (ents eK eV m) es:=by
 have hl:es.size=m.length:=by have:=congrArg List.length h1;simpa using this
 refine⟨by unfold ents;simp[hl],fun i p e hp he=>?_⟩
 unfold ents at hp
 rw[d2] at hp
 cases hm:m[i]? with
 | none=>rw[hm] at hp;cases hp
 | some q =>
  rw[hm] at hp
  obtain rfl:=a6 hp
  have he':es.toList[i]?=some e:=by rw[Array.getElem?_toList];exact he
  have k1:(es.toList.map (·.key))[i]?=some e.key:=by rw[d2,he'];rfl
  have k2:(es.toList.map (·.val))[i]?=some e.val:=by rw[d2,he'];rfl
  rw[h1,d2,d2,hm] at k1
  rw[h2,d2,d2,hm] at k2
  rw[← a6 k1,← a6 k2]
  exact⟨hk.vl _ _ _ _,hv.vl _ _ _ _⟩
theorem OpG.lookM{t kt et:TypeId}{x y:Operand}{n:Nat}{m:List (α×β)}{k:α}{z:β}(hx:tev s.tm x = .lmap n)(hb:s.hp[n]?=some (.tbl (ents eK eV m)))(hy:tev s.tm y=eK k)(hk:Told eK f)(hv:Told eV g)(hg:∀ b c,aP (.tuple #[g b,.bool c])=true)
 (ht:P.underlying t=some (.map kt et)) (KO:KeyOk P kt f) (hz:((P.info? et).bind (·.zero))=some (g z)) :
 OpG C P { dst:=dst,op:=.lookup t x y true,type:=ty,pos:=pos,after:=aft,guard:=gd } s ⟨tput s.tm dst (.tuple [eV ((mget m k).getD z),.v (.bool (mget m k).isSome)]),s.hp⟩:=by
 intro h0 Fz L tm h hs
 have hvx:=bQ hs.fz hs.tmr x
 rw[hx] at hvx
 obtain⟨nm,es,clock,hxe,hn,hlo,hnf,hbl,hE⟩:=pT hs hvx hb
 have hvy:=bQ hs.fz hs.tmr y
 rw[hy] at hvy
 have hye:=VL.er 3 (hk.er k) hvy
 obtain⟨e1,e2⟩:=vJ hk.er hv.er hE
 have hfind:=KO.find k (m.map (·.1)) es.toList e1
 have hl:es.toList.length=m.length:=by have:=congrArg List.length e1;simpa using this
 obtain⟨c0,hc0⟩:=Option.isSome_iff_exists.1 (KO.chk es.isEmpty k)
 have hlook:dB P t (ev tm x) (ev tm y) true h=some (.tuple #[g ((mget m k).getD z),.bool (mget m k).isSome]):=by
  unfold dB
  rw[ht]
  simp only
  rw[hye,b8 (KO.fixed k),hxe]
  simp only[cV,hbl]
  rw[hc0]
  simp only
  rw[hfind,xQ]
  cases hi:(m.map (·.1)).findIdx? fun b=>decide (k=b) with
  | none =>
   simp only[Option.bind_none]
   cases hq:P.info? et with
   | none=>rw[hq] at hz;cases hz
   | some i =>
    rw[hq] at hz
    simp only[Option.bind_some] at hz
    simp only[hz]
    unfold fH
    simp only[if_true]
    rw[b8 (hg z false)]
    rfl
  | some i =>
   have hlt:i<m.length:=by
    have:=(List.findIdx?_eq_some_iff_getElem.1 hi).1
    simpa using this
   have h1:es.toList[i]?=some es.toList[i]:=b5 (by omega)
   have h2:(es.toList.map (·.val))[i]?=some (g m[i].2):=by rw[e2,d2,d2,b5 hlt];rfl
   rw[d2,h1] at h2
   have h3:es.toList[i].val=g m[i].2:=a6 h2
   simp only[Option.bind_some,h1,Option.map_some,List.getElem?_eq_getElem hlt,h3]
   unfold fH
   simp only[if_true]
   rw[b8 (hg _ true)]
   rfl
 refine⟨rfl,.tuple #[g ((mget m k).getD z),.bool (mget m k).isSome],h,?_,Ext.refl h,Fz,L,Grow.refl _ _,hs.put dst ?_⟩
 ·simp only[xop,hop,hlook,Option.map_some]
 ·exact VL.tuple' (VLs.cons (hv.vl _ _ _ _) (VLs.cons (.v _ _ rfl) VLs.nil))
theorem OpW.setM{t kt et:TypeId}{x y w:Operand}{n:Nat}{m:List (α×β)}{k:α}{v:β}(hx:tev s.tm x = .lmap n)(hb:s.hp[n]?=some (.tbl (ents eK eV m)))(hy:tev s.tm y=eK k)(hw:tev s.tm w=eV v)(hk:Told eK f)(hv:Told eV g)(hg:∀ b,aR (g b)=true)
 (ht:P.underlying t=some (.map kt et)) (KO:KeyOk P kt f) :
 OpW C P { dst:=none,op:=.mapUpdate t x y w,type:=ty,pos:=pos,after:=aft,guard:=gd } s ⟨s.tm,s.hp.set n (.tbl (ents eK eV (mset m k v)))⟩:=by
 intro h0 Fz L tm h hs
 have hvx:=bQ hs.fz hs.tmr x
 rw[hx] at hvx
 obtain⟨nm,es,clock,hxe,hn,hlo,hnf,hbl,hE⟩:=pT hs hvx hb
 have hvy:=bQ hs.fz hs.tmr y
 rw[hy] at hvy
 have hye:=VL.er 3 (hk.er k) hvy
 have hvw:=bQ hs.fz hs.tmr w
 rw[hw] at hvw
 have hwe:=VL.er 3 (hv.er v) hvw
 obtain⟨e1,e2⟩:=vJ hk.er hv.er hE
 have hfind:=KO.find k (m.map (·.1)) es.toList e1
 have hl:es.toList.length=m.length:=by have:=congrArg List.length e1;simpa using this
 obtain⟨c0,hc0⟩:=Option.isSome_iff_exists.1 (KO.chk false k)
 have hok:(L n).ok=true:=(hs.blk n _ hb).1
 have fin : ∀ (es' : Array MapEntry) (clock' : Nat), bA P t (ev tm x) (ev tm y) (ev tm w) h = some (h.set nm (.map es' clock'), nm) → es'.toList.map (·.key) = ((mset m k v).map (·.1)).map f → es'.toList.map (·.val) = ((mset m k v).map (·.2)).map g →
     OpW C P { dst:=none,op:=.mapUpdate t x y w,type:=ty,pos:=pos,after:=aft,guard:=gd } s ⟨s.tm,s.hp.set n (.tbl (ents eK eV (mset m k v)))⟩→True:=fun _ _ _ _ _ _=>trivial
 suffices H:∃(es':Array MapEntry) (clock':Nat),bA P t (ev tm x) (ev tm y) (ev tm w) h=some (h.set nm (.map es' clock'),nm)∧es'.toList.map (·.key)=((mset m k v).map (·.1)).map f∧es'.toList.map (·.val)=((mset m k v).map (·.2)).map g by
  obtain⟨es',clock',hset,k1,k2⟩:=H
  refine .inr ⟨rfl,undef,h.set nm (.map es' clock'),some nm,?_,.inr ⟨nm,rfl,hlo,(a7.1 hbl).1,by simp⟩,Fz,L,Grow.set hnf,?_⟩
  ·simp only[xop,hop,hset,Option.map_some]
  ·refine hs.writeM hb rfl hn hbl hlo hnf ?_
   unfold BR
   exact⟨hok,nm,(es',clock'),hn,hlo,hnf,by rw[d8 (a7.1 hbl).1],ER.of hk hv k1 k2⟩
 unfold bA
 rw[ht]
 simp only
 rw[hye,hwe,b8 ⟨KO.fixed k,hg v⟩,hxe]
 simp only[hbl]
 rw[hc0]
 simp only
 rw[hfind]
 unfold mset
 have hidx:(m.findIdx? fun e=>decide (k=e.1))=(m.map (·.1)).findIdx? fun b=>decide (k=b):=by
  rw[List.findIdx?_map];rfl
 rw[hidx]
 cases hi:(m.map (·.1)).findIdx? fun b=>decide (k=b) with
 | none =>
  simp only[Option.bind_none]
  refine⟨es.push { key:=f k,val:=g v,born:=clock },clock+1,rfl,?_,?_⟩
  ·simp[e1]
  ·simp[e2]
 | some i =>
  obtain⟨hlt',hki,-⟩:=List.findIdx?_eq_some_iff_getElem.1 hi
  have hlt:i<m.length:=by simpa using hlt'
  have hkk:k=m[i].1:=by simpa using hki
  have h1:es.toList[i]?=some es.toList[i]:=b5 (by omega)
  have h2:(es.toList.map (·.key))[i]?=some (f m[i].1):=by rw[e1,d2,d2,b5 hlt];rfl
  rw[d2,h1] at h2
  have h3:es.toList[i].key=f k:=by rw[hkk];exact a6 h2
  have h4:es[i]?=some es.toList[i]:=by rw[← Array.getElem?_toList];exact h1
  simp only[Option.bind_some,h1,Option.map_some,h4,Option.getD_some,h3]
  rw[KO.stay k]
  refine⟨_,clock,rfl,?_,?_⟩
  ·apply i7
   intro j
   have q:=congrArg (fun l=>l[j]?) e1
   simp only[List.getElem?_map] at q
   rw[Array.toList_modify,d2,List.getElem?_modify,d2,d2,List.getElem?_modify]
   by_cases hj:i=j
   ·subst hj
    rw[h1,b5 hlt]
    simp only[if_true,Option.map_some,Option.map_eq_map]
    rw[hkk]
   ·simp only[if_neg hj,Option.map_eq_map]
    revert q
    cases es.toList[j]?<;>cases m[j]?<;>exact fun q=>q
  ·apply i7
   intro j
   have q:=congrArg (fun l=>l[j]?) e2
   simp only[List.getElem?_map] at q
   rw[Array.toList_modify,d2,List.getElem?_modify,d2,d2,List.getElem?_modify]
   by_cases hj:i=j
   ·subst hj
    rw[h1,b5 hlt]
    simp only[if_true,Option.map_some,Option.map_eq_map]
   ·simp only[if_neg hj,Option.map_eq_map]
    revert q
    cases es.toList[j]?<;>cases m[j]?<;>exact fun q=>q
end
section
variable {C:Ctx} {P:Program} {ops:Array Oper} {rest:List Oper} {ms:List Nat} {np:List Nat} {i c:Nat} {tm tm2:List TV} {hp hp2:List TB} {Q:TS→Prop}
variable {dst:Option Tmp} {ty:TypeId} {pos:String} {aft:Array Edge} {gd:Option (Nat×Bool)}
variable {α β:Type} [DecidableEq α] {eK:α→TV} {eV:β→TV} {f:α→Value} {g:β→Value}
theorem TO.mkm{t:TypeId}(hw:twant ops tm { dst:=dst,op:=.makeMap t none,type:=ty,pos:=pos,after:=aft,guard:=gd }=some true)(ht:tput tm dst (.lmap hp.length)=tm2)(hh2:hp++[.tbl []]=hp2)(hq:TO C P ops rest ⟨tm2,hp2⟩ Q):TO C P ops ({ dst:=dst,op:=.makeMap t none,type:=ty,pos:=pos,after:=aft,guard:=gd }::rest) ⟨tm,hp⟩ Q:=by
 subst ht hh2
 exact TO.g hw OpG.mkmap hq
theorem TO.lkm{t kt et:TypeId}{x y:Operand}{n:Nat}{m:List (α×β)}{k:α}{z:β}(hw:twant ops tm { dst:=dst,op:=.lookup t x y true,type:=ty,pos:=pos,after:=aft,guard:=gd }=some true)(hx:tev tm x = .lmap n)(hb:hp[n]?=some (.tbl (ents eK eV m)))(hy:tev tm y=eK k)(hk:Told eK f)(hv:Told eV g)(hg:∀ b c,aP (.tuple #[g b,.bool c])=true)(hT:P.underlying t=some (.map kt et))(KO:KeyOk P kt f)(hz:((P.info? et).bind (·.zero))=some (g z))(ht:tput tm dst (.tuple [eV ((mget m k).getD z),.v (.bool (mget m k).isSome)])=tm2)(hh2:hp=hp2)(hq:TO C P ops rest ⟨tm2,hp2⟩ Q):TO C P ops ({ dst:=dst,op:=.lookup t x y true,type:=ty,pos:=pos,after:=aft,guard:=gd }::rest) ⟨tm,hp⟩ Q:=by
 subst ht hh2
 exact TO.g hw (OpG.lookM (s:=⟨tm,hp⟩) hx hb hy hk hv hg hT KO hz) hq
theorem TO.stm{t kt et:TypeId}{x y w:Operand}{n:Nat}{m:List (α×β)}{k:α}{v:β}(hw:twant ops tm { dst:=none,op:=.mapUpdate t x y w,type:=ty,pos:=pos,after:=aft,guard:=gd }=some true)(hx:tev tm x = .lmap n)(hb:hp[n]?=some (.tbl (ents eK eV m)))(hy:tev tm y=eK k)(hwv:tev tm w=eV v)(hk:Told eK f)(hv:Told eV g)(hg:∀ b,aR (g b)=true)(hT:P.underlying t=some (.map kt et))(KO:KeyOk P kt f)(ht:tm=tm2)(hh2:hp.set n (.tbl (ents eK eV (mset m k v)))=hp2)(hq:TO C P ops rest ⟨tm2,hp2⟩ Q):TO C P ops ({ dst:=none,op:=.mapUpdate t x y w,type:=ty,pos:=pos,after:=aft,guard:=gd }::rest) ⟨tm,hp⟩ Q:=by
 subst ht hh2
 exact TO.w hw (OpW.setM (s:=⟨tm,hp⟩) hx hb hy hwv hk hv hg hT KO) hq
end
end Go.Rex
open Go Go.Rex Go.RowKit
namespace Go.Rex
theorem wA{A G H:Prop}(T:A)(h:A→H→G:=by (intro T g;(repeat (first|with_reducible refine mv ?_|with_reducible refine TO.nil ?_|((with_reducible first|apply TO.mv|apply TO.asg|apply TO.bin|apply TO.ld|apply TO.fa|apply TO.ia|apply TO.pk|apply TO.sv|apply TO.al|apply TO.bld|apply TO.ext );(repeat (focus (show _=_;first|exact k1 rfl|exact k2 rfl|(simp only[zz,T,Nat.reduceAdd,Nat.reduceMul,Nat.reduceLeDiff,Nat.reduceEqDiff,tload,cP,cM,List.getElem?_map,aE,aD,Nat.zero_add,tlen,tbuild,tfill,tfield]<;>exact rfl)|exact rfl)));(with_reducible apply TO.here))|((with_reducible apply TO.skip1);(repeat (focus (show _=_;first|exact k1 rfl|exact k2 rfl|(simp only[zz,T,Nat.reduceAdd,Nat.reduceMul,Nat.reduceLeDiff,Nat.reduceEqDiff,twant,List.getElem?_toArray,Option.bind_some]<;>exact rfl)|exact rfl)));(with_reducible apply TO.here))|with_reducible refine TD.nil ?_|((with_reducible first|apply TD.mv|apply TD.asg|apply TD.bin|apply TD.ld|apply TD.fa|apply TD.ia|apply TD.sv|apply TD.bld );(repeat (focus (show _=_;first|exact k1 rfl|exact k2 rfl|(simp only[zz,T,Nat.reduceAdd,Nat.reduceMul,Nat.reduceLeDiff,Nat.reduceEqDiff,tload,cP,cM,List.getElem?_map,aE,aD,Nat.zero_add,tlen,tbuild,tfill,tfield]<;>exact rfl)|exact rfl)));(with_reducible refine TD.here ?_))|((with_reducible apply TD.skip1);(repeat (focus (show _=_;first|exact k1 rfl|exact k2 rfl|(simp only[zz,T,Nat.reduceAdd,Nat.reduceMul,Nat.reduceLeDiff,Nat.reduceEqDiff,twant,List.getElem?_toArray,Option.bind_some]<;>exact rfl)|exact rfl)));(with_reducible refine TD.here ?_))|((with_reducible apply TX.cond_true);(focus rfl);(focus (first|rfl|(simp only[z1,Bool.not_true,Bool.not_false,T];done))))|((with_reducible apply TX.cond_false);(focus rfl);(focus (first|rfl|(simp only[z1,Bool.not_true,Bool.not_false,T];done))))|((with_reducible apply TX.region);(focus (simp only[List.toList_toArray]<;>exact rfl));(focus rfl);(try dsimp only))|((with_reducible apply TX.drawn);(focus decide +kernel);(focus (simp only[List.toList_toArray]<;>exact rfl));(focus exact rfl);(try dsimp only))|fail));exact g))(g:H):G:=h T g
theorem wa_{A G H:Prop}(T:A)(h:A→H→G:=by (intro T g;(repeat (first|with_reducible refine mv ?_|with_reducible refine TO.nil ?_|((with_reducible first|apply TO.mv|apply TO.asg|apply TO.bin|apply TO.fa|apply TO.ia|apply TO.pk|apply TO.sv|apply TO.al|apply TO.bld|apply TO.ext );(repeat (focus (show _=_;first|exact k1 rfl|exact k2 rfl|(simp only[zz,T,Nat.reduceAdd,Nat.reduceMul,Nat.reduceLeDiff,Nat.reduceEqDiff,tload,cP,cM,List.getElem?_map,aE,aD,Nat.zero_add,tlen,tbuild,tfill,tfield]<;>exact rfl)|exact rfl)));(with_reducible apply TO.here))|((with_reducible apply TO.skip1);(repeat (focus (show _=_;first|exact k1 rfl|exact k2 rfl|(simp only[zz,T,Nat.reduceAdd,Nat.reduceMul,Nat.reduceLeDiff,Nat.reduceEqDiff,twant,List.getElem?_toArray,Option.bind_some]<;>exact rfl)|exact rfl)));(with_reducible apply TO.here))|with_reducible refine TD.nil ?_|((with_reducible first|apply TD.mv|apply TD.asg|apply TD.bin|apply TD.fa|apply TD.ia|apply TD.sv|apply TD.bld );(repeat (focus (show _=_;first|exact k1 rfl|exact k2 rfl|(simp only[zz,T,Nat.reduceAdd,Nat.reduceMul,Nat.reduceLeDiff,Nat.reduceEqDiff,tload,cP,cM,List.getElem?_map,aE,aD,Nat.zero_add,tlen,tbuild,tfill,tfield]<;>exact rfl)|exact rfl)));(with_reducible refine TD.here ?_))|((with_reducible apply TD.skip1);(repeat (focus (show _=_;first|exact k1 rfl|exact k2 rfl|(simp only[zz,T,Nat.reduceAdd,Nat.reduceMul,Nat.reduceLeDiff,Nat.reduceEqDiff,twant,List.getElem?_toArray,Option.bind_some]<;>exact rfl)|exact rfl)));(with_reducible refine TD.here ?_))|((with_reducible apply TX.cond_true);(focus rfl);(focus (first|rfl|(simp only[z1,Bool.not_true,Bool.not_false,T];done))))|((with_reducible apply TX.cond_false);(focus rfl);(focus (first|rfl|(simp only[z1,Bool.not_true,Bool.not_false,T];done))))|((with_reducible apply TX.region);(focus (simp only[List.toList_toArray]<;>exact rfl));(focus rfl);(try dsimp only))|((with_reducible apply TX.drawn);(focus decide +kernel);(focus (simp only[List.toList_toArray]<;>exact rfl));(focus exact rfl);(try dsimp only))|fail));exact g))(g:H):G:=h T g
theorem wB{A G H:Prop}(T:A)(h:A→H→G:=by (intro T g;(repeat (first|with_reducible refine mv ?_|with_reducible refine TO.nil ?_|((with_reducible first|apply TO.mv|apply TO.asg|apply TO.bin|apply TO.ld|apply TO.fa|apply TO.ia|apply TO.pk|apply TO.sv|apply TO.al|apply TO.bf|apply TO.bld|apply TO.ext );(repeat (focus (show _=_;first|exact k1 rfl|exact k2 rfl|(simp only[zz,T,Nat.reduceAdd,Nat.reduceMul,Nat.reduceLeDiff,Nat.reduceEqDiff,tload,cP,cM,List.getElem?_map,aE,aD,Nat.zero_add,tlen,tbuild,tfill,tfield]<;>exact rfl)|exact rfl)));(with_reducible apply TO.here))|((with_reducible apply TO.skip1);(repeat (focus (show _=_;first|exact k1 rfl|exact k2 rfl|(simp only[zz,T,Nat.reduceAdd,Nat.reduceMul,Nat.reduceLeDiff,Nat.reduceEqDiff,twant,List.getElem?_toArray,Option.bind_some]<;>exact rfl)|exact rfl)));(with_reducible apply TO.here))|with_reducible refine TD.nil ?_|((with_reducible first|apply TD.mv|apply TD.asg|apply TD.bin|apply TD.ld|apply TD.fa|apply TD.ia|apply TD.sv|apply TD.bld );(repeat (focus (show _=_;first|exact k1 rfl|exact k2 rfl|(simp only[zz,T,Nat.reduceAdd,Nat.reduceMul,Nat.reduceLeDiff,Nat.reduceEqDiff,tload,cP,cM,List.getElem?_map,aE,aD,Nat.zero_add,tlen,tbuild,tfill,tfield]<;>exact rfl)|exact rfl)));(with_reducible refine TD.here ?_))|((with_reducible apply TD.skip1);(repeat (focus (show _=_;first|exact k1 rfl|exact k2 rfl|(simp only[zz,T,Nat.reduceAdd,Nat.reduceMul,Nat.reduceLeDiff,Nat.reduceEqDiff,twant,List.getElem?_toArray,Option.bind_some]<;>exact rfl)|exact rfl)));(with_reducible refine TD.here ?_))|((with_reducible apply TX.cond_true);(focus rfl);(focus (first|rfl|(simp only[z1,Bool.not_true,Bool.not_false,T];done))))|((with_reducible apply TX.cond_false);(focus rfl);(focus (first|rfl|(simp only[z1,Bool.not_true,Bool.not_false,T];done))))|((with_reducible apply TX.region);(focus (simp only[List.toList_toArray]<;>exact rfl));(focus rfl);(try dsimp only))|((with_reducible apply TX.drawn);(focus decide +kernel);(focus (simp only[List.toList_toArray]<;>exact rfl));(focus exact rfl);(try dsimp only))|fail));exact g))(g:H):G:=h T g
theorem wb_{A G H:Prop}(T:A)(h:A→H→G:=by (intro T g;(repeat (first|with_reducible refine mv ?_|with_reducible refine TO.nil ?_|((with_reducible first|apply TO.mv|apply TO.asg|apply TO.bin|apply TO.fa|apply TO.ia|apply TO.pk|apply TO.sv|apply TO.al|apply TO.bf|apply TO.bld|apply TO.ext );(repeat (focus (show _=_;first|exact k1 rfl|exact k2 rfl|(simp only[zz,T,Nat.reduceAdd,Nat.reduceMul,Nat.reduceLeDiff,Nat.reduceEqDiff,tload,cP,cM,List.getElem?_map,aE,aD,Nat.zero_add,tlen,tbuild,tfill,tfield]<;>exact rfl)|exact rfl)));(with_reducible apply TO.here))|((with_reducible apply TO.skip1);(repeat (focus (show _=_;first|exact k1 rfl|exact k2 rfl|(simp only[zz,T,Nat.reduceAdd,Nat.reduceMul,Nat.reduceLeDiff,Nat.reduceEqDiff,twant,List.getElem?_toArray,Option.bind_some]<;>exact rfl)|exact rfl)));(with_reducible apply TO.here))|with_reducible refine TD.nil ?_|((with_reducible first|apply TD.mv|apply TD.asg|apply TD.bin|apply TD.fa|apply TD.ia|apply TD.sv|apply TD.bld );(repeat (focus (show _=_;first|exact k1 rfl|exact k2 rfl|(simp only[zz,T,Nat.reduceAdd,Nat.reduceMul,Nat.reduceLeDiff,Nat.reduceEqDiff,tload,cP,cM,List.getElem?_map,aE,aD,Nat.zero_add,tlen,tbuild,tfill,tfield]<;>exact rfl)|exact rfl)));(with_reducible refine TD.here ?_))|((with_reducible apply TD.skip1);(repeat (focus (show _=_;first|exact k1 rfl|exact k2 rfl|(simp only[zz,T,Nat.reduceAdd,Nat.reduceMul,Nat.reduceLeDiff,Nat.reduceEqDiff,twant,List.getElem?_toArray,Option.bind_some]<;>exact rfl)|exact rfl)));(with_reducible refine TD.here ?_))|((with_reducible apply TX.cond_true);(focus rfl);(focus (first|rfl|(simp only[z1,Bool.not_true,Bool.not_false,T];done))))|((with_reducible apply TX.cond_false);(focus rfl);(focus (first|rfl|(simp only[z1,Bool.not_true,Bool.not_false,T];done))))|((with_reducible apply TX.region);(focus (simp only[List.toList_toArray]<;>exact rfl));(focus rfl);(try dsimp only))|((with_reducible apply TX.drawn);(focus decide +kernel);(focus (simp only[List.toList_toArray]<;>exact rfl));(focus exact rfl);(try dsimp only))|fail));exact g))(g:H):G:=h T g
theorem wc_{A G H:Prop}(T:A)(h:A→H→G:=by (intro T g;(repeat (first|with_reducible refine mv ?_|with_reducible refine TO.nil ?_|((with_reducible first|apply TO.mv|apply TO.asg|apply TO.bin|apply TO.fa|apply TO.ia|apply TO.pk|apply TO.sv|apply TO.al|apply TO.len|apply TO.bld|apply TO.ext );(repeat (focus (show _=_;first|exact k1 rfl|exact k2 rfl|(simp only[zz,T,Nat.reduceAdd,Nat.reduceMul,Nat.reduceLeDiff,Nat.reduceEqDiff,tload,cP,cM,List.getElem?_map,aE,aD,Nat.zero_add,tlen,tbuild,tfill,tfield]<;>exact rfl)|exact rfl)));(with_reducible apply TO.here))|((with_reducible apply TO.skip1);(repeat (focus (show _=_;first|exact k1 rfl|exact k2 rfl|(simp only[zz,T,Nat.reduceAdd,Nat.reduceMul,Nat.reduceLeDiff,Nat.reduceEqDiff,twant,List.getElem?_toArray,Option.bind_some]<;>exact rfl)|exact rfl)));(with_reducible apply TO.here))|with_reducible refine TD.nil ?_|((with_reducible first|apply TD.mv|apply TD.asg|apply TD.bin|apply TD.fa|apply TD.ia|apply TD.sv|apply TD.bld );(repeat (focus (show _=_;first|exact k1 rfl|exact k2 rfl|(simp only[zz,T,Nat.reduceAdd,Nat.reduceMul,Nat.reduceLeDiff,Nat.reduceEqDiff,tload,cP,cM,List.getElem?_map,aE,aD,Nat.zero_add,tlen,tbuild,tfill,tfield]<;>exact rfl)|exact rfl)));(with_reducible refine TD.here ?_))|((with_reducible apply TD.skip1);(repeat (focus (show _=_;first|exact k1 rfl|exact k2 rfl|(simp only[zz,T,Nat.reduceAdd,Nat.reduceMul,Nat.reduceLeDiff,Nat.reduceEqDiff,twant,List.getElem?_toArray,Option.bind_some]<;>exact rfl)|exact rfl)));(with_reducible refine TD.here ?_))|((with_reducible apply TX.cond_true);(focus rfl);(focus (first|rfl|(simp only[z1,Bool.not_true,Bool.not_false,T];done))))|((with_reducible apply TX.cond_false);(focus rfl);(focus (first|rfl|(simp only[z1,Bool.not_true,Bool.not_false,T];done))))|((with_reducible apply TX.region);(focus (simp only[List.toList_toArray]<;>exact rfl));(focus rfl);(try dsimp only))|((with_reducible apply TX.drawn);(focus decide +kernel);(focus (simp only[List.toList_toArray]<;>exact rfl));(focus exact rfl);(try dsimp only))|fail));exact g))(g:H):G:=h T g
theorem wF{A G H:Prop}(T:A)(h:A→H→G:=by (intro T g;(repeat (first|with_reducible refine mv ?_|with_reducible refine TO.nil ?_|((with_reducible first|apply TO.mv|apply TO.asg|apply TO.bin|apply TO.ld|apply TO.fa|apply TO.ia|apply TO.pk|apply TO.sv|apply TO.al|apply TO.bf|apply TO.bld|apply TO.ext );(repeat (focus (show _=_;first|exact k1 rfl|exact k2 rfl|(simp only[zz,T,Nat.reduceAdd,Nat.reduceMul,Nat.reduceLeDiff,Nat.reduceEqDiff,tload,cP,cM,List.getElem?_map,aE,aD,Nat.zero_add,tlen,tbuild,tfill,tfield,tslice,tparts]<;>exact rfl)|exact rfl)));(with_reducible apply TO.here))|((with_reducible apply TO.skip1);(repeat (focus (show _=_;first|exact k1 rfl|exact k2 rfl|(simp only[zz,T,Nat.reduceAdd,Nat.reduceMul,Nat.reduceLeDiff,Nat.reduceEqDiff,twant,List.getElem?_toArray,Option.bind_some]<;>exact rfl)|exact rfl)));(with_reducible apply TO.here))|with_reducible refine TD.nil ?_|((with_reducible first|apply TD.mv|apply TD.asg|apply TD.bin|apply TD.ld|apply TD.fa|apply TD.ia|apply TD.sv|apply TD.bld );(repeat (focus (show _=_;first|exact k1 rfl|exact k2 rfl|(simp only[zz,T,Nat.reduceAdd,Nat.reduceMul,Nat.reduceLeDiff,Nat.reduceEqDiff,tload,cP,cM,List.getElem?_map,aE,aD,Nat.zero_add,tlen,tbuild,tfill,tfield,tslice,tparts]<;>exact rfl)|exact rfl)));(with_reducible refine TD.here ?_))|((with_reducible apply TD.skip1);(repeat (focus (show _=_;first|exact k1 rfl|exact k2 rfl|(simp only[zz,T,Nat.reduceAdd,Nat.reduceMul,Nat.reduceLeDiff,Nat.reduceEqDiff,twant,List.getElem?_toArray,Option.bind_some]<;>exact rfl)|exact rfl)));(with_reducible refine TD.here ?_))|((with_reducible apply TX.cond_true);(focus rfl);(focus (first|rfl|(simp only[z1,Bool.not_true,Bool.not_false,T];done))))|((with_reducible apply TX.cond_false);(focus rfl);(focus (first|rfl|(simp only[z1,Bool.not_true,Bool.not_false,T];done))))|((with_reducible apply TX.region);(focus (simp only[List.toList_toArray]<;>exact rfl));(focus rfl);(try dsimp only))|((with_reducible apply TX.drawn);(focus decide +kernel);(focus (simp only[List.toList_toArray]<;>exact rfl));(focus exact rfl);(try dsimp only))|fail));exact g))(g:H):G:=h T g
theorem wI{A G H:Prop}(T:A)(h:A→H→G:=by (intro T g;(repeat (first|with_reducible refine mv ?_|with_reducible refine TO.nil ?_|((with_reducible first|apply TO.mv|apply TO.asg|apply TO.bin|apply TO.ld|apply TO.fa|apply TO.ia|apply TO.pk|apply TO.sv|apply TO.al|apply TO.bld|apply TO.ext );(repeat (focus (show _=_;first|exact k1 rfl|exact k2 rfl|(simp only[zz,T,Nat.reduceAdd,Nat.reduceMul,Nat.reduceLeDiff,Nat.reduceEqDiff,tload,cP,cM,List.getElem?_map,aE,aD,Nat.zero_add,tlen,tbuild,tfill,tfield,z5,Int.reduceToNat,Int.reduceLE,Int.reduceLT,Int.cast_ofNat_Int]<;>exact rfl)|exact rfl)));(with_reducible apply TO.here))|((with_reducible apply TO.skip1);(repeat (focus (show _=_;first|exact k1 rfl|exact k2 rfl|(simp only[zz,T,Nat.reduceAdd,Nat.reduceMul,Nat.reduceLeDiff,Nat.reduceEqDiff,twant,List.getElem?_toArray,Option.bind_some]<;>exact rfl)|exact rfl)));(with_reducible apply TO.here))|with_reducible refine TD.nil ?_|((with_reducible first|apply TD.mv|apply TD.asg|apply TD.bin|apply TD.ld|apply TD.fa|apply TD.ia|apply TD.sv|apply TD.bld );(repeat (focus (show _=_;first|exact k1 rfl|exact k2 rfl|(simp only[zz,T,Nat.reduceAdd,Nat.reduceMul,Nat.reduceLeDiff,Nat.reduceEqDiff,tload,cP,cM,List.getElem?_map,aE,aD,Nat.zero_add,tlen,tbuild,tfill,tfield,z5,Int.reduceToNat,Int.reduceLE,Int.reduceLT,Int.cast_ofNat_Int]<;>exact rfl)|exact rfl)));(with_reducible refine TD.here ?_))|((with_reducible apply TD.skip1);(repeat (focus (show _=_;first|exact k1 rfl|exact k2 rfl|(simp only[zz,T,Nat.reduceAdd,Nat.reduceMul,Nat.reduceLeDiff,Nat.reduceEqDiff,twant,List.getElem?_toArray,Option.bind_some]<;>exact rfl)|exact rfl)));(with_reducible refine TD.here ?_))|((with_reducible apply TX.cond_true);(focus rfl);(focus (first|rfl|(simp only[z1,Bool.not_true,Bool.not_false,T];done))))|((with_reducible apply TX.cond_false);(focus rfl);(focus (first|rfl|(simp only[z1,Bool.not_true,Bool.not_false,T];done))))|((with_reducible apply TX.region);(focus (simp only[List.toList_toArray]<;>exact rfl));(focus rfl);(try dsimp only))|((with_reducible apply TX.drawn);(focus decide +kernel);(focus (simp only[List.toList_toArray]<;>exact rfl));(focus exact rfl);(try dsimp only))|fail));exact g))(g:H):G:=h T g
theorem sd{A:Prop}{α:Type}{a b:α}(T:A)(h:A→a=b:=by (intro T;first|exact k1 rfl|exact k2 rfl|(simp only[zz,T,Nat.reduceAdd,Nat.reduceMul,Nat.reduceLeDiff,Nat.reduceEqDiff,shift,kill,fP,frz,vD,view,tml,tmlc,List.length_set,tlen,tslice,tparts]<;>exact rfl)|exact rfl)):a=b:=h T
theorem wn{A:Prop}{α:Type}{a b:α}(T:A)(h:A→a=b:=by (intro T;first|rfl|(simp only[twant,z1,z7,T]<;>rfl))):a=b:=h T
theorem ry{A:Prop}{α:Type}{a b:α}(T:A)(h:A→a=b:=by (intro T;simp only[zy,T,eL,tres,tload,cP,cM];exact rfl)):a=b:=h T
theorem wk_{A:Prop}(T:A){tm tm':List TV}{hp hp':List TB}(fl:List (Option Nat))(hok:mX fl=true)(hB:RB fl hp hp' fl)(hT:A→RNs fl tm tm':=by (intro T;(repeat (first|exact RNs.nil|refine RNs.cons .Z ?_|refine RNs.cons (.keep rfl rfl) ?_|refine RNs.cons (.lsl rfl rfl) ?_|refine RNs.cons (.lsl rfl (by simp only[List.length_set])) ?_|refine RNs.cons (.lptr rfl) ?_|refine RNs.cons (.lmap rfl) ?_|refine RNs.cons (.nil rfl) ?_|refine RNs.cons .nl ?_|refine RNs.cons (.keep (by simp only[T]) rfl) ?_|refine RNs.cons (.tuple' ?_) ?_|refine RNs.cons (.agg' ?_) ?_)))):Wk ⟨tm,hp⟩ ⟨tm',hp'⟩:=Wk.ren fl hok hB (hT T)
theorem ifs{α:Type}{b:Bool}{x y r:Option α}(h:(if b=true then x else y)=r):(b=true∧x=r)∨(b=false∧y=r):=by cases b<;>simp_all
theorem bs{α β:Type}{x:Option α}{f:α→Option β}{r:β}(h:x.bind f=some r):∃ a,x=some a∧f a=some r:=Option.bind_eq_some_iff.1 h
theorem gx{α:Type}{xs:List α}{i:Int}{a:α}(f:α→List TV)(h:kB xs i=some a):tidx (xs.map f) i=some (f a)∧(0≤i∧i<xs.length)∧xs[i.toNat]?=some a:=And.intro (tP (f:=f) h) (And.intro (rM h) (qV h))
theorem lv{A:Prop}(T:A){b:Bool}{G:Prop}(hr:some b=some true)(h:A→b=true→G:=by (intro T hb;first|(cases hb;done)|((first|refine⟨.inl rfl,?_⟩|refine⟨.inr rfl,?_⟩);first|(simp only[eL,tres,z1,hb,Option.map_some]<;>exact rfl)|(simp only[T] at hb;simp only[eL,tres,z1,hb,Option.map_some]<;>exact rfl)))):G:=h T (a6 hr)
end Go.Rex
