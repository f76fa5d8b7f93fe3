/- An executor of the program's functions on trees of values,proved sound. -/
import Derived.Test.YtdlghpacmamnfaaRexG6
set_option linter.unusedSimpArgs false
set_option linter.unusedVariables false
set_option linter.defProp false
namespace Go.Rex
open Go.RowKit
theorem xH{P:Program}{ρ:Operand→Value}{d:Option Tmp}{x y:Operand}{tys:Array TypeId}{ty:TypeId}{pos:String}{aft:Array Edge}{gd:Option (Nat×Bool)} :
 eU P ρ { dst:=d,op:=.call { callee:=.builtin .max,args:=#[x,y],argTypes:=tys },type:=ty,pos:=pos,after:=aft,guard:=gd }=(match ρ x,ρ y with|.int k a,.int _ b=>some (.int k (if b>a then b else a))|_,_=>zV P ρ { dst:=d,op:=.call { callee:=.builtin .max,args:=#[x,y],argTypes:=tys },type:=ty,pos:=pos,after:=aft,guard:=gd }):=by
 split
 ·rename_i k a k' b hx hy
  have h1:([x,y].all fun x=>aR (ρ x))=true:=by simp only[List.all_cons,List.all_nil,hx,hy];rfl
  have h2:prun P (execOp ρ { dst:=d,op:=.call { callee:=.builtin .max,args:=#[x,y],argTypes:=tys },type:=ty,pos:=pos,after:=aft,guard:=gd })=some (.value (.int k (if b>a then b else a))):=by
   simp[execOp,resolve,invoke,hx,hy]
   rfl
  unfold eU
  simp only
  rw[show (Op.call { callee:=.builtin .max,args:=#[x,y],argTypes:=tys }).operands.toList=[x,y] by simp[Op.operands,Call.operands],b8 h1,h2]
  rfl
 ·rfl
theorem xP{P:Program}{ρ:Operand→Value}{d:Option Tmp}{x y:Operand}{tys:Array TypeId}{ty:TypeId}{pos:String}{aft:Array Edge}{gd:Option (Nat×Bool)} :
 eU P ρ { dst:=d,op:=.call { callee:=.builtin .min,args:=#[x,y],argTypes:=tys },type:=ty,pos:=pos,after:=aft,guard:=gd }=(match ρ x,ρ y with|.int k a,.int _ b=>some (.int k (if b<a then b else a))|_,_=>zV P ρ { dst:=d,op:=.call { callee:=.builtin .min,args:=#[x,y],argTypes:=tys },type:=ty,pos:=pos,after:=aft,guard:=gd }):=by
 split
 ·rename_i k a k' b hx hy
  have h1:([x,y].all fun x=>aR (ρ x))=true:=by simp only[List.all_cons,List.all_nil,hx,hy];rfl
  have h2:prun P (execOp ρ { dst:=d,op:=.call { callee:=.builtin .min,args:=#[x,y],argTypes:=tys },type:=ty,pos:=pos,after:=aft,guard:=gd })=some (.value (.int k (if b<a then b else a))):=by
   simp[execOp,resolve,invoke,hx,hy]
   rfl
  unfold eU
  simp only
  rw[show (Op.call { callee:=.builtin .min,args:=#[x,y],argTypes:=tys }).operands.toList=[x,y] by simp[Op.operands,Call.operands],b8 h1,h2]
  rfl
 ·rfl
inductive TV
 | Z
 | v (x:Value)
 | agg (l:List TV)
 | tuple (l:List TV)
 | func (f:FuncId) (first caps:List TV)
 | list (es:Nat) (rows:List (List TV))
 | fptr (vb:Bool) (row:List TV) (off:Nat)
 | lptr (n r o:Nat)
 | lsl (n o len:Nat)
 | lmap (n:Nat)
structure LI where
 ok:Bool
 nm:Option Nat
 es:Nat
 tot:Nat
def noL:Nat→LI:=fun _=>⟨false,none,0,0⟩
def gC:Value→Bool
 | .agg _=>false
 | .tuple _=>false
 | .func (.yield _) ⟨[]⟩ ⟨[]⟩=>true
 | .func ..=>false
 | x=>aP x
inductive VL (Fz:Nat→Prop) (h:List Blk):(Nat→LI)→TV→Value→Prop
 | Z (L:Nat→LI) (x:Value):VL Fz h L .Z x
 | v (L:Nat→LI) (x:Value) (hx:gC x=true):VL Fz h L (.v x) x
 | agg (L:Nat→LI) (l:List TV) (l':List Value) (hl:l'.length=l.length) (ha:∀(i:Nat) p x,l[i]?=some p→l'[i]?=some x→VL Fz h L p x):VL Fz h L (.agg l) (.agg ⟨l'⟩)
 | tuple (L:Nat→LI) (l:List TV) (l':List Value) (hl:l'.length=l.length) (ha:∀(i:Nat) p x,l[i]?=some p→l'[i]?=some x→VL Fz h L p x):VL Fz h L (.tuple l) (.tuple ⟨l'⟩)
 | func (L : Nat → LI) (f : FuncId) (a b : List TV) (a' b' : List Value) (la : a'.length = a.length) (ha : ∀ (i : Nat) p x, a[i]? = some p → a'[i]? = some x → VL Fz h noL p x)
     (lb:b'.length=b.length) (hb:∀(i:Nat) p x,b[i]?=some p→b'[i]?=some x→VL Fz h noL p x):VL Fz h L (.func f a b) (.func (.func f) ⟨a'⟩ ⟨b'⟩)
 | nillist (L:Nat→LI) (es:Nat):VL Fz h L (.list es []) (.slice none 0 0)
 | vague (L:Nat→LI) (es:Nat):VL Fz h L (.list es []) vag
 | list (L : Nat → LI) (es : Nat) (rows : List (List TV)) (n o c : Nat) (cs : List Value) (eb : Nat) (hn : Fz n) (hb : h[n]? = some (.cells eb cs)) (he : eb = es ∨ eb = 0) (hw : ∀ r ∈ rows, r.length = es) (hc : rows.length ≤ c) (hle : o + rows.length * es ≤ cs.length)
     (ha:∀(j:Nat) p x,rows.flatten[j]?=some p→cs[o+j]?=some x→VL Fz h noL p x):VL Fz h L (.list es rows) (.slice (some ⟨n,o,none⟩) rows.length c)
 | fptr (L : Nat → LI) (vb : Bool) (row : List TV) (off n base es : Nat) (cs : List Value) (hn : Fz n) (hb : h[n]? = some (.cells es cs)) (hv : vb = true → es = 0) (hle : base + row.length ≤ cs.length)
     (ha:∀(j:Nat) p x,row[j]?=some p→cs[base+j]?=some x→VL Fz h noL p x):VL Fz h L (.fptr vb row off) (.pointer (some ⟨n,base+off,none⟩))
 | lptr (L:Nat→LI) (n r o nm:Nat) (ok:(L n).ok=true) (hn:(L n).nm=some nm):VL Fz h L (.lptr n r o) (.pointer (some ⟨nm,r*(L n).es+o,none⟩))
 | lmap (L:Nat→LI) (n nm:Nat) (ok:(L n).ok=true) (hn:(L n).nm=some nm):VL Fz h L (.lmap n) (.map (some nm))
 | lslnil (L:Nat→LI) (n:Nat) (ok:(L n).ok=true) (hn:(L n).nm=none):VL Fz h L (.lsl n 0 0) (.slice none 0 0)
 | lsl (L:Nat→LI) (n o len nm:Nat) (ok:(L n).ok=true) (hn:(L n).nm=some nm) (hle:o+len≤(L n).tot):VL Fz h L (.lsl n o len) (.slice (some ⟨nm,o*(L n).es,none⟩) len ((L n).tot-o))
structure VLs(Fz:Nat→Prop)(h:List Blk)(L:Nat→LI)(l:List TV)(l':List Value):Prop where
 len:l'.length=l.length
 at':∀(i:Nat) p x,l[i]?=some p→l'[i]?=some x→VL Fz h L p x
section
variable {Fz Fz':Nat→Prop} {h h':List Blk} {L L':Nat→LI}
theorem VLs.at{l:List TV}{l':List Value}(hs:VLs Fz h L l l'){i:Nat}{p:TV}(hp:l[i]?=some p):∃ x,l'[i]?=some x∧VL Fz h L p x:=by
 have hi:=(a7.1 hp).1
 have hi':i<l'.length:=by rw[hs.len];exact hi
 exact⟨l'[i],b5 hi',hs.at' i _ _ hp (b5 hi')⟩
theorem VLs.nil:VLs Fz h L [] []:=⟨rfl,fun i p x hp=>by simp at hp⟩
theorem VLs.cons{p:TV}{x:Value}{l:List TV}{l':List Value}(hp:VL Fz h L p x)(hs:VLs Fz h L l l'):VLs Fz h L (p::l) (x::l'):=by
 refine⟨by simp[hs.len],fun i q y hq hy=>?_⟩
 cases i with
 | zero=>simp at hq hy;subst hq hy;exact hp
 | succ i=>simp at hq hy;exact hs.at' i _ _ hq hy
theorem VLs.append{l1 l2:List TV}{x1 x2:List Value}(ha:VLs Fz h L l1 x1)(hb:VLs Fz h L l2 x2):VLs Fz h L (l1++l2) (x1++x2):=by
 refine⟨by simp[ha.len,hb.len],fun i p x hp hx=>?_⟩
 rw[List.getElem?_append] at hp hx
 rw[ha.len] at hx
 split at hp
 ·rename_i hi;rw[b8 hi] at hx;exact ha.at' i _ _ hp hx
 ·rename_i hi;rw[d5 hi] at hx;exact hb.at' _ _ _ hp hx
theorem VLs.extract{l:List TV}{x:List Value}(hs:VLs Fz h L l x)(i j:Nat):VLs Fz h L ((l.drop i).take j) ((x.drop i).take j):=by
 refine⟨by simp[hs.len],fun k p y hp hy=>?_⟩
 simp only[List.getElem?_take,List.getElem?_drop] at hp hy
 split at hp
 ·rename_i hk;rw[b8 hk] at hy;exact hs.at' _ _ _ hp hy
 ·cases hp
theorem VLs.set{l:List TV}{l':List Value}(hs:VLs Fz h L l l')(i:Nat){p:TV}{x:Value}(hp:VL Fz h L p x):VLs Fz h L (l.set i p) (l'.set i x):=by
 refine⟨by simp[hs.len],fun k q y hq hy=>?_⟩
 rw[g9] at hq hy
 split at hq
 ·rename_i hk
  rw[b8 hk,hs.len] at hy
  split at hq
  ·rename_i hlt;rw[b8 hlt] at hy;cases hq;cases hy;exact hp
  ·cases hq
 ·rename_i hk;rw[d5 hk] at hy;exact hs.at' _ _ _ hq hy
theorem VLs.replicate{p:TV}{x:Value}(hp:VL Fz h L p x)(n:Nat):VLs Fz h L (List.replicate n p) (List.replicate n x):=by
 refine⟨by simp,fun k q y hq hy=>?_⟩
 rw[List.getElem?_replicate] at hq hy
 split at hq
 ·rename_i hk;rw[b8 hk] at hy;cases hq;cases hy;exact hp
 ·cases hq
theorem VL.agg'{l:List TV}{l':List Value}(hs:VLs Fz h L l l'):VL Fz h L (.agg l) (.agg ⟨l'⟩):=.agg L l l' hs.len hs.at'
theorem VL.tuple'{l:List TV}{l':List Value}(hs:VLs Fz h L l l'):VL Fz h L (.tuple l) (.tuple ⟨l'⟩):=.tuple L l l' hs.len hs.at'
theorem VL.mono{p:TV}{x:Value}(hp:VL Fz h L p x)(hF:∀ n,Fz n→Fz' n)(hh:∀ n,Fz n→h'[n]?=h[n]?):VL Fz' h' L p x:=by
 induction hp with
 | Z L x=>exact .Z L x
 | v L x hx=>exact .v L x hx
 | agg L l l' hl ha ih=>exact .agg L l l' hl ih
 | tuple L l l' hl ha ih=>exact .tuple L l l' hl ih
 | func L f a b a' b' la ha lb hb iha ihb=>exact .func L f a b a' b' la iha lb ihb
 | nillist L es=>exact .nillist L es
 | vague L es=>exact .vague L es
 | list L es rows n o c cs eb hn hb he hw hc hle ha ih=>exact .list L es rows n o c cs eb (hF n hn) (by rw[hh n hn];exact hb) he hw hc hle ih
 | fptr L vb row off n base es cs hn hb hv hle ha ih=>exact .fptr L vb row off n base es cs (hF n hn) (by rw[hh n hn];exact hb) hv hle ih
 | lptr L n r o nm ok hn=>exact .lptr L n r o nm ok hn
 | lmap L n nm ok hn=>exact .lmap L n nm ok hn
 | lslnil L n ok hn=>exact .lslnil L n ok hn
 | lsl L n o len nm ok hn hle=>exact .lsl L n o len nm ok hn hle
theorem VLs.mono{l:List TV}{l':List Value}(hs:VLs Fz h L l l')(hF:∀ n,Fz n→Fz' n)(hh:∀ n,Fz n→h'[n]?=h[n]?):VLs Fz' h' L l l':=
 ⟨hs.len,fun i p x hp hx=>(hs.at' i p x hp hx).mono hF hh⟩
theorem VL.own{p:TV}{x:Value}(hp:VL Fz h L p x)(hL:∀ n,(L n).ok=true→L' n=L n):VL Fz h L' p x:=by
 induction hp generalizing L' with
 | Z L x=>exact .Z L' x
 | v L x hx=>exact .v L' x hx
 | agg L l l' hl ha ih=>exact .agg L' l l' hl (fun i p x h1 h2=>ih i p x h1 h2 hL)
 | tuple L l l' hl ha ih=>exact .tuple L' l l' hl (fun i p x h1 h2=>ih i p x h1 h2 hL)
 | func L f a b a' b' la ha lb hb iha ihb=>exact .func L' f a b a' b' la ha lb hb
 | nillist L es=>exact .nillist L' es
 | vague L es=>exact .vague L' es
 | list L es rows n o c cs eb hn hb he hw hc hle ha ih=>exact .list L' es rows n o c cs eb hn hb he hw hc hle ha
 | fptr L vb row off n base es cs hn hb hv hle ha ih=>exact .fptr L' vb row off n base es cs hn hb hv hle ha
 | lptr L n r o nm ok hn=>have e:=hL n ok;rw[← e] at ok hn ⊢;exact .lptr L' n r o nm ok hn
 | lmap L n nm ok hn=>have e:=hL n ok;rw[← e] at ok hn;exact .lmap L' n nm ok hn
 | lslnil L n ok hn=>have e:=hL n ok;rw[← e] at ok hn;exact .lslnil L' n ok hn
 | lsl L n o len nm ok hn hle=>have e:=hL n ok;rw[← e] at ok hn hle ⊢;exact .lsl L' n o len nm ok hn hle
theorem VLs.own{l:List TV}{l':List Value}(hs:VLs Fz h L l l')(hL:∀ n,(L n).ok=true→L' n=L n):VLs Fz h L' l l':=
 ⟨hs.len,fun i p x hp hx=>(hs.at' i p x hp hx).own hL⟩
theorem VL.ofNo{p:TV}{x:Value}(hp:VL Fz h noL p x):VL Fz h L p x:=hp.own (fun n hn=>by simp[noL] at hn)
def kill(n:Nat):Nat→TV→TV
 | 0,_=>.Z
 | d+1,p=>match p with
  | .lptr m r o=>if m=n then .Z else .lptr m r o
  | .lsl m o l=>if m=n then .Z else .lsl m o l
  | .lmap m=>if m=n then .Z else .lmap m
  | .agg l=>.agg (l.map (kill n d))
  | .tuple l=>.tuple (l.map (kill n d))
  | p=>p
theorem VL.kill{n:Nat}(hL:∀ m,m≠n→L' m=L m):∀(d:Nat) {p:TV} {x:Value},VL Fz h L p x→VL Fz h L' (kill n d p) x
 | 0,p,x,hp=>by rw[Rex.kill];exact .Z L' x
 | d+1,p,x,hp=>by
  have key:∀(l:List TV) (l':List Value),(∀(i:Nat) p x,l[i]?=some p→l'[i]?=some x→VL Fz h L p x)→∀(i:Nat) p x,(l.map (Rex.kill n d))[i]?=some p→l'[i]?=some x→VL Fz h L' p x:=by
   intro l l' ha i p x hp hx
   rw[d2] at hp
   cases hq:l[i]? with
   | none=>rw[hq] at hp;cases hp
   | some q=>rw[hq] at hp;obtain rfl:=a6 hp;exact VL.kill hL d (ha i q x hq hx)
  cases hp with
  | Z _ x=>exact .Z L' x
  | v _ x hx=>exact .v L' x hx
  | agg _ l l' hl ha=>exact .agg L' _ l' (by simp[hl]) (key l l' ha)
  | tuple _ l l' hl ha=>exact .tuple L' _ l' (by simp[hl]) (key l l' ha)
  | func _ f a b a' b' la ha lb hb=>exact .func L' f a b a' b' la ha lb hb
  | nillist _ es=>exact .nillist L' es
  | vague _ es=>exact .vague L' es
  | list _ es rows n o c cs eb hn hb he hw hc hle ha=>exact .list L' es rows n o c cs eb hn hb he hw hc hle ha
  | fptr _ vb row off n base es cs hn hb hv hle ha=>exact .fptr L' vb row off n base es cs hn hb hv hle ha
  | lptr _ m r o nm ok hn =>
   simp only[Rex.kill]
   split
   ·exact .Z L' _
   ·rename_i hne;rw[← hL m hne] at ok hn ⊢;exact .lptr L' m r o nm ok hn
  | lmap _ m nm ok hn =>
   simp only[Rex.kill]
   split
   ·exact .Z L' _
   ·rename_i hne;rw[← hL m hne] at ok hn;exact .lmap L' m nm ok hn
  | lslnil _ m ok hn =>
   simp only[Rex.kill]
   split
   ·exact .Z L' _
   ·rename_i hne;rw[← hL m hne] at ok hn;exact .lslnil L' m ok hn
  | lsl _ m o len nm ok hn hle =>
   simp only[Rex.kill]
   split
   ·exact .Z L' _
   ·rename_i hne;rw[← hL m hne] at ok hn hle ⊢;exact .lsl L' m o len nm ok hn hle
def lf:Nat→TV→Bool
 | 0,_=>false
 | d+1,p=>match p with
  | .lptr ..=>false
  | .lmap ..=>false
  | .lsl ..=>false
  | .agg l=>l.all (lf d)
  | .tuple l=>l.all (lf d)
  | _=>true
theorem VL.toNo:∀(d:Nat) {p:TV} {x:Value},lf d p=true→VL Fz h L p x→VL Fz h L' p x
 | 0,p,x,hl,hp=>by simp[lf] at hl
 | d+1,p,x,hl,hp=>by
  have key:∀(l:List TV) (l':List Value),l.all (lf d)=true→(∀(i:Nat) p x,l[i]?=some p→l'[i]?=some x→VL Fz h L p x)→∀(i:Nat) p x,l[i]?=some p→l'[i]?=some x→VL Fz h L' p x:=by
   intro l l' hall ha i p x hp hx
   exact VL.toNo d (by simpa using (a8.1 hall) p (b6 hp)) (ha i p x hp hx)
  cases hp with
  | Z _ x=>exact .Z L' x
  | v _ x hx=>exact .v L' x hx
  | agg _ l l' hl' ha=>exact .agg L' _ l' hl' (key l l' (by simpa [lf] using hl) ha)
  | tuple _ l l' hl' ha=>exact .tuple L' _ l' hl' (key l l' (by simpa [lf] using hl) ha)
  | func _ f a b a' b' la ha lb hb=>exact .func L' f a b a' b' la ha lb hb
  | nillist _ es=>exact .nillist L' es
  | vague _ es=>exact .vague L' es
  | list _ es rows n o c cs eb hn hb he hw hc hle ha=>exact .list L' es rows n o c cs eb hn hb he hw hc hle ha
  | fptr _ vb row off n base es cs hn hb hv hle ha=>exact .fptr L' vb row off n base es cs hn hb hv hle ha
  | lptr=>simp[lf] at hl
  | lmap=>simp[lf] at hl
  | lslnil=>simp[lf] at hl
  | lsl=>simp[lf] at hl
def cl:Nat→TV→Bool
 | 0,_=>false
 | d+1,p=>match p with
  | .Z=>true
  | .v _=>true
  | .lptr ..=>true
  | .lsl ..=>true
  | .agg l=>l.all (cl d)
  | .tuple l=>l.all (cl d)
  | _=>false
theorem VL.ofCl:∀(d:Nat) {p:TV} {x:Value},cl d p=true→VL Fz h L p x→VL Fz' h' L p x
 | 0,p,x,hl,hp=>by simp[cl] at hl
 | d+1,p,x,hl,hp=>by
  have key:∀(l:List TV) (l':List Value),l.all (cl d)=true→(∀(i:Nat) p x,l[i]?=some p→l'[i]?=some x→VL Fz h L p x)→∀(i:Nat) p x,l[i]?=some p→l'[i]?=some x→VL Fz' h' L p x:=by
   intro l l' hall ha i p x hp hx
   exact VL.ofCl d (by simpa using (a8.1 hall) p (b6 hp)) (ha i p x hp hx)
  cases hp with
  | Z _ x=>exact .Z L x
  | v _ x hx=>exact .v L x hx
  | agg _ l l' hl' ha=>exact .agg L _ l' hl' (key l l' (by simpa [cl] using hl) ha)
  | tuple _ l l' hl' ha=>exact .tuple L _ l' hl' (key l l' (by simpa [cl] using hl) ha)
  | func=>simp[cl] at hl
  | nillist _ es=>simp[cl] at hl
  | vague _ es=>simp[cl] at hl
  | list=>simp[cl] at hl
  | fptr=>simp[cl] at hl
  | lptr _ n r o nm ok hn=>exact .lptr L n r o nm ok hn
  | lmap _ n nm ok hn=>exact .lmap L n nm ok hn
  | lslnil _ n ok hn=>exact .lslnil L n ok hn
  | lsl _ n o len nm ok hn hle=>exact .lsl L n o len nm ok hn hle
def er:Nat→TV→Option Value
 | 0,_=>none
 | d+1,p=>match p with
  | .v x=>some x
  | .agg l=>(l.mapM (er d)).map fun l'=>.agg ⟨l'⟩
  | _=>none
theorem pS{α β:Type}{f:α→Option β}:∀ {l:List α} {l':List β},l.mapM f=some l'→l'.length=l.length∧∀(i:Nat) a b,l[i]?=some a→l'[i]?=some b→f a=some b
 | [],l',hl=>by simp at hl;subst hl;simp
 | a::l,l',hl=>by
  simp only[List.mapM_cons,bind,Option.bind_eq_some_iff,pure] at hl
  obtain⟨b,hb,r,hr,he⟩:=hl
  obtain rfl:=a6 he
  obtain⟨h1,h2⟩:=pS hr
  refine⟨by simp[h1],fun i x y hx hy=>?_⟩
  cases i with
  | zero=>simp at hx hy;subst hx hy;exact hb
  | succ i=>simp at hx hy;exact h2 i x y hx hy
theorem VL.er:∀(d:Nat) {p:TV} {x y:Value},er d p=some y→VL Fz h L p x→x=y
 | 0,p,x,y,he,hp=>by simp[Rex.er] at he
 | d+1,p,x,y,he,hp=>by
  cases hp with
  | v _ x hx=>simpa [Rex.er] using he
  | agg _ l l' hl ha =>
   simp only[Rex.er,Option.map_eq_some_iff] at he
   obtain⟨r,hr,rfl⟩:=he
   obtain⟨h1,h2⟩:=pS hr
   congr 2
   apply i7
   intro i
   cases hx:l'[i]? with
   | none =>
    rw[e8] at hx
    rw[eq_comm,e8]
    omega
   | some x =>
    have hi:=(a7.1 hx).1
    have hp:l[i]?=some l[i]:=b5 (by omega)
    have hy:r[i]?=some r[i]:=b5 (by omega)
    rw[hy,VL.er d (h2 i _ _ hp hy) (ha i _ _ hp hx)]
  | _=>simp[Rex.er] at he
def inj:Nat→Value→TV
 | 0,x=>.v x
 | d+1,x=>match x with
  | .agg ⟨l⟩=>.agg (l.map (inj d))
  | .tuple ⟨l⟩=>.tuple (l.map (inj d))
  | x=>.v x
def jN:Nat→Value→Bool
 | 0,x=>gC x
 | d+1,x=>match x with
  | .agg ⟨l⟩=>l.all (jN d)
  | .tuple ⟨l⟩=>l.all (jN d)
  | x=>gC x
theorem VL.inj:∀(d:Nat) {x:Value},jN d x=true→VL Fz h L (inj d x) x
 | 0,x,hx=>.v L x (by simpa [jN] using hx)
 | d+1,x,hx=>by
  have key:∀(l:List Value),l.all (jN d)=true→VLs Fz h L (l.map (Rex.inj d)) l:=by
   intro l hl
   refine⟨by simp,fun i p x hp hx=>?_⟩
   rw[d2,hx] at hp
   obtain rfl:=a6 hp
   exact VL.inj d (by simpa using (a8.1 hl) x (b6 hx))
  unfold Rex.inj
  unfold jN at hx
  split at hx
  ·exact .agg' (key _ hx)
  ·exact .tuple' (key _ hx)
  ·exact .v L _ hx
end
end Go.Rex
namespace Go.Rex
open Go.RowKit
inductive TB
 | dead
 | rows (es:Nat) (rows:List (List TV))
 | var (row:List TV)
 | tbl (ents:List (TV×TV))
structure TS where
 tm:List TV
 hp:List TB
structure ER(Fz:Nat→Prop)(h:List Blk)(l:List (TV×TV))(es:Array MapEntry):Prop where
 len:es.size=l.length
 at':∀(i:Nat) p e,l[i]?=some p→es[i]?=some e→VL Fz h noL p.1 e.key∧VL Fz h noL p.2 e.val
theorem ER.mono{Fz Fz':Nat→Prop}{h h':List Blk}{l:List (TV×TV)}{es:Array MapEntry}(hs:ER Fz h l es)(hF:∀ n,Fz n→Fz' n)(hh:∀ n,Fz n→h'[n]?=h[n]?):ER Fz' h' l es:=⟨hs.len,fun i p e hp he=>⟨(hs.at' i p e hp he).1.mono hF hh,(hs.at' i p e hp he).2.mono hF hh⟩⟩
def BR(lo:Nat)(Fz:Nat→Prop)(h:List Blk)(L:Nat→LI)(n:Nat):TB→Prop
 | .dead=>True
 | .rows es rows => (L n).ok = true ∧ (L n).es = es ∧ (L n).tot = rows.length ∧ (∀ r ∈ rows, r.length = es) ∧
     (((L n).nm=none∧rows=[])∨∃ nm cs,(L n).nm=some nm∧lo≤nm∧¬ Fz nm∧h[nm]?=some (.cells es cs)∧VLs Fz h noL rows.flatten cs)
 | .var row=>(L n).ok=true∧∃ nm cs,(L n).nm=some nm∧lo≤nm∧¬ Fz nm∧h[nm]?=some (.cells 0 cs)∧VLs Fz h L row cs
 | .tbl ents=>(L n).ok=true∧∃ nm cs,(L n).nm=some nm∧lo≤nm∧¬ Fz nm∧h[nm]?=some (.map (Prod.fst cs) (Prod.snd cs))∧ER Fz h ents (Prod.fst cs)
def TB.live:TB→Bool
 | .dead=>false
 | _=>true
structure FZ(Fz:Nat→Prop)(h:List Blk):Prop where
 lt:∀ n,Fz n→n<h.length
 gl:∀ g,g<NG→Fz g∧h[g]?=GH[g]?
instance {Fz:Nat→Prop} {h:List Blk}:CoeFun (FZ Fz h) (fun _=>∀ n,Fz n→n<h.length):=⟨FZ.lt⟩
instance {Fz:Nat→Prop} {h:List Blk}:Coe (FZ Fz h) (∀ n,Fz n→n<h.length):=⟨FZ.lt⟩
theorem FZ.to{Fz Fz':Nat→Prop}{h h':List Blk}(hf:FZ Fz h)(hF:∀ n,Fz n→Fz' n)(hh:∀ n,Fz n→h'[n]?=h[n]?)(hl:∀ n,Fz' n→n<h'.length):FZ Fz' h':=
 ⟨hl,fun g hg=>⟨hF g (hf.gl g hg).1,(hh g (hf.gl g hg).1).trans (hf.gl g hg).2⟩⟩
structure St(h0:List Blk)(Fz:Nat→Prop)(L:Nat→LI)(s:TS)(tm:List Value)(h:List Blk):Prop where
 tmr:VLs Fz h L s.tm tm
 blk:∀ n b,s.hp[n]?=some b→BR h0.length Fz h L n b
 dom:∀ n,(L n).ok=true→n<s.hp.length
 inj:∀ n n' b b' nm,s.hp[n]?=some b→s.hp[n']?=some b'→b.live=true→b'.live=true→(L n).nm=some nm→(L n').nm=some nm→n=n'
 fz:FZ Fz h
 ext:Ext h0 h
structure Grow(h0:List Blk)(Fz Fz':Nat→Prop)(h h':List Blk):Prop where
 fz:∀ n,Fz n→Fz' n
 new:∀ n,Fz' n→Fz n∨h0.length≤n
 same:∀ n,Fz n→h'[n]?=h[n]?
theorem Grow.refl(h0:List Blk)(Fz:Nat→Prop){h:List Blk}:Grow h0 Fz Fz h h:=⟨fun _ h=>h,fun _ h=>.inl h,fun _ _=>rfl⟩
theorem Grow.trans{h0 h h1 h2:List Blk}{A B C:Nat→Prop}(a:Grow h0 A B h h1)(b:Grow h0 B C h1 h2):Grow h0 A C h h2:=
 ⟨fun n h=>b.1 n (a.1 n h),fun n h=>by rcases b.2 n h with h|h;exact a.2 n h;exact .inr h,fun n hn=>(b.3 n (a.1 n hn)).trans (a.3 n hn)⟩
theorem Grow.ext{h0 h h':List Blk}{Fz:Nat→Prop}(hz:∀ n,Fz n→n<h.length)(he:Ext h h'):Grow h0 Fz Fz h h':=
 ⟨fun _ h=>h,fun _ h=>.inl h,fun n hn=>by obtain⟨t,rfl⟩:=he;exact b4 (hz n hn)⟩
theorem Grow.set{h0 h:List Blk}{Fz:Nat→Prop}{nm:Nat}{b:Blk}(hn:¬ Fz nm):Grow h0 Fz Fz h (h.set nm b):=
 ⟨fun _ h=>h,fun _ h=>.inl h,fun n hf=>d6 (by rintro rfl;exact hn hf)⟩
def Wk(s s':TS):Prop:=∀ h0 Fz L tm h,St h0 Fz L s tm h→∃ Fz' L',Grow h0 Fz Fz' h h∧St h0 Fz' L' s' tm h
section
variable {C:Ctx} {P:Program}
def TX(C:Ctx)(P:Program)(c:Code)(s:TS)(Q:Exit→TS→Prop):Prop:=
 ∀ h0 Fz L tm h,St h0 Fz L s tm h→XP C P none h0.length c ⟨tm,[]⟩ h (fun e a' h'=>a'.df=[]∧∃ s' Fz' L',Q e s'∧Grow h0 Fz Fz' h h'∧St h0 Fz' L' s' a'.tm h')
variable {s s':TS} {Q Q':Exit→TS→Prop}
theorem TX.mono{c:Code}(hx:TX C P c s Q)(hq:∀ e s,Q e s→Q' e s):TX C P c s Q':=by
 intro h0 Fz L tm h hs
 refine (hx h0 Fz L tm h hs).mono ?_
 rintro e a' h' ⟨hd,s',F',L',q,g,hs'⟩
 exact⟨hd,s',F',L',hq _ _ q,g,hs'⟩
theorem TX.weak{c:Code}(hw:Wk s s')(hx:TX C P c s' Q):TX C P c s Q:=by
 intro h0 Fz L tm h hs
 obtain⟨F1,L1,g1,s1⟩:=hw h0 Fz L tm h hs
 refine (hx h0 F1 L1 tm h s1).mono ?_
 rintro e a' h' ⟨hd,s',F',L',q,g,hs'⟩
 exact⟨hd,s',F',L',q,g1.trans g,hs'⟩
theorem TX.post{c:Code}(hx:TX C P c s (fun e s=>∃ s',Wk s s'∧Q e s')):TX C P c s Q:=by
 intro h0 Fz L tm h hs
 refine (hx h0 Fz L tm h hs).mono ?_
 rintro e a' h' ⟨hd,s',F',L',⟨s2,w,q⟩,g,hs'⟩
 obtain⟨F2,L2,g2,hs2⟩:=w h0 F' L' a'.tm h' hs'
 exact⟨hd,s2,F2,L2,q,g.trans g2,hs2⟩
theorem TX.skip(hq:Q .normal s):TX C P .skip s Q:=fun _ Fz L _ _ hs=>XP.skip ⟨rfl,s,Fz,L,hq,Grow.refl _ _,hs⟩
theorem TX.exit{id:Nat}(hq:Q (.exit id) s):TX C P (.exit id) s Q:=fun _ Fz L _ _ hs=>XP.exit ⟨rfl,s,Fz,L,hq,Grow.refl _ _,hs⟩
theorem TX.ret(hq:Q .ret s):TX C P .ret s Q:=fun _ Fz L _ _ hs=>XP.ret ⟨rfl,s,Fz,L,hq,Grow.refl _ _,hs⟩
def tQ(next:TS→Prop)(Q:Exit→TS→Prop):Exit→TS→Prop
 | .normal,s=>next s
 | e,s=>Q e s
theorem TX.seq{x y:Code}(hx:TX C P x s (tQ (fun s=>TX C P y s Q) Q)):TX C P (.seq x y) s Q:=by
 intro h0 Fz L tm h hs
 refine XP.seq ((hx h0 Fz L tm h hs).mono ?_)
 rintro e ⟨tm',df'⟩ h' ⟨hd,s',F',L',q,g,hs'⟩
 obtain rfl:df'=[]:=hd
 cases e with
 | normal =>
  refine Bg ?_
  refine (q h0 F' L' tm' h' hs').mono ?_
  rintro e a' h' ⟨hd,s',F',L',q,g',hs'⟩
  exact⟨hd,s',F',L',q,g.trans g',hs'⟩
 | _=>exact⟨rfl,s',F',L',q,g,hs'⟩
def gE(id:Nat)(Q:Exit→TS→Prop):Exit→TS→Prop
 | .exit id',s=>if id'=id then Q .normal s else Q (.exit id') s
 | e,s=>Q e s
theorem TX.block{id:Nat}{b:Code}(hx:TX C P b s (gE id Q)):TX C P (.block id b) s Q:=by
 intro h0 Fz L tm h hs
 refine XP.block ((hx h0 Fz L tm h hs).mono ?_)
 rintro e ⟨tm',df'⟩ h' ⟨hd,s',F',L',q,g,hs'⟩
 cases e with
 | exit id' =>
  simp only[gE] at q
  simp only[rQ]
  split at q
  ·rename_i hi;rw[b8 hi];exact⟨hd,s',F',L',q,g,hs'⟩
  ·rename_i hi;rw[d5 hi];exact⟨hd,s',F',L',q,g,hs'⟩
 | _=>exact⟨hd,s',F',L',q,g,hs'⟩
theorem Av{next:TS→Prop}(hq:next s):tQ next Q .normal s:=hq
theorem Bj{next:TS→Prop}{id:Nat}(hq:Q (.exit id) s):tQ next Q (.exit id) s:=hq
theorem Aq{next:TS→Prop}(hq:Q .ret s):tQ next Q .ret s:=hq
theorem zC{id:Nat}(hq:Q .normal s):gE id Q .normal s:=hq
theorem yS{id:Nat}(hq:Q .ret s):gE id Q .ret s:=hq
theorem xZ{id:Nat}(hq:Q .normal s):gE id Q (.exit id) s:=by simpa only[gE,if_true] using hq
def tnth:List TV→Nat→TV
 | [],_=>.tuple []
 | v::_,0=>v
 | _::l,n+1=>tnth l n
theorem kR:∀(l:List TV) (n:Nat),tnth l n=l[n]?.getD (.tuple [])
 | [],n=>by simp[tnth]
 | v::l,0=>by simp[tnth]
 | v::l,n+1=>by simp[tnth,kR l n]
def gtab(g:Nat):TV:=match ghCells[g]? with
 | some (_,cs)=>if cs.all gC=true then .fptr false (cs.map .v) 0 else .Z
 | none=>.Z
def tev(tm:List TV):Operand→TV
 | .tmp t=>tnth tm t
 | .const v=>if jN 3 v=true then inj 3 v else .Z
 | .global g=>gtab g
 | .func f=>.func f [] []
theorem bQ{Fz:Nat→Prop}{h:List Blk}{L:Nat→LI}{tm:List TV}{vm:List Value}(hz:FZ Fz h)(hs:VLs Fz h L tm vm)(x:Operand):VL Fz h L (tev tm x) (ev vm x):=by
 cases x with
 | tmp t =>
  simp only[tev,ev]
  rw[kR,iE]
  cases hp:tm[t]? with
  | none =>
   have:vm[t]?=none:=by
    rw[e8] at hp ⊢
    rw[hs.len];exact hp
   rw[this]
   exact .tuple L [] [] rfl (fun i p x h=>by simp at h)
  | some p =>
   obtain⟨x,hx,hv⟩:=hs.at hp
   rw[hx];exact hv
 | const v =>
  simp only[tev,ev]
  split
  ·rename_i hi;exact VL.inj 3 hi
  ·exact .Z L _
 | global g =>
  simp only[tev,ev,gtab]
  split
  ·rename_i es cs hg
   split
   ·rename_i hall
    have hlt:g<NG:=by
     have:=(a7.1 hg).1
     simpa [NG,GH] using this
    have hgh:GH[g]?=some (.cells es cs):=by unfold GH;rw[d2,hg];rfl
    obtain⟨h1,h2⟩:=hz.gl g hlt
    refine .fptr L false (cs.map .v) 0 g 0 es cs h1 (h2.trans hgh) (fun h=>by cases h) (by simp) ?_
    intro j p x hp hx
    rw[g6] at hx
    rw[d2,hx] at hp
    obtain rfl:=a6 hp
    exact .v noL x (a8.1 hall x (b6 hx))
   ·exact .Z L _
  ·exact .Z L _
 | func f=>exact .func L f [] [] [] [] rfl (fun i p x h=>by simp at h) rfl (fun i p x h=>by simp at h)
theorem Bc{Fz:Nat→Prop}{h:List Blk}{L:Nat→LI}{tm:List TV}{vm:List Value}(hs:VLs Fz h L tm vm)(t:Tmp):VL Fz h L (tev tm (.tmp t)) (ev vm (.tmp t)):=by
 simp only[tev,ev]
 rw[kR,iE]
 cases hp:tm[t]? with
 | none =>
  have:vm[t]?=none:=by
   rw[e8] at hp ⊢
   rw[hs.len];exact hp
  rw[this]
  exact .tuple L [] [] rfl (fun i p x h=>by simp at h)
 | some p =>
  obtain⟨x,hx,hv⟩:=hs.at hp
  rw[hx];exact hv
def tput(tm:List TV)(dst:Option Tmp)(v:TV):List TV:=
 match dst with
 | some d=>tm.set d v
 | none=>tm
theorem nF{Fz:Nat→Prop}{h:List Blk}{L:Nat→LI}{tm:List TV}{vm:List Value}(hs:VLs Fz h L tm vm)(dst:Option Tmp){p:TV}{x:Value}(hp:VL Fz h L p x):VLs Fz h L (tput tm dst p) (aN vm dst x):=by
 cases dst with
 | none=>exact hs
 | some d=>exact hs.set d hp
theorem VL.bool_inv{Fz:Nat→Prop}{h:List Blk}{L:Nat→LI}{x y:Value}(hp:VL Fz h L (.v x) y):y=x:=by cases hp;rfl
theorem TX.cond_true{c:Operand}{x y:Code}(ho:fL c=true)(hc:tev s.tm c = .v (.bool true))(hx:TX C P x s Q):TX C P (.cond c x y) s Q:=by
 intro h0 Fz L tm h hs
 have:=bQ hs.fz hs.tmr c
 rw[hc] at this
 exact XP.cond_true ho this.bool_inv (hx h0 Fz L tm h hs)
theorem TX.cond_false{c:Operand}{x y:Code}(ho:fL c=true)(hc:tev s.tm c = .v (.bool false))(hx:TX C P y s Q):TX C P (.cond c x y) s Q:=by
 intro h0 Fz L tm h hs
 have:=bQ hs.fz hs.tmr c
 rw[hc] at this
 exact XP.cond_false ho this.bool_inv (hx h0 Fz L tm h hs)
inductive Runs {σ ε:Type} (step:σ→Option (σ ⊕ ε)):σ→ε→Prop
 | stop {s:σ} {e:ε} (h:step s=some (.inr e)):Runs step s e
 | next {s s':σ} {e:ε} (h:step s=some (.inl s')) (hr:Runs step s' e):Runs step s e
theorem Runs.det{σ ε:Type}{step:σ→Option (σ ⊕ ε)}{s:σ}{e e':ε}(h:Runs step s e)(h':Runs step s e'):e=e':=by
 induction h with
 | stop h=>cases h' with
  | stop g=>rw[h] at g;injection g with g;injection g
  | next g _=>rw[h] at g;injection g with g;cases g
 | next h _ ih=>cases h' with
  | stop g=>rw[h] at g;injection g with g;cases g
  | next g gr=>rw[h] at g;injection g with g;injection g with g;subst g;exact ih gr
open Classical in
noncomputable def run{σ ε:Type}(step:σ→Option (σ ⊕ ε))(s:σ):Option ε:=if h:∃ e,Runs step s e then some (Classical.choose h) else none
theorem run_iff{σ ε:Type}{step:σ→Option (σ ⊕ ε)}{s:σ}{e:ε}:run step s=some e↔Runs step s e:=by
 unfold run
 constructor
 ·intro h
  split at h
  ·rename_i hx
   obtain rfl:=a6 h
   exact Classical.choose_spec hx
  ·cases h
 ·intro h
  have hx:∃ e,Runs step s e:=⟨e,h⟩
  rw[dif_pos hx]
  exact congrArg some (Runs.det (Classical.choose_spec hx) h)
theorem gT{σ ε:Type}{step:σ→Option (σ ⊕ ε)}{s:σ}{e:ε}(h:step s=some (.inr e)):run step s=some e:=run_iff.2 (.stop h)
theorem kL{σ ε:Type}{step:σ→Option (σ ⊕ ε)}{s s':σ}(h:step s=some (.inl s')):run step s=run step s':=by
 cases hr:run step s' with
 | none =>
  cases hs:run step s with
  | none=>rfl
  | some e =>
   have:=run_iff.1 hs
   cases this with
   | stop g=>rw[h] at g;injection g with g;cases g
   | next g gr=>rw[h] at g;injection g with g;injection g with g;subst g;rw[run_iff.2 gr] at hr;cases hr
 | some e=>exact run_iff.2 (.next h (run_iff.1 hr))
theorem TX.loop{σ ε:Type}{b:Code}{step:σ→Option (σ ⊕ ε)}{x:σ}{e:ε}(hr:run step x=some e)(I:σ→TS)(J:ε→Exit→TS→Prop)
 (hI:∀ x x',step x=some (.inl x')→TX C P b (I x) (fun ex st=>ex = .normal∧Wk st (I x'))) (hJ:∀ x e,step x=some (.inr e)→TX C P b (I x) (fun ex st=>ex ≠ .normal∧J e ex st)):TX C P (.loop b) (I x) (J e):=by
 have hr':=run_iff.1 hr
 clear hr
 induction hr' with
 | @stop x e h =>
  intro h0 Fz L tm hh hs
  obtain⟨K,ex,a',h',wr,h1,h2,hd,s',F',L',⟨hne,q⟩,g,hs'⟩:=hJ _ _ h h0 Fz L tm hh hs
  cases ex with
  | normal=>exact absurd rfl hne
  | _=>exact⟨K+1,_,a',h',wr,by simp only[exec,h1],h2,hd,s',F',L',q,g,hs'⟩
 | @next x x1 e h hr ih =>
  intro h0 Fz L tm hh hs
  obtain⟨K,ex,⟨tm',df'⟩,h',wr,h1,h2,hd,s',F',L',⟨rfl,hw⟩,g,hs'⟩:=hI _ _ h h0 Fz L tm hh hs
  obtain rfl:df'=[]:=hd
  obtain⟨F2,L2,g2,hs2⟩:=hw h0 F' L' tm' h' hs'
  obtain⟨K2,ex,a2,h2',wr2,k1,k2,kd,s3,F3,L3,q,g3,hs3⟩:=ih h0 F2 L2 tm' h' hs2
  refine⟨max K K2+1,ex,a2,h2',wmin wr wr2,?_,jC h2 k2,kd,s3,F3,L3,q,(g.trans g2).trans g3,hs3⟩
  simp only[exec]
  rw[kE (Nat.le_max_left K K2) h1]
  simp only
  rw[kE (Nat.le_max_right K K2) k1]
  rfl
end
end Go.Rex
namespace Go.Rex
open Go.RowKit
section
variable {h0 h h':List Blk} {Fz Fz':Nat→Prop} {L L':Nat→LI} {s s':TS} {tm:List Value}
theorem St.put(hs:St h0 Fz L s tm h)(dst:Option Tmp){p:TV}{v:Value}(hp:VL Fz h L p v):St h0 Fz L ⟨tput s.tm dst p,s.hp⟩ (aN tm dst v) h:=
 ⟨nF hs.tmr dst hp,hs.blk,hs.dom,hs.inj,hs.fz,hs.ext⟩
theorem BR.mono{lo n:Nat}{b:TB}(hb:BR lo Fz h L n b)(hF:∀ n,Fz n→Fz' n)(hh:∀ n,Fz n→h'[n]?=h[n]?)(hn:∀ nm b,¬ Fz nm→h[nm]?=some b→(L n).nm=some nm→h'[nm]?=some b∧¬ Fz' nm):BR lo Fz' h' L n b:=by
 cases b with
 | dead=>trivial
 | rows es rows =>
  obtain⟨h1,h2,h3,h4,h5⟩:=hb
  refine⟨h1,h2,h3,h4,?_⟩
  rcases h5 with h5|⟨nm,cs,e1,e2,e3,e4,e5⟩
  ·exact .inl h5
  ·obtain⟨q1,q2⟩:=hn nm _ e3 e4 e1
   exact .inr ⟨nm,cs,e1,e2,q2,q1,e5.mono hF hh⟩
 | var row =>
  obtain⟨h1,nm,cs,e1,e2,e3,e4,e5⟩:=hb
  obtain⟨q1,q2⟩:=hn nm _ e3 e4 e1
  exact⟨h1,nm,cs,e1,e2,q2,q1,e5.mono hF hh⟩
 | tbl row =>
  obtain⟨h1,nm,cs,e1,e2,e3,e4,e5⟩:=hb
  obtain⟨q1,q2⟩:=hn nm _ e3 e4 e1
  exact⟨h1,nm,cs,e1,e2,q2,q1,e5.mono hF hh⟩
theorem BR.own{lo n n':Nat}{b:TB}(hb:BR lo Fz h L n b)(hL:∀ n,(L n).ok=true→L' n=L n)(hn:L' n'=L n):BR lo Fz h L' n' b:=by
 cases b with
 | dead=>trivial
 | rows es rows =>
  obtain⟨h1,h2,h3,h4,h5⟩:=hb
  unfold BR
  rw[hn]
  exact⟨h1,h2,h3,h4,h5⟩
 | var row =>
  obtain⟨h1,nm,cs,e1,e2,e3,e4,e5⟩:=hb
  unfold BR
  rw[hn]
  exact⟨h1,nm,cs,e1,e2,e3,e4,e5.own hL⟩
 | tbl row =>
  obtain⟨h1,nm,cs,e1,e2,e3,e4,e5⟩:=hb
  unfold BR
  rw[hn]
  exact⟨h1,nm,cs,e1,e2,e3,e4,e5⟩
theorem St.heap(hs:St h0 Fz L s tm h)(hx:Ext h h')(hF:∀ n,Fz n→Fz' n)(hF2:∀ n,Fz' n→Fz n∨(h.length≤n∧n<h'.length)):St h0 Fz' L s tm h':=by
 have hh:∀ n,Fz n→h'[n]?=h[n]?:=fun n hn=>by
  have:=hs.fz n hn
  rw[b5 this]
  exact hx.at (b5 this)
 refine⟨hs.tmr.mono hF hh,fun n b hb=>(hs.blk n b hb).mono hF hh (fun nm b hn hb _=>⟨hx.at hb,fun hf=>?_⟩),hs.dom,hs.inj,hs.fz.to hF hh fun n hn=>?_,hs.ext.trans hx⟩
 ·rcases hF2 nm hf with h1|h1
  ·exact hn h1
  ·have:=(a7.1 hb).1;omega
 ·have:=hx.le
  rcases hF2 n hn with h1|h1
  ·have:=hs.fz n h1;omega
  ·exact h1.2
def shift(k:Nat):Nat→TV→TV
 | 0,_=>.Z
 | d+1,p=>match p with
  | .lptr m r o=>.lptr (k+m) r o
  | .lmap m=>.lmap (k+m)
  | .lsl m o l=>.lsl (k+m) o l
  | .agg l=>.agg (l.map (shift k d))
  | .tuple l=>.tuple (l.map (shift k d))
  | p=>p
theorem VL.shift{k:Nat}(hL:∀ n,(L n).ok=true→L' (k+n)=L n):∀(d:Nat) {p:TV} {x:Value},VL Fz h L p x→VL Fz h L' (shift k d p) x
 | 0,p,x,hp=>by rw[Rex.shift];exact .Z L' x
 | d+1,p,x,hp=>by
  have key:∀(l:List TV) (l':List Value),(∀(i:Nat) p x,l[i]?=some p→l'[i]?=some x→VL Fz h L p x)→∀(i:Nat) p x,(l.map (Rex.shift k d))[i]?=some p→l'[i]?=some x→VL Fz h L' p x:=by
   intro l l' ha i p x hp hx
   rw[d2] at hp
   cases hq:l[i]? with
   | none=>rw[hq] at hp;cases hp
   | some q=>rw[hq] at hp;obtain rfl:=a6 hp;exact VL.shift hL d (ha i q x hq hx)
  cases hp with
  | Z _ x=>exact .Z L' x
  | v _ x hx=>exact .v L' x hx
  | agg _ l l' hl ha=>exact .agg L' _ l' (by simp[hl]) (key l l' ha)
  | tuple _ l l' hl ha=>exact .tuple L' _ l' (by simp[hl]) (key l l' ha)
  | func _ f a b a' b' la ha lb hb=>exact .func L' f a b a' b' la ha lb hb
  | nillist _ es=>exact .nillist L' es
  | vague _ es=>exact .vague L' es
  | list _ es rows n o c cs eb hn hb he hw hc hle ha=>exact .list L' es rows n o c cs eb hn hb he hw hc hle ha
  | fptr _ vb row off n base es cs hn hb hv hle ha=>exact .fptr L' vb row off n base es cs hn hb hv hle ha
  | lptr _ m r o nm ok hn =>
   have e:=hL m ok
   simp only[Rex.shift]
   rw[← e] at ok hn ⊢
   exact .lptr L' (k+m) r o nm ok hn
  | lmap _ m nm ok hn =>
   have e:=hL m ok
   simp only[Rex.shift]
   rw[← e] at ok hn
   exact .lmap L' (k+m) nm ok hn
  | lslnil _ m ok hn =>
   have e:=hL m ok
   simp only[Rex.shift]
   rw[← e] at ok hn
   exact .lslnil L' (k+m) ok hn
  | lsl _ m o len nm ok hn hle =>
   have e:=hL m ok
   simp only[Rex.shift]
   rw[← e] at ok hn hle ⊢
   exact .lsl L' (k+m) o len nm ok hn hle
def pR:TB→Bool
 | .var row=>row.all (lf 4)
 | _=>true
theorem St.adopt2(hs:St h0 Fz L s tm h)(dst:Option Tmp){p:TV}{v:Value}{th:List TB}{L2:Nat→LI}(hr:St h Fz' L2 ⟨[p],th⟩ [v] h')(hth:th.all pR=true)(g:Grow h Fz Fz' h h') :
 ∃ L3,St h0 Fz' L3 ⟨tput s.tm dst (shift s.hp.length 4 p),s.hp++th⟩ (aN tm dst v) h'∧∀ j b nm,(s.hp++th)[j]?=some b→b.live=true→(L3 j).nm=some nm→nm<h.length→s.hp[j]?=some b∧(L j).nm=some nm:=by
 have hle:=hr.ext.le
 have hh1:St h0 Fz' L s tm h':=hs.heap hr.ext g.1 (fun n hn=>by
  rcases g.2 n hn with h1|h1
  ·exact .inl h1
  ·exact .inr ⟨h1,hr.fz n hn⟩)
 refine⟨fun n=>if n<s.hp.length then L n else L2 (n-s.hp.length),?_⟩
 have hold:∀ n,(L n).ok=true→(fun n=>if n<s.hp.length then L n else L2 (n-s.hp.length)) n=L n:=fun n hn=>by
  have:=hs.dom n hn
  simp only[if_pos this]
 have hnew:∀ n,(L2 n).ok=true→(fun n=>if n<s.hp.length then L n else L2 (n-s.hp.length)) (s.hp.length+n)=L2 n:=fun n _=>by
  simp;omega
 have hlow:∀ n b nm,s.hp[n]?=some b→b.live=true→(L n).nm=some nm→nm<h.length:=by
  intro n b nm hb hlv hn
  have:=hs.blk n b hb
  cases b with
  | dead=>cases hlv
  | rows es rows =>
   obtain⟨-,-,-,-,h5⟩:=this
   rcases h5 with h5|⟨nm',cs,e1,e2,e3,e4,e5⟩
   ·rw[h5.1] at hn;cases hn
   ·rw[e1] at hn;obtain rfl:=a6 hn
    exact (a7.1 e4).1
  | var row =>
   obtain⟨-,nm',cs,e1,e2,e3,e4,e5⟩:=this
   rw[e1] at hn;obtain rfl:=a6 hn
   exact (a7.1 e4).1
  | tbl row =>
   obtain⟨-,nm',cs,e1,e2,e3,e4,e5⟩:=this
   rw[e1] at hn;obtain rfl:=a6 hn
   exact (a7.1 e4).1
 have hhigh:∀ n b nm,th[n]?=some b→b.live=true→(L2 n).nm=some nm→h.length≤nm:=by
  intro n b nm hb hlv hn
  have:=hr.blk n b hb
  cases b with
  | dead=>cases hlv
  | rows es rows =>
   obtain⟨-,-,-,-,h5⟩:=this
   rcases h5 with h5|⟨nm',cs,e1,e2,e3,e4,e5⟩
   ·rw[h5.1] at hn;cases hn
   ·rw[e1] at hn;obtain rfl:=a6 hn
    exact e2
  | var row =>
   obtain⟨-,nm',cs,e1,e2,e3,e4,e5⟩:=this
   rw[e1] at hn;obtain rfl:=a6 hn
   exact e2
  | tbl row =>
   obtain⟨-,nm',cs,e1,e2,e3,e4,e5⟩:=this
   rw[e1] at hn;obtain rfl:=a6 hn
   exact e2
 have hp:VL Fz' h' L2 p v:=hr.tmr.at' 0 p v rfl rfl
 refine⟨⟨nF (hh1.tmr.own hold) dst (hp.shift hnew 4),?_,?_,?_,hr.fz,hh1.ext⟩,?_⟩
 ·intro n b hb
  rcases d4 n s.hp.length with hlt|hge
  ·rw[b4 hlt] at hb
   exact (hh1.blk n b hb).own hold (by simp only[if_pos hlt])
  ·rw[b7 hge] at hb
   have hb':=hr.blk _ b hb
   have e:(fun n=>if n<s.hp.length then L n else L2 (n-s.hp.length)) n=L2 (n-s.hp.length):=by
    simp only[if_neg (show ¬ n<s.hp.length by omega)]
   cases b with
   | dead=>trivial
   | rows es rows =>
    obtain⟨h1,h2,h3,h4,h5⟩:=hb'
    unfold BR
    rw[e]
    refine⟨h1,h2,h3,h4,?_⟩
    rcases h5 with h5|⟨nm,cs,e1,e2,e3,e4,e5⟩
    ·exact .inl h5
    ·exact .inr ⟨nm,cs,e1,e6 hs.ext.le e2,e3,e4,e5⟩
   | var row =>
    obtain⟨h1,nm,cs,e1,e2,e3,e4,e5⟩:=hb'
    have hlf:row.all (lf 4)=true:=by
     have:=a8.1 hth _ (b6 hb)
     simpa [pR] using this
    unfold BR
    rw[e]
    refine⟨h1,nm,cs,e1,e6 hs.ext.le e2,e3,e4,e5.len,fun i p x hp hx=>?_⟩
    exact VL.toNo 4 (by simpa using a8.1 hlf p (b6 hp)) (e5.at' i p x hp hx)
   | tbl row =>
    obtain⟨h1,nm,cs,e1,e2,e3,e4,e5⟩:=hb'
    unfold BR
    rw[e]
    exact⟨h1,nm,cs,e1,e6 hs.ext.le e2,e3,e4,e5⟩
 ·intro n hn
  rw[i5]
  rcases d4 n s.hp.length with hlt|hge
  ·omega
  ·simp only[if_neg (show ¬ n<s.hp.length by omega)] at hn
   have:=hr.dom _ hn
   simp only at this
   omega
 ·intro n n' b b' nm hb hb' l1 l2 e1 e2
  rcases d4 n s.hp.length with hlt|hge<;>rcases d4 n' s.hp.length with hlt'|hge'
  ·rw[b4 hlt] at hb
   rw[b4 hlt'] at hb'
   simp only[if_pos hlt] at e1
   simp only[if_pos hlt'] at e2
   exact hs.inj n n' b b' nm hb hb' l1 l2 e1 e2
  ·rw[b4 hlt] at hb
   rw[b7 hge'] at hb'
   simp only[if_pos hlt] at e1
   simp only[if_neg (show ¬ n'<s.hp.length by omega)] at e2
   have:=hlow n b nm hb l1 e1
   have:=hhigh _ b' nm hb' l2 e2
   omega
  ·rw[b7 hge] at hb
   rw[b4 hlt'] at hb'
   simp only[if_neg (show ¬ n<s.hp.length by omega)] at e1
   simp only[if_pos hlt'] at e2
   have:=hlow n' b' nm hb' l2 e2
   have:=hhigh _ b nm hb l1 e1
   omega
  ·rw[b7 hge] at hb
   rw[b7 hge'] at hb'
   simp only[if_neg (show ¬ n<s.hp.length by omega)] at e1
   simp only[if_neg (show ¬ n'<s.hp.length by omega)] at e2
   have:=hr.inj _ _ b b' nm hb hb' l1 l2 e1 e2
   omega
 ·intro j b nm hb hl e1 hlt
  rcases d4 j s.hp.length with q|q
  ·rw[b4 q] at hb
   simp only[if_pos q] at e1
   exact⟨hb,e1⟩
  ·rw[b7 q] at hb
   simp only[if_neg (show ¬ j<s.hp.length by omega)] at e1
   have:=hhigh _ b nm hb hl e1
   omega
theorem St.write(hs:St h0 Fz L s tm h){n nm es:Nat}{b b':TB}{cs cs':List Value}(hb:s.hp[n]?=some b)(hlv:b.live=true)(hn:(L n).nm=some nm)(hc:h[nm]?=some (.cells es cs))(hlo:h0.length≤nm)(hnf:¬ Fz nm)
 (hb':BR h0.length Fz (h.set nm (.cells es cs')) L n b'):St h0 Fz L ⟨s.tm,s.hp.set n b'⟩ tm (h.set nm (.cells es cs')):=by
 have hlt:=(a7.1 hc).1
 have hh:∀ k,Fz k→(h.set nm (.cells es cs'))[k]?=h[k]?:=fun k hk=>by
  rw[d6];rintro rfl;exact hnf hk
 refine⟨hs.tmr.mono (fun _ h=>h) hh,?_,fun k hk=>by simpa using hs.dom k hk,?_,hs.fz.to (fun _ h=>h) hh fun k hk=>by simpa using hs.fz k hk,?_⟩
 ·intro k bk hk
  rw[g9] at hk
  split at hk
  ·rename_i e
   subst e
   split at hk
   ·obtain rfl:=a6 hk;exact hb'
   ·cases hk
  ·rename_i e
   by_cases hlk:bk.live=true
   ·refine (hs.blk k bk hk).mono (fun _ h=>h) hh (fun nm' b hf hb hn'=>⟨?_,hf⟩)
    rw[d6]
    ·exact hb
    ·rintro rfl
     exact e (hs.inj n k _ bk nm (by assumption) hk hlv hlk hn hn')
   ·cases bk with
    | dead=>trivial
    | _=>exact absurd rfl hlk
 ·intro k k' c c' nm' h1 h2 l1 l2 e1 e2
  have f:∀(k:Nat) (c:TB),(s.hp.set n b')[k]?=some c→c.live=true→∃ c0:TB,s.hp[k]?=some c0∧c0.live=true:=by
   intro k c hk hl
   rw[g9] at hk
   split at hk
   ·rename_i e;subst e;exact⟨b,hb,hlv⟩
   ·exact⟨c,hk,hl⟩
  obtain⟨c1,g1,g2⟩:=f k c h1 l1
  obtain⟨c2,g3,g4⟩:=f k' c' h2 l2
  exact hs.inj k k' c1 c2 nm' g1 g3 g2 g4 e1 e2
 ·obtain⟨t,rfl⟩:=hs.ext
  exact⟨t.set (nm-h0.length) (.cells es cs'),by rw[List.set_append_right _ _ hlo]⟩
end
end Go.Rex
namespace Go.Rex
open Go.RowKit
section
variable {C:Ctx} {P:Program}
def Spec(C:Ctx)(f:FuncId)(args:List TV)(r:TS):Prop:=
 ∀ Fz h vs,FZ Fz h→VLs Fz h noL args vs→∃ v h' Fz' L',C.call f vs h=some (v,h',none)∧Grow h Fz Fz' h h'∧St h Fz' L' r [v] h'
def OpP(P:Program)(o:Oper)(s s':TS):Prop:=
 s'.hp=s.hp∧∀ h0 Fz L tm h,St h0 Fz L s tm h→∃ v,Rex.pop P (ev tm) o=some v∧St h0 Fz L s' (aN tm o.dst v) h
def OpG(C:Ctx)(P:Program)(o:Oper)(s s':TS):Prop:=
 ∀ h0 Fz L tm h,St h0 Fz L s tm h→Rex.pop P (ev tm) o=none∧∃ v h1,xop C P (ev tm) o h=some (v,h1,none)∧Ext h h1∧∃ Fz' L',Grow h0 Fz Fz' h h1∧St h0 Fz' L' s' (aN tm o.dst v) h1
def OpW(C:Ctx)(P:Program)(o:Oper)(s s':TS):Prop:=
 ∀ h0 Fz L tm h,St h0 Fz L s tm h→(∃ v,Rex.pop P (ev tm) o=some v∧∃ Fz' L',Grow h0 Fz Fz' h h∧St h0 Fz' L' s' (aN tm o.dst v) h)∨Rex.pop P (ev tm) o=none∧∃ v h1 w1,xop C P (ev tm) o h=some (v,h1,w1)∧((w1=none∧Ext h h1)∨∃ nm,w1=some nm∧h0.length≤nm∧nm<h.length∧h.length≤h1.length) ∧
  ∃ Fz' L',Grow h0 Fz Fz' h h1∧St h0 Fz' L' s' (aN tm o.dst v) h1
def OpM(C:Ctx)(P:Program)(o:Oper)(s s':TS):Prop:=
 ∀ h0 Fz L tm h,St h0 Fz L s tm h→(∃ v,Rex.pop P (ev tm) o=some v∧∃ Fz' L',Grow h0 Fz Fz' h h∧St h0 Fz' L' s' (aN tm o.dst v) h)∨Rex.pop P (ev tm) o=none∧∃ v h1,xop C P (ev tm) o h=some (v,h1,none)∧Ext h h1∧∃ Fz' L',Grow h0 Fz Fz' h h1∧St h0 Fz' L' s' (aN tm o.dst v) h1
theorem OpG.toW{o:Oper}{s s':TS}(h:OpG C P o s s'):OpW C P o s s':=by
 intro h0 Fz L tm hh hs
 obtain⟨h1,v,h2,h3,h4,h5⟩:=h h0 Fz L tm hh hs
 exact .inr ⟨h1,v,h2,none,h3,.inl ⟨rfl,h4⟩,h5⟩
def twant(ops:Array Oper)(tm:List TV)(o:Oper):Option Bool:=
 match o.guard with
 | none=>some true
 | some (j,want)=>match (ops[j]?).bind (·.dst) with
  | none=>none
  | some d=>match tnth tm d with
   | .v (.bool b)=>some (b==want)
   | .tuple _=>some false
   | _=>none
theorem cN{ops:Array Oper}{Fz:Nat→Prop}{h:List Blk}{L:Nat→LI}{tm:List TV}{vm:List Value}{o:Oper}{b:Bool}(hs:VLs Fz h L tm vm)(hw:twant ops tm o=some b):Region.wanted o (yielded ops ⟨vm⟩)=b:=by
 unfold twant at hw
 unfold Region.wanted
 split at hw
 ·rename_i hg
  rw[hg]
  exact a6 hw
 ·rename_i j want hg
  rw[hg]
  simp only
  split at hw
  ·cases hw
  ·rename_i d hd
   have hv:=Bc hs d
   simp only[tev,ev] at hv
   rw[kR,iE] at hv
   rw[kR] at hw
   have e:yielded ops ⟨vm⟩ j=match vm[d]? with|some (.bool b)=>some b|_=>none:=by
    unfold yielded
    rw[hd]
    simp only[Option.bind_some,List.getElem?_toArray]
    rfl
   rw[e]
   cases hx:vm[d]? with
   | none =>
    rw[hx] at hv
    have:tm[d]?=none:=by
     rw[e8] at hx ⊢
     rw[← hs.len];exact hx
    rw[this] at hw
    simp at hw
    subst hw
    rfl
   | some x =>
    rw[hx] at hv
    simp only[Option.getD_some] at hv
    split at hw
    ·rename_i b' hb
     rw[hb] at hv
     obtain rfl:=hv.bool_inv
     obtain rfl:=a6 hw
     cases b'<;>cases want<;>rfl
    ·rename_i l hb
     rw[hb] at hv
     obtain rfl:=a6 hw
     cases hv
     rfl
    ·cases hw
def TO(C:Ctx)(P:Program)(ops:Array Oper)(l:List Oper)(s:TS)(Q:TS→Prop):Prop:=
 ∀ h0 Fz L tm h,St h0 Fz L s tm h→RO C P h0.length ops l tm h (fun tm' h'=>∃ s' Fz' L',Q s'∧Grow h0 Fz Fz' h h'∧St h0 Fz' L' s' tm' h')
variable {ops:Array Oper} {o:Oper} {rest:List Oper} {s s':TS} {Q:TS→Prop}
theorem TO.nil(hq:Q s):TO C P ops [] s Q:=fun _ Fz L _ _ hs=>RO.nil ⟨s,Fz,L,hq,Grow.refl _ _,hs⟩
theorem TO.p(hw:twant ops s.tm o=some true)(ho:OpP P o s s')(hq:TO C P ops rest s' Q):TO C P ops (o::rest) s Q:=by
 intro h0 Fz L tm h hs
 obtain⟨v,h1,s1⟩:=ho.2 h0 Fz L tm h hs
 obtain⟨tm',h',wr,q1,q2,s2,F2,L2,q3,g2,s3⟩:=hq h0 Fz L _ h s1
 exact RO.pop (cN hs.tmr hw) h1 rfl ⟨tm',h',wr,q1,q2,s2,F2,L2,q3,g2,s3⟩
theorem TO.w(hw:twant ops s.tm o=some true)(ho:OpW C P o s s')(hq:TO C P ops rest s' Q):TO C P ops (o::rest) s Q:=by
 intro h0 Fz L tm h hs
 rcases ho h0 Fz L tm h hs with⟨v,h1,F1,L1,g1,s1⟩|⟨hn,v,h1,w1,hx,hw1,F1,L1,g1,s1⟩
 ·obtain⟨tm',h',wr,q1,q2,s2,F2,L2,q3,g2,s3⟩:=hq h0 F1 L1 _ h s1
  exact RO.pop (cN hs.tmr hw) h1 rfl ⟨tm',h',wr,q1,q2,s2,F2,L2,q3,g1.trans g2,s3⟩
 obtain⟨tm',h',wr,q1,q2,s2,F2,L2,q3,g2,s3⟩:=hq h0 F1 L1 _ h1 s1
 refine RO.act (cN hs.tmr hw) hn hx ?_ rfl ⟨tm',h',wr,q1,q2,s2,F2,L2,q3,g1.trans g2,s3⟩
 rcases hw1 with⟨rfl,_⟩|⟨nm,rfl,hl,_⟩
 ·rfl
 ·simpa [wge] using hl
theorem TO.g(hw:twant ops s.tm o=some true)(ho:OpG C P o s s')(hq:TO C P ops rest s' Q):TO C P ops (o::rest) s Q:=TO.w hw ho.toW hq
theorem TO.skip(hw:twant ops s.tm o=some false)(hq:TO C P ops rest ⟨tput s.tm o.dst (.tuple []),s.hp⟩ Q):TO C P ops (o::rest) s Q:=by
 intro h0 Fz L tm h hs
 exact RO.skip (cN hs.tmr hw) rfl (hq h0 Fz L _ h (hs.put o.dst (.tuple L [] [] rfl (fun i p x h=>by simp at h))))
theorem TO.weak{l:List Oper}(hw:Wk s s')(hx:TO C P ops l s' Q):TO C P ops l s Q:=by
 intro h0 Fz L tm h hs
 obtain⟨F1,L1,g1,s1⟩:=hw h0 Fz L tm h hs
 obtain⟨tm',h',wr,q1,q2,s2,F2,L2,q3,g2,s3⟩:=hx h0 F1 L1 tm h s1
 exact⟨tm',h',wr,q1,q2,s2,F2,L2,q3,g1.trans g2,s3⟩
theorem TX.region{id:Nat}{l:List Oper}{Q:Exit→TS→Prop}(hl:ops.toList=l)(hreg:vV l=true)(hr:TO C P ops l s (fun s'=>Q .normal s')):TX C P (.region id ops false) s Q:=by
 intro h0 Fz L tm h hs
 refine XP.region hl hreg ?_
 obtain⟨tm',h',wr,q1,q2,s2,F2,L2,q3,g2,s3⟩:=hr h0 Fz L tm h hs
 exact⟨tm',h',wr,q1,q2,rfl,s2,F2,L2,q3,g2,s3⟩
def TA(C:Ctx)(P:Program)(ops:Array Oper)(ms:List Nat)(l:List Oper)(i:Nat)(np:List Nat)(c:Nat)(s:TS)(Q:TS→Prop):Prop:=
 ∀ h0 Fz L tm h np' c' wr,St h0 Fz L s tm h→wge wr h0.length=true→(c=0→c'=false)∧(∀ j,j∈np'→j∈np)→RD C P h0.length ops ms l i ⟨tm,h,np',c',wr⟩ (fun tm' h'=>∃ s' Fz' L',Q s'∧Grow h0 Fz Fz' h h'∧St h0 Fz' L' s' tm' h')
variable {ms:List Nat} {i:Nat} {np:List Nat} {c:Nat}
theorem TA.nil(hq:Q s):TA C P ops ms [] i np c s Q:=fun _ Fz L _ _ _ _ _ hs hw _=>RD.nil hw ⟨s,Fz,L,hq,Grow.refl _ _,hs⟩
theorem TA.p(hw:twant ops s.tm o=some true)(ho:OpP P o s s')(hq:TA C P ops ms rest (i+1) np c s' Q):TA C P ops ms (o::rest) i np c s Q:=by
 intro h0 Fz L tm h np' c' wr hs hwr hc
 obtain⟨v,h1,s1⟩:=ho.2 h0 Fz L tm h hs
 obtain⟨s2,q1,q2,t2,F2,L2,q3,g2,s3⟩:=hq h0 Fz L _ h np' c' wr s1 hwr hc
 exact RD.pop (cN hs.tmr hw) h1 rfl ⟨s2,q1,q2,t2,F2,L2,q3,g2,s3⟩
theorem TA.skip(hw:twant ops s.tm o=some false)(hq:TA C P ops ms rest (i+1) np c ⟨tput s.tm o.dst (.tuple []),s.hp⟩ Q):TA C P ops ms (o::rest) i np c s Q:=by
 intro h0 Fz L tm h np' c' wr hs hwr hc
 exact RD.skip (cN hs.tmr hw) rfl (hq h0 Fz L _ h np' c' wr (hs.put o.dst (.tuple L [] [] rfl (fun i p x h=>by simp at h))) hwr hc)
theorem TA.g(hw:twant ops s.tm o=some true)(ho:OpG C P o s s')(hq:TA C P ops ms rest (i+1) (i::np) 0 s' Q):TA C P ops ms (o::rest) i np 0 s Q:=by
 intro h0 Fz L tm h np' c' wr hs hwr hc
 obtain rfl:c'=false:=hc.1 rfl
 obtain⟨hn,v,h1,hx,he,F1,L1,g1,s1⟩:=ho h0 Fz L tm h hs
 obtain⟨s2,q1,q2,t2,F2,L2,q3,g2,s3⟩:=hq h0 F1 L1 _ h1 (i::np') false wr s1 hwr ⟨fun _=>rfl,fun j hj=>by
  rcases i6.1 hj with rfl|hj
  ·simp
  ·exact g8 _ (hc.2 j hj)⟩
 exact RD.act (cN hs.tmr hw) hn hx he rfl ⟨s2,q1,q2,t2,F2,L2,q3,g1.trans g2,s3⟩
theorem TA.w(hw:twant ops s.tm o=some true)(ho:OpW C P o s s')(hnp:np.all (fun j=>(aC ms i).testBit j)=true)(hq:TA C P ops ms rest (i+1) (i::np) 1 s' Q):TA C P ops ms (o::rest) i np c s Q:=by
 intro h0 Fz L tm h np' c' wr hs hwr hc
 have hwant:=cN hs.tmr hw
 have hsub:∀ j,j∈i::np'→j∈i::np:=fun j hj=>by
  rcases i6.1 hj with rfl|hj
  ·simp
  ·exact g8 _ (hc.2 j hj)
 have hnp:np'.all (fun j=>(aC ms i).testBit j)=true:=by
  rw[a8] at hnp ⊢
  exact fun j hj=>hnp j (hc.2 j hj)
 rcases ho h0 Fz L tm h hs with⟨v,h1,F1,L1,g1,s1⟩|⟨hn,v,h1,w1,hx,hw1,F1,L1,g1,s1⟩
 ·obtain⟨s2,q1,q2,t2,F2,L2,q3,g2,s3⟩:=hq h0 F1 L1 _ h np' c' wr s1 hwr ⟨fun h=>absurd h (by decide),fun j hj=>g8 _ (hc.2 j hj)⟩
  exact RD.pop hwant h1 rfl ⟨s2,q1,q2,t2,F2,L2,q3,g1.trans g2,s3⟩
 have second:∀ wr',(w1=none∨∃ nm,w1=some nm∧h0.length≤nm)→wr'=wmin wr w1→wge wr' h0.length=true:=by
  rintro wr' (rfl|⟨nm,rfl,hl⟩) rfl
  ·rw[vN];exact hwr
  ·exact jC hwr (by simpa [wge] using hl)
 rcases hw1 with⟨rfl,he⟩|⟨nm,rfl,hl,hlt,hle⟩
 ·cases c' with
  | false =>
   obtain⟨s2,q1,q2,t2,F2,L2,q3,g2,s3⟩:=hq h0 F1 L1 _ h1 (i::np') false wr s1 hwr ⟨fun h=>absurd h (by decide),hsub⟩
   exact RD.act hwant hn hx he rfl ⟨s2,q1,q2,t2,F2,L2,q3,g1.trans g2,s3⟩
  | true =>
   obtain⟨s2,q1,q2,t2,F2,L2,q3,g2,s3⟩:=hq h0 F1 L1 _ h1 (i::np') true (wmin wr none) s1 (second _ (.inl rfl) rfl) ⟨fun h=>absurd h (by decide),hsub⟩
   refine⟨s2,?_,q2,t2,F2,L2,q3,g1.trans g2,s3⟩
   have hle:=he.le
   simp only[aV,bP,if_pos hwant,hn,hx,fA]
   rw[d5 (by simp),b8 ⟨hnp,hle⟩]
   exact q1
 ·obtain⟨s2,q1,q2,t2,F2,L2,q3,g2,s3⟩:=hq h0 F1 L1 _ h1 (i::np') true (wmin wr (some nm)) s1 (second _ (.inr ⟨nm,rfl,hl⟩) rfl) ⟨fun h=>absurd h (by decide),hsub⟩
  refine⟨s2,?_,q2,t2,F2,L2,q3,g1.trans g2,s3⟩
  simp only[aV,bP,if_pos hwant,hn,hx,fA]
  rw[d5 (by simp[wge];omega),b8 ⟨hnp,hle⟩]
  exact q1
variable {dst:Option Tmp} {ty:TypeId} {pos:String} {aft:Array Edge} {gd:Option (Nat×Bool)}
def nC(ops:Array Oper)(j:Nat):Option Tmp:=match ops[j]? with
 | some o=>match o.op with
  | .load _ (.tmp t)=>some t
  | _=>none
 | none=>none
def sV(ops:Array Oper)(j:Nat):Bool:=match ops[j]? with
 | some o=>match o.op with
  | .alloc _=>true
  | .box _ _=>true
  | .buildSlice _ _ _=>true
  | .makeSlice _ _ _=>true
  | _=>false
 | none=>false
def wL(o:Oper):Bool:=match o.op with
 | .mapUpdate _ _ _ _=>false
 | .insert _ _ _ _=>false
 | .call c=>match c.callee with
  | .builtin b=>b != .append
  | _=>true
 | _=>true
def iM(ops:Array Oper):Bool:=(List.range ops.size).all fun i=>(List.range (i+1)).all fun j=>match nC ops j,(ops[i]?).bind (·.dst) with
 | some t,some d=>t != d
 | _,_=>true
def Cc(ops:Array Oper):Bool:=kM ops&&(!eQ ops||iM ops)
theorem pY(h:iM ops=true){i j:Nat}{t:Tmp}(ho:ops[i]?=some o)(hj:j≤i)(hr:nC ops j=some t):o.dst≠some t:=by
 intro hd
 have hi:i<ops.size:=(Array.getElem?_eq_some_iff.1 ho).1
 have h1:=a8.1 (a8.1 h i (List.mem_range.2 hi)) j (List.mem_range.2 (by omega))
 rw[hr,ho] at h1
 simp[hd] at h1
theorem tL{tm:List Value}{d:Option Tmp}{v:Value}{t:Tmp}(h:d≠some t):nth (aN tm d v) t=nth tm t:=by
 cases d with
 | none=>rfl
 | some d=>exact uX (fun e=>h (by rw[e]))
structure FI(ops:Array Oper)(i:Nat)(np:List Nat)(c:Nat)(tm:List Value)(rs:List Rc)(bar:Option Nat):Prop where
 lt:∀ r∈rs,r.i<i
 mem:∀ r∈rs,r.i∈np
 ma:∀ r∈rs,sV ops r.i=true→r.k = .mk
 rd:∀ r∈rs,∀ t,nC ops r.i=some t→∃ n,r.k = .rd n∧aB (nth tm t)=some n
 wr:c=0→∀ r∈rs,wrT r.k=none
 ba:∀ q,bar=some q→c=1∧q∈np∧sV ops q=false∧nC ops q=none
theorem FI.put{rs:List Rc}{bar:Option Nat}{tm:List Value}{v:Value}{np':List Nat}{c c':Nat}(hf:FI ops i np c tm rs bar)(ha:iM ops=true)(ho:ops[i]?=some o)(hn:∀ j∈np,j∈np')(hc:c'=0→c=0)(h1:c=1→c'=1):FI ops (i+1) np' c' (aN tm o.dst v) rs bar where
 lt r hr:=Nat.lt_succ_of_lt (hf.lt r hr)
 mem r hr:=hn _ (hf.mem r hr)
 ma:=hf.ma
 rd r hr t ht:=by
  obtain⟨n,h1,h2⟩:=hf.rd r hr t ht
  exact⟨n,h1,by rw[tL (pY ha ho (Nat.le_of_lt (hf.lt r hr)) ht)];exact h2⟩
 wr h:=hf.wr (hc h)
 ba q hq:=by
  obtain⟨e1,h2,h3⟩:=hf.ba q hq
  exact⟨h1 e1,hn q h2,h3⟩
theorem FI.add{rs:List Rc}{bar:Option Nat}{tm:List Value}{v:Value}{l0 l1:Nat}{k:Tk}{c c':Nat}(hf:FI ops i np c tm rs bar)(ha:iM ops=true)(ho:ops[i]?=some o)(hc:c'=0→c=0∧wrT k=none)(hc1:c=1→c'=1)(hk:sV ops i=true→k = .mk)(hr:∀ t,nC ops i=some t→∃ n,k = .rd n∧aB (nth tm t)=some n) :
 FI ops (i+1) (i::np) c' (aN tm o.dst v) (⟨i,l0,l1,k⟩::rs) bar:=by
 have h1:FI ops (i+1) (i::np) c' (aN tm o.dst v) rs bar:=hf.put ha ho (fun j hj=>g8 _ hj) (fun h=>(hc h).1) hc1
 refine⟨fun r hr=>?_,fun r hr=>?_,fun r hr=>?_,fun r hr'=>?_,fun hf' r hr=>?_,h1.ba⟩
 ·rcases i6.1 hr with rfl|hr
  ·exact Nat.lt_succ_self _
  ·exact h1.lt r hr
 ·rcases i6.1 hr with rfl|hr
  ·simp
  ·exact h1.mem r hr
 ·rcases i6.1 hr with rfl|hr
  ·exact hk
  ·exact h1.ma r hr
 ·rcases i6.1 hr' with rfl|hr'
  ·intro t ht
   obtain⟨n,e1,e2⟩:=hr t ht
   exact⟨n,e1,by rw[tL (pY ha ho (a9 _) ht)];exact e2⟩
  ·exact h1.rd r hr'
 ·rcases i6.1 hr with rfl|hr
  ·exact (hc hf').2
  ·exact h1.wr hf' r hr
def Ci(Fz:Nat→Prop)(L:Nat→LI)(hp:List TB)(idx n:Nat):Prop:=¬ Fz n∧∀ j b,hp[j]?=some b→b.live=true→j≠idx→(L j).nm≠some n
def OwnF(Fz:Nat→Prop)(L:Nat→LI)(hp:List TB)(c:Nat)(rs:List Rc)(N:Nat):Prop:=∀ idx,c=idx+2→∀ r∈rs,∀ n,wrT r.k=some n→Ci Fz L hp idx n∧n<N
theorem OwnF.lo{Fz:Nat→Prop}{L:Nat→LI}{hp:List TB}{c:Nat}{rs:List Rc}{N:Nat}(h:c≤1):OwnF Fz L hp c rs N:=fun _ e=>by omega
def TF(C:Ctx)(P:Program)(ops:Array Oper)(ms:List Nat)(l:List Oper)(i:Nat)(np:List Nat)(c:Nat)(s:TS)(Q:TS→Prop):Prop:=
 ∀ h0 Fz L tm h rs b bar wr,ops.toList.drop i=l→iM ops=true→St h0 Fz L s tm h→wge wr h0.length=true→FI ops i np c tm rs bar→OwnF Fz L s.hp c rs h.length →
  ∃ s2:Fr,aU C P ops ms l i ⟨tm,h,rs,b,bar,wr⟩=some s2∧wge s2.wr h0.length=true∧∃ s' Fz' L',Q s'∧Grow h0 Fz Fz' h s2.h∧St h0 Fz' L' s' s2.tm s2.h
theorem iY{l:List Oper}{i:Nat}(h:ops.toList.drop i=o::l):ops[i]?=some o∧ops.toList.drop (i+1)=l:=by
 have h1:(ops.toList.drop i)[0]?=some o:=by rw[h];rfl
 rw[g7] at h1
 refine⟨by rw[← Array.getElem?_toList];simpa using h1,?_⟩
 rw[← List.drop_drop,h]
 rfl
theorem TF.nil(hq:Q s):TF C P ops ms [] i np c s Q:=fun _ Fz L _ _ _ _ _ _ _ _ hs hw _ _=>⟨_,rfl,hw,s,Fz,L,hq,Grow.refl _ _,hs⟩
theorem TF.p(hw:twant ops s.tm o=some true)(ho:OpP P o s s')(hq:TF C P ops ms rest (i+1) np c s' Q):TF C P ops ms (o::rest) i np c s Q:=by
 intro h0 Fz L tm h rs b bar wr hl ha hs hwr hf how
 obtain⟨hi,hd⟩:=iY hl
 obtain⟨v,h1,s1⟩:=ho.2 h0 Fz L tm h hs
 obtain⟨s2,q1,q2,t2,F2,L2,q3,g2,s3⟩:=hq h0 Fz L _ h rs b bar wr hd ha s1 hwr (hf.put ha hi (fun j hj=>hj) (fun h=>h) (fun h=>h)) (by rw[ho.1];exact how)
 exact⟨s2,by simp only[aU,bN,if_pos (cN hs.tmr hw),h1,q1],q2,t2,F2,L2,q3,g2,s3⟩
theorem TF.skip(hw:twant ops s.tm o=some false)(hq:TF C P ops ms rest (i+1) np c ⟨tput s.tm o.dst (.tuple []),s.hp⟩ Q):TF C P ops ms (o::rest) i np c s Q:=by
 intro h0 Fz L tm h rs b bar wr hl ha hs hwr hf how
 obtain⟨hi,hd⟩:=iY hl
 obtain⟨s2,q1,q2,t2,F2,L2,q3,g2,s3⟩:=hq h0 Fz L _ h rs b bar wr hd ha (hs.put o.dst (.tuple L [] [] rfl (fun i p x h=>by simp at h))) hwr (hf.put ha hi (fun j hj=>hj) (fun h=>h) (fun h=>h)) how
 exact⟨s2,by simp only[aU,bN,cN hs.tmr hw,Bool.false_eq_true,if_false];exact q1,q2,t2,F2,L2,q3,g2,s3⟩
theorem TF.act{h0:List Blk}{Fz Fz1:Nat→Prop}{L L1:Nat→LI}{tm:List Value}{h h1:List Blk}{rs rs':List Rc}{b b':Nat}{bar bar' wr wr' w1:Option Nat}{v:Value}{np':List Nat}{c':Nat}(hw:twant ops s.tm o=some true)(hs:St h0 Fz L s tm h)(hl:ops.toList.drop i=o::rest)(ha:iM ops=true)
 (hp:Rex.pop P (ev tm) o=none) (hx:xop C P (ev tm) o h=some (v,h1,w1)) (hh:dQ ms (aC ms i) i (ev tm) o ⟨tm,h,rs,b,bar,wr⟩ (some (v,h1,w1))=some ⟨aN tm o.dst v,h1,rs',b',bar',wr'⟩) (hwr:wge wr' h0.length=true) (hf:FI ops (i+1) np' c' (aN tm o.dst v) rs' bar') (how:OwnF Fz1 L1 s'.hp c' rs' h1.length) (hq:TF C P ops ms rest (i+1) np' c' s' Q) (g1:Grow h0 Fz Fz1 h h1) (s1:St h0 Fz1 L1 s' (aN tm o.dst v) h1) :
 ∃ s2:Fr,aU C P ops ms (o::rest) i ⟨tm,h,rs,b,bar,wr⟩=some s2∧wge s2.wr h0.length=true∧∃ s' Fz' L',Q s'∧Grow h0 Fz Fz' h s2.h∧St h0 Fz' L' s' s2.tm s2.h:=by
 obtain⟨s2,q1,q2,t2,F2,L2,q3,g2,s3⟩:=hq h0 Fz1 L1 _ h1 rs' b' bar' wr' (iY hl).2 ha s1 hwr hf how
 exact⟨s2,by simp only[aU,bN,if_pos (cN hs.tmr hw),hp,hx,hh,q1],q2,t2,F2,L2,q3,g1.trans g2,s3⟩
theorem hU{ρ:Operand→Value}(ho:ops[i]?=some o)(h:sV ops i=true):touch ρ o=some .mk:=by
 unfold sV at h
 rw[ho] at h
 simp only at h
 split at h<;>rename_i he<;>first|(cases h;done)|simp only[touch,he]
theorem tX{ρ:Operand→Value}{t:Tmp}(ho:ops[i]?=some o)(h:nC ops i=some t):touch ρ o=(aB (ρ (.tmp t))).map .rd:=by
 unfold nC at h
 rw[ho] at h
 simp only at h
 split at h
 ·rename_i he
  obtain rfl:=a6 h
  simp only[touch,he]
 ·cases h
theorem jE{tm:List Value}{hh:List Blk}{r:Value×List Blk×Option Nat}{t:Tmp}(ho:ops[i]?=some o)(h:nC ops i=some t)(hx:xop C P (ev tm) o hh=some r):∃ n,touch (ev tm) o=some (.rd n)∧aB (nth tm t)=some n:=by
 rw[tX ho h]
 unfold nC at h
 rw[ho] at h
 simp only at h
 split at h
 ·rename_i he
  obtain rfl:=a6 h
  simp only[xop,hop,he] at hx
  have hev:∀ t,ev tm (.tmp t)=nth tm t:=fun _=>rfl
  rw[hev] at hx ⊢
  split at hx
  ·rename_i r' hr
   split at hr
   ·rename_i hz;rw[hz];exact⟨_,rfl,rfl⟩
   ·cases hr
  ·cases hx
 ·cases h
theorem zZ{ρ:Operand→Value}{n n2:Nat}(h:wL o=true):touch ρ o≠some (.ap n n2):=by
 intro ht
 unfold wL at h
 unfold touch at ht
 split at h<;>rename_i he<;>try (cases h;done)
 ·rw[he] at ht
  simp only at ht
  split at h
  ·rename_i hb
   rw[hb] at ht
   simp only at ht
   rw[d5 (by simpa using h)] at ht
   cases ht
  ·rename_i hb
   split at ht
   ·rename_i b hb';exact hb b hb'
   ·cases ht
 ·split at ht<;>rename_i he2<;>first|(cases ht;done)|(cases hpn:aB _<;>rw[hpn] at ht<;>cases ht;done)|(split at ht<;>cases ht;done)|skip
  all_goals first|(rename_i c;exact absurd he2 (by rename_i h3;exact h3 _))|(simp_all)
theorem zF{ρ:Operand→Value}{n:Nat}{C:Ctx}{hh:List Blk}{v:Value}{h1:List Blk}(h:wL o=true)(ht:touch ρ o=some (.wr n)):xop C P ρ o hh≠some (v,h1,none):=by
 intro hx
 obtain⟨dst,op,ty,pos,aft,gd⟩:=o
 cases op<;>simp only[wL,touch,xop,hop] at h ht hx
 case store t a x =>
  split at hx
  ·rename_i r hr
   split at hr
   ·rename_i hs
    cases hv:dJ P t hh _ _ (ρ x) with
    | none=>rw[hv] at hr;cases hr
    | some h' =>
     rw[hv] at hr
     obtain rfl:=a6 hr
     cases hx
   ·cases hr
  ·cases hx
 case mapUpdate=>cases h
 case insert=>cases h
 case call c =>
  split at ht
  ·split at ht
   ·rename_i b hb hap
    subst hap
    split at h
    ·rename_i b' hb';rw[hb] at hb';cases hb';simp at h
    ·rename_i hb';exact hb' _ hb
   ·cases ht
  ·cases ht
 all_goals first
  | (cases ht;done)
  | (cases hp:aB _<;>rw[hp] at ht<;>cases ht;done)
  | (split at ht<;>cases ht;done)
def noT(o:Oper)(s:TS):Prop:=wL o=true∨∀ Fz h L vm,VLs Fz h L s.tm vm→(∀ k,touch (ev vm) o≠some (.wr k))∧∀ k k2,touch (ev vm) o≠some (.ap k k2)
theorem uN{tm:List Value}{h h1:List Blk}{rs:List Rc}{b:Nat}{wr:Option Nat}{v:Value}{m:Nat}(hn1:∀ k,touch (ev tm) o≠some (.wr k))(hn2:∀ k k2,touch (ev tm) o≠some (.ap k k2))(ha:iM ops=true)(ho:ops[i]?=some o)(hx:xop C P (ev tm) o h=some (v,h1,none))(he:Ext h h1)(hf:FI ops i np 0 tm rs none) :
 ∃ rs',dQ ms m i (ev tm) o ⟨tm,h,rs,b,none,wr⟩ (some (v,h1,none))=some ⟨aN tm o.dst v,h1,rs',b,none,wr⟩∧FI ops (i+1) (i::np) 0 (aN tm o.dst v) rs' none:=by
 unfold dQ
 simp only[iR,if_true]
 have hadd:∀ k:Tk,wrT k=none→touch (ev tm) o=some k∨(k = .all∧touch (ev tm) o=none)→FI ops (i+1) (i::np) 0 (aN tm o.dst v) (⟨i,h.length,h1.length,k⟩::rs) none:=by
  intro k hk ht
  refine hf.add ha ho (fun _=>⟨rfl,hk⟩) (fun h=>h) (fun hm=>?_) (fun t hr=>?_)
  ·have:=hU (ρ:=ev tm) ho hm
   rcases ht with ht|⟨_,ht⟩<;>rw[ht] at this<;>first|exact a6 this|cases this
  ·obtain⟨n,e1,e2⟩:=jE ho hr hx
   rcases ht with ht|⟨_,ht⟩<;>rw[ht] at e1
   ·exact⟨n,a6 e1,e2⟩
   ·cases e1
 have hex:h++h1.drop h.length=h1:=by obtain⟨t,rfl⟩:=he;simp
 split
 ·rename_i ht
  exact⟨_,rfl,hadd _ rfl (.inl ht)⟩
 ·rename_i n ht
  rw[b8 (show rS m rs n=true from a8.2 fun r hr=>by rw[hf.wr rfl r hr];rfl)]
  exact⟨_,rfl,hadd _ rfl (.inl ht)⟩
 ·rename_i n ht
  exact absurd ht (hn1 n)
 ·rename_i n n2 ht
  exact absurd ht (hn2 n n2)
 ·rename_i e1 e2 e3 e4
  have ht:touch (ev tm) o=none∨touch (ev tm) o=some .all:=by
   cases hk:touch (ev tm) o with
   | none=>exact .inl rfl
   | some k=>cases k with
    | mk=>exact absurd hk e1
    | all=>exact .inr rfl
    | rd n=>exact absurd hk (e2 n)
    | wr n=>exact absurd hk (e3 n)
    | ap n n2=>exact absurd hk (e4 n n2)
  rw[b8 ⟨rfl,he.le,show yD m i rs b=true from a8.2 fun r hr=>by rw[hf.wr rfl r hr]⟩,hex]
  refine⟨_,rfl,hadd .all rfl ?_⟩
  rcases ht with ht|ht
  ·exact .inr ⟨rfl,ht⟩
  ·exact .inl ht
theorem uS{tm:List Value}{h h0 h1:List Blk}{rs:List Rc}{b:Nat}{wr bar w1:Option Nat}{v:Value}{m:Nat}(ha:iM ops=true)(ho:ops[i]?=some o)(hx:xop C P (ev tm) o h=some (v,h1,w1))(hw1:(w1=none∧Ext h h1)∨∃ nm,w1=some nm∧h0.length≤nm∧nm<h.length∧h.length≤h1.length)(hnp:np.all (fun j=>m.testBit j)=true)(hf:FI ops i np c tm rs bar)(hwr:wge wr h0.length=true) :
 ∃ rs' b' bar' wr',dQ ms m i (ev tm) o ⟨tm,h,rs,b,bar,wr⟩ (some (v,h1,w1))=some ⟨aN tm o.dst v,h1,rs',b',bar',wr'⟩∧wge wr' h0.length=true∧FI ops (i+1) (i::np) 1 (aN tm o.dst v) rs' bar':=by
 have hmem:∀ j∈np,m.testBit j=true:=a8.1 hnp
 have hrs:∀ r∈rs,m.testBit r.i=true:=fun r hr=>hmem _ (hf.mem r hr)
 have hwm:wge (wmin wr w1) h0.length=true:=by
  refine jC hwr ?_
  rcases hw1 with⟨rfl,_⟩|⟨nm,rfl,hl,_⟩
  ·rfl
  ·simpa [wge] using hl
 have hle:h.length≤h1.length:=by
  rcases hw1 with⟨_,he⟩|⟨_,_,_,_,hle⟩
  ·exact he.le
  ·exact hle
 have hbar:iR m bar=true:=by
  cases hb:bar with
  | none=>rfl
  | some q=>exact hmem q (hf.ba q hb).2.1
 unfold dQ
 simp only[hbar,if_true]
 have hadd:∀(k:Tk) (a z:Nat),touch (ev tm) o=some k∨(k = .all∧touch (ev tm) o=none)→FI ops (i+1) (i::np) 1 (aN tm o.dst v) (⟨i,a,z,k⟩::rs) bar:=by
  intro k a z ht
  refine hf.add ha ho (fun h=>absurd h (by decide)) (fun _=>rfl) (fun hm=>?_) (fun t hr=>?_)
  ·have:=hU (ρ:=ev tm) ho hm
   rcases ht with ht|⟨_,ht⟩<;>rw[ht] at this<;>first|exact a6 this|cases this
  ·obtain⟨n,e1,e2⟩:=jE ho hr hx
   rcases ht with ht|⟨_,ht⟩<;>rw[ht] at e1
   ·exact⟨n,a6 e1,e2⟩
   ·cases e1
 split
 ·rename_i ht
  exact⟨_,_,_,_,rfl,hwr,hadd _ _ _ (.inl ht)⟩
 ·rename_i n ht
  rw[b8 (show rS m rs n=true from a8.2 fun r hr=>by simp[hrs r hr])]
  exact⟨_,_,_,_,rfl,hwr,hadd _ _ _ (.inl ht)⟩
 ·rename_i n ht
  rw[b8 (show sB ms m rs b n=true from a8.2 fun r hr=>by split<;>simp[hrs r hr])]
  exact⟨_,_,_,_,rfl,hwm,hadd _ _ _ (.inl ht)⟩
 ·rename_i n n2 ht
  rw[b8 ⟨show sB ms m rs b n=true from a8.2 fun r hr=>by split<;>simp[hrs r hr],show rS m rs n2=true from a8.2 fun r hr=>by simp[hrs r hr]⟩]
  exact⟨_,_,_,_,rfl,hwm,hadd _ _ _ (.inl ht)⟩
 ·rename_i e1 e2 e3 e4
  have ht:touch (ev tm) o=none∨touch (ev tm) o=some .all:=by
   cases hk:touch (ev tm) o with
   | none=>exact .inl rfl
   | some k=>cases k with
    | mk=>exact absurd hk e1
    | all=>exact .inr rfl
    | rd n=>exact absurd hk (e2 n)
    | wr n=>exact absurd hk (e3 n)
    | ap n n2=>exact absurd hk (e4 n n2)
  split
  ·rename_i hc
   have hex:h++h1.drop h.length=h1:=by
    rcases hw1 with⟨_,t,rfl⟩|⟨nm,rfl,_,hlt,_⟩
    ·simp
    ·have:=hc.1;simp[wge] at this;omega
   rw[hex]
   refine⟨_,_,_,_,rfl,hwr,hadd .all _ _ ?_⟩
   rcases ht with ht|ht
   ·exact .inr ⟨rfl,ht⟩
   ·exact .inl ht
  ·rw[b8 ⟨a8.2 hrs,hle⟩]
   refine⟨_,_,_,_,rfl,hwm,⟨fun r hr=>by simp at hr,fun r hr=>by simp at hr,fun r hr=>by simp at hr,fun r hr=>by simp at hr,fun _ r hr=>by simp at hr,fun q hq=>?_⟩⟩
   obtain rfl:=a6 hq
   refine⟨rfl,by simp,?_,?_⟩
   ·cases hm:sV ops i with
    | false=>rfl
    | true=>exact absurd (hU (ρ:=ev tm) ho hm) e1
   ·cases hr:nC ops i with
    | none=>rfl
    | some t =>
     obtain⟨n,e,_⟩:=jE ho hr hx
     exact absurd e (e2 n)
theorem TF.m(hw:twant ops s.tm o=some true)(hna:noT o s)(ho:OpM C P o s s')(hq:TF C P ops ms rest (i+1) (i::np) 0 s' Q):TF C P ops ms (o::rest) i np 0 s Q:=by
 intro h0 Fz L tm h rs b bar wr hl ha hs hwr hf how
 obtain⟨hi,hd⟩:=iY hl
 rcases ho h0 Fz L tm h hs with⟨v,h1,F1,L1,g1,s1⟩|⟨hn,v,h1,hx,he,F1,L1,g1,s1⟩
 ·obtain⟨s2,q1,q2,t2,F2,L2,q3,g2,s3⟩:=hq h0 F1 L1 _ h rs b bar wr hd ha s1 hwr (hf.put ha hi (fun j hj=>g8 _ hj) (fun h=>h) (fun h=>h)) (.lo (by decide))
  exact⟨s2,by simp only[aU,bN,if_pos (cN hs.tmr hw),h1,q1],q2,t2,F2,L2,q3,g1.trans g2,s3⟩
 ·obtain rfl : bar = none := by
    cases hb:bar with
    | none=>rfl
    | some q=>have:=(hf.ba q hb).1;cases this
  have hn1:∀ k,touch (ev tm) o≠some (.wr k):=fun k=>by
   rcases hna with h|h
   ·exact fun ht=>zF h ht hx
   ·exact (h Fz _ L tm hs.tmr).1 k
  have hn2:∀ k k2,touch (ev tm) o≠some (.ap k k2):=fun k k2=>by
   rcases hna with h|h
   ·exact zZ h
   ·exact (h Fz _ L tm hs.tmr).2 k k2
  obtain⟨rs',e1,e2⟩:=uN (ms:=ms) (b:=b) (wr:=wr) (m:=aC ms i) hn1 hn2 ha hi hx he hf
  exact TF.act hw hs hl ha hn hx e1 hwr e2 (.lo (by decide)) hq g1 s1
theorem TF.w(hw:twant ops s.tm o=some true)(ho:OpW C P o s s')(hnp:np.all (fun j=>(aC ms i).testBit j)=true)(hq:TF C P ops ms rest (i+1) (i::np) 1 s' Q):TF C P ops ms (o::rest) i np c s Q:=by
 intro h0 Fz L tm h rs b bar wr hl ha hs hwr hf how
 obtain⟨hi,hd⟩:=iY hl
 rcases ho h0 Fz L tm h hs with⟨v,h1,F1,L1,g1,s1⟩|⟨hn,v,h1,w1,hx,hw1,F1,L1,g1,s1⟩
 ·obtain⟨s2,q1,q2,t2,F2,L2,q3,g2,s3⟩:=hq h0 F1 L1 _ h rs b bar wr hd ha s1 hwr (hf.put ha hi (fun j hj=>g8 _ hj) (fun h=>absurd h (by decide)) (fun _=>rfl)) (.lo (by decide))
  exact⟨s2,by simp only[aU,bN,if_pos (cN hs.tmr hw),h1,q1],q2,t2,F2,L2,q3,g1.trans g2,s3⟩
 ·obtain⟨rs',b',bar',wr',e1,e2,e3⟩:=uS (ms:=ms) (b:=b) (m:=aC ms i) ha hi hx hw1 hnp hf hwr
  exact TF.act hw hs hl ha hn hx e1 e2 e3 (.lo (by decide)) hq g1 s1
def OpA(C:Ctx)(P:Program)(o:Oper)(s s':TS)(n:Nat):Prop:=
 ∀ h0 Fz L tm h,St h0 Fz L s tm h→(∃ v,Rex.pop P (ev tm) o=some v∧∃ L',(∀ j,j≠n→L' j=L j)∧Grow h0 Fz Fz h h∧St h0 Fz L' s' (aN tm o.dst v) h) ∨
  Rex.pop P (ev tm) o=none∧(∀ k,touch (ev tm) o≠some (.wr k))∧(∀ k k2,touch (ev tm) o=some (.ap k k2)→(L n).nm=some k)∧∃ v h1 w1,xop C P (ev tm) o h=some (v,h1,w1)∧((w1=none∧Ext h h1)∨∃ nm,w1=some nm∧h0.length≤nm∧nm<h.length∧h.length≤h1.length) ∧
   (w1=none∨∃ k k2,touch (ev tm) o=some (.ap k k2))∧∃ L',(∀ j,j≠n→L' j=L j)∧Grow h0 Fz Fz h h1∧St h0 Fz L' s' (aN tm o.dst v) h1
theorem OpA.toW{n:Nat}(h:OpA C P o s s' n):OpW C P o s s':=by
 intro h0 Fz L tm hh hs
 rcases h h0 Fz L tm hh hs with⟨v,h1,L',-,h2,h3⟩|⟨h1,-,-,v,h2,w1,h3,h4,-,L',-,h5,h6⟩
 ·exact .inl ⟨v,h1,Fz,L',h2,h3⟩
 ·exact .inr ⟨h1,v,h2,w1,h3,h4,Fz,L',h5,h6⟩
theorem St.own{h0 h:List Blk}{Fz:Nat→Prop}{L:Nat→LI}{tm:List Value}{j nm:Nat}{b:TB}(hs:St h0 Fz L s tm h)(hb:s.hp[j]?=some b)(hv:b.live=true)(hn:(L j).nm=some nm):¬ Fz nm:=by
 have hB:=hs.blk j b hb
 cases b with
 | dead=>cases hv
 | rows es rows =>
  obtain⟨-,-,-,-,h5⟩:=hB
  rcases h5 with h5|⟨nm',cs,e1,-,e3,-⟩
  ·rw[h5.1] at hn;cases hn
  ·rw[e1] at hn;obtain rfl:=a6 hn;exact e3
 | var row =>
  obtain⟨-,nm',cs,e1,-,e3,-⟩:=hB
  rw[e1] at hn;obtain rfl:=a6 hn;exact e3
 | tbl row =>
  obtain⟨-,nm',cs,e1,-,e3,-⟩:=hB
  rw[e1] at hn;obtain rfl:=a6 hn;exact e3
def apart(hp:List TB)(j:Nat):TV→Bool
 | .fptr _ _ _=>true
 | .lptr k _ _=>k != j&&(match hp[k]? with|some b=>b.live|none=>false)
 | _=>false
theorem zE{h0 h:List Blk}{Fz:Nat→Prop}{L:Nat→LI}{tm:List Value}{j nm n:Nat}{b:TB}{p:TV}{x:Value}(hs:St h0 Fz L s tm h)(hb:s.hp[j]?=some b)(hv:b.live=true)(hn:(L j).nm=some nm)(hp:VL Fz h L p x)(hx:aB x=some n)(ha:apart s.hp j p=true):n≠nm:=by
 rintro rfl
 cases hp<;>simp only[apart] at ha<;>try (cases ha;done)
 ·simp only[aB] at hx
  obtain rfl:=a6 hx
  exact hs.own hb hv hn (by assumption)
 ·rename_i k r o nm' ok hnk
  simp only[aB] at hx
  obtain rfl:=a6 hx
  rw[Bool.and_eq_true] at ha
  cases hk:s.hp[k]? with
  | none=>rw[hk] at ha;cases ha.2
  | some b' =>
   rw[hk] at ha
   have:=hs.inj k j b' b _ hk hb ha.2 hv hnk hn
   simp[this] at ha
def sK(ops:Array Oper)(m:Nat)(s:TS)(j:Nat)(np:List Nat):Bool:=np.all fun k=>m.testBit k||sV ops k||(match nC ops k with|some t=>apart s.hp j (tnth s.tm t)|none=>false)
theorem TF.st{t:TypeId}{a x:Operand}{j r ob:Nat}{hp':List TB}(hw:twant ops s.tm { dst:=none,op:=.store t a x,type:=ty,pos:=pos,after:=aft,guard:=gd }=some true)(ha:tev s.tm a = .lptr j r ob)(ho:OpW C P { dst:=none,op:=.store t a x,type:=ty,pos:=pos,after:=aft,guard:=gd } s ⟨s.tm,hp'⟩)(hlv:(match s.hp[j]? with | some b=>b.live | none=>false)=true)
 (hnp:sK ops (aC ms i) s j np=true) (hq:TF C P ops ms rest (i+1) (i::np) 1 ⟨s.tm,hp'⟩ Q):TF C P ops ms ({ dst:=none,op:=.store t a x,type:=ty,pos:=pos,after:=aft,guard:=gd }::rest) i np c s Q:=by
 intro h0 Fz L tm h rs b bar wr hl hak hs hwr hf how
 obtain⟨hi,hd⟩:=iY hl
 have hbe:=a8.1 hnp
 have hbar:iR (aC ms i) bar=true:=by
  cases hb:bar with
  | none=>rfl
  | some q =>
   obtain⟨-,h1,h2,h3⟩:=hf.ba q hb
   have:=hbe q h1
   simpa [h2,h3,iR] using this
 rcases ho h0 Fz L tm h hs with⟨v,h1,F1,L1,g1,s1⟩|⟨hn,v,h1,w1,hx,hw1,F1,L1,g1,s1⟩
 ·cases h1
 obtain⟨nm,hnm,hav⟩:∃ nm,(L j).nm=some nm∧∃ ofs,ev tm a = .pointer (some ⟨nm,ofs,none⟩):=by
  have h1:=bQ hs.fz hs.tmr a
  rw[ha] at h1
  generalize ev tm a=y at *
  cases h1 with
  | lptr _ _ _ _ nm ok hn=>exact⟨nm,hn,_,rfl⟩
 obtain⟨ofs,hav⟩:=hav
 cases hbj:s.hp[j]? with
 | none=>rw[hbj] at hlv;cases hlv
 | some bj =>
 rw[hbj] at hlv
 have ht:touch (ev tm) { dst:=none,op:=.store t a x,type:=ty,pos:=pos,after:=aft,guard:=gd }=some (.wr nm):=by simp only[touch,hav,aB,Option.map_some]
 have hwm:wge (wmin wr w1) h0.length=true:=by
  refine jC hwr ?_
  rcases hw1 with⟨rfl,_⟩|⟨nm,rfl,hl,_⟩
  ·rfl
  ·simpa [wge] using hl
 have hok:sB ms (aC ms i) rs b nm=true:=by
  refine a8.2 fun r hr=>?_
  have h1:=hbe _ (hf.mem r hr)
  cases hm:sV ops r.i with
  | true=>rw[hf.ma r hr hm];simp[eF]
  | false =>
   cases hrd:nC ops r.i with
   | none =>
    have:(aC ms i).testBit r.i=true:=by simpa [hm,hrd] using h1
    split<;>simp[this]
   | some t' =>
    obtain⟨n,e1,e2⟩:=hf.rd r hr t' hrd
    rw[e1]
    simp only[eF]
    cases hb:(aC ms i).testBit r.i with
    | true=>simp
    | false =>
     have hap:apart s.hp j (tnth s.tm t')=true:=by simpa [hm,hrd,hb] using h1
     have hvl:=bQ hs.fz hs.tmr (.tmp t')
     have:=zE hs hbj hlv hnm hvl e2 hap
     simp[this]
 refine TF.act (rs':=⟨i,h.length,h.length,.wr nm⟩::rs) (b':=b) (bar':=bar) (wr':=wmin wr w1) (np':=i::np) (c':=1) hw hs hl hak hn hx ?_ hwm ?_ (.lo (by decide)) hq g1 s1
 ·unfold dQ
  simp only[hbar,if_true,ht,hok]
 ·refine hf.add hak hi (fun h=>absurd h (by decide)) (fun _=>rfl) (fun hm=>?_) (fun t hr=>?_)
  ·have:=hU (ρ:=ev tm) hi hm
   rw[ht] at this
   cases this
  ·obtain⟨n,e,_⟩:=jE hi hr hx
   rw[ht] at e
   cases e
def OpGs(C:Ctx)(P:Program)(o:Oper)(s s':TS):Prop:=
 ∀ h0 Fz L tm h,St h0 Fz L s tm h→Rex.pop P (ev tm) o=none∧touch (ev tm) o=none∧∃ v h1,xop C P (ev tm) o h=some (v,h1,none)∧Ext h h1∧∃ Fz' L',Grow h0 Fz Fz' h h1∧St h0 Fz' L' s' (aN tm o.dst v) h1 ∧
  (∀ n,Fz' n→Fz n∨h.length≤n)∧∀ j b nm,s'.hp[j]?=some b→b.live=true→(L' j).nm=some nm→nm<h.length→s.hp[j]?=some b∧(L j).nm=some nm
theorem OpGs.toG(h:OpGs C P o s s'):OpG C P o s s':=by
 intro h0 Fz L tm hh hs
 obtain⟨h1,-,v,h2,h3,h4,F',L',h5,h6,-,-⟩:=h h0 Fz L tm hh hs
 exact⟨h1,v,h2,h3,h4,F',L',h5,h6⟩
def TD(C:Ctx)(P:Program)(ops:Array Oper)(ms:List Nat)(l:List Oper)(i:Nat)(np:List Nat)(c:Nat)(s:TS)(Q:TS→Prop):Prop:=
 (eQ ops=false→TA C P ops ms l i np c s Q)∧(eQ ops=true→TF C P ops ms l i np c s Q)
theorem TD.nil(hq:Q s):TD C P ops ms [] i np c s Q:=⟨fun _=>TA.nil hq,fun _=>TF.nil hq⟩
theorem TD.p(hw:twant ops s.tm o=some true)(ho:OpP P o s s')(hq:TD C P ops ms rest (i+1) np c s' Q):TD C P ops ms (o::rest) i np c s Q:=⟨fun h=>TA.p hw ho (hq.1 h),fun h=>TF.p hw ho (hq.2 h)⟩
theorem TD.skip(hw:twant ops s.tm o=some false)(hq:TD C P ops ms rest (i+1) np c ⟨tput s.tm o.dst (.tuple []),s.hp⟩ Q):TD C P ops ms (o::rest) i np c s Q:=⟨fun h=>TA.skip hw (hq.1 h),fun h=>TF.skip hw (hq.2 h)⟩
theorem TD.g(hw:twant ops s.tm o=some true)(ho:OpG C P o s s')(hq:TD C P ops ms rest (i+1) (i::np) 0 s' Q)(hna:wL o=true:=by rfl):TD C P ops ms (o::rest) i np 0 s Q:=⟨fun h=>TA.g hw ho (hq.1 h),fun h=>TF.m hw (.inl hna) (fun h0 Fz L tm h hs=>.inr (ho h0 Fz L tm h hs)) (hq.2 h)⟩
theorem TD.w(hw:twant ops s.tm o=some true)(ho:OpW C P o s s')(hnp:np.all (fun j=>(aC ms i).testBit j)=true)(hq:TD C P ops ms rest (i+1) (i::np) 1 s' Q):TD C P ops ms (o::rest) i np c s Q:=⟨fun h=>TA.w hw ho hnp (hq.1 h),fun h=>TF.w hw ho hnp (hq.2 h)⟩
def okW(ops:Array Oper)(ms:List Nat)(i:Nat)(s:TS)(j:Nat)(np:List Nat):Bool:=
 np.all (fun k=>(aC ms i).testBit k)||((match s.hp[j]? with|some b=>b.live|none=>false)&&(sK ops (aC ms i) s j np&&eQ ops))
theorem TD.wF{t:TypeId}{a x:Operand}{j r ob:Nat}{hp':List TB}(hw:twant ops s.tm { dst:=none,op:=.store t a x,type:=ty,pos:=pos,after:=aft,guard:=gd }=some true)(ha:tev s.tm a = .lptr j r ob)(ho:OpW C P { dst:=none,op:=.store t a x,type:=ty,pos:=pos,after:=aft,guard:=gd } s ⟨s.tm,hp'⟩)(hnp:okW ops ms i s j np=true)
 (hq:TD C P ops ms rest (i+1) (i::np) 1 ⟨s.tm,hp'⟩ Q):TD C P ops ms ({ dst:=none,op:=.store t a x,type:=ty,pos:=pos,after:=aft,guard:=gd }::rest) i np c s Q:=by
 unfold okW at hnp
 rcases (Bool.or_eq_true _ _).mp hnp with h|h
 ·exact TD.w hw ho h hq
 ·simp only[Bool.and_eq_true] at h
  obtain⟨h1,h2,h3⟩:=h
  refine⟨fun h=>?_,fun h=>TF.st hw ha ho h1 h2 (hq.2 h)⟩
  rw[h3] at h
  cases h
theorem TX.drawn{id:Nat}{l:List Oper}{Q:Exit→TS→Prop}(hok:Cc ops=true)(hl:ops.toList=l)(hm:masks l []=ms)(hr:TD C P ops ms l 0 [] 0 s (fun s'=>Q .normal s')):TX C P (.region id ops true) s Q:=by
 intro h0 Fz L tm h hs
 unfold Cc at hok
 rw[Bool.and_eq_true] at hok
 cases hnf:eQ ops with
 | false =>
  refine XP.drawn (by simp only[kA,hok.1,hnf];rfl) hl hm ?_
  obtain⟨s2,q1,q2,t2,F2,L2,q3,g2,s3⟩:=hr.1 hnf h0 Fz L tm h [] false none hs rfl ⟨fun _=>rfl,fun j hj=>hj⟩
  exact⟨s2,q1,q2,rfl,t2,F2,L2,q3,g2,s3⟩
 | true =>
  have h2:=hok.2
  rw[hnf,Bool.not_true,Bool.false_or] at h2
  obtain⟨s2,q1,q2,q3⟩:=hr.2 hnf h0 Fz L tm h [] h.length none none (by rw[List.drop_zero];exact hl) h2 hs rfl ⟨fun r hr=>by simp at hr,fun r hr=>by simp at hr,fun r hr=>by simp at hr,fun r hr=>by simp at hr,fun _ r hr=>by simp at hr,fun q hq=>by cases hq⟩ (.lo (by decide))
  subst hl
  subst hm
  exact XP.draw (tm':=s2.tm) (h':=s2.h) (wr:=s2.wr) (sH (by simp only[dY,oG,hok.1,hnf,Bool.and_self,if_true,q1,Option.map_some])) q2 ⟨rfl,q3⟩
def gF(i:Nat):Nat→TV→Bool
 | 0,_=>false
 | d+1,p=>match p with
  | .lsl n _ _=>n==i
  | .agg l=>l.any (gF i d)
  | .tuple l=>l.any (gF i d)
  | _=>false
def cov(r:TS):Bool:=match r.tm with
 | [p]=>(List.range r.hp.length).all fun i=>gF i 4 p
 | _=>false
theorem pZ{Fz:Nat→Prop}{h:List Blk}{L:Nat→LI}{i:Nat}:∀(d k:Nat) {p:TV} {x:Value},gF i d p=true→VL Fz h L p x→clean k x=true→(L i).ok=true∧(L i).nm=none
 | 0,k,p,x,hr,hp,hc=>by simp[gF] at hr
 | d+1,0,p,x,hr,hp,hc=>by simp[clean] at hc
 | d+1,k+1,p,x,hr,hp,hc=>by
  have key:∀(l:List TV) (l':List Value),l'.length=l.length→l.any (gF i d)=true→l'.all (clean k)=true→(∀(i:Nat) p x,l[i]?=some p→l'[i]?=some x→VL Fz h L p x)→(L i).ok=true∧(L i).nm=none:=by
   intro l l' hl hany hall ha
   obtain⟨p,hp,hr⟩:=List.any_eq_true.1 hany
   obtain⟨j,hj⟩:=i4.1 hp
   have hlt:=(a7.1 hj).1
   have hx:l'[j]?=some l'[j]:=b5 (by omega)
   exact pZ d k hr (ha j _ _ hj hx) (by simpa using a8.1 hall _ (b6 hx))
  cases hp with
  | agg _ l l' hl ha=>exact key l l' hl (by simpa [gF] using hr) (by simpa [clean] using hc) ha
  | tuple _ l l' hl ha=>exact key l l' hl (by simpa [gF] using hr) (by simpa [clean] using hc) ha
  | lslnil _ n ok hn =>
   obtain rfl:n=i:=by simpa [gF] using hr
   exact⟨ok,hn⟩
  | lsl _ n o len nm ok hn hle=>simp[clean] at hc
  | _=>simp[gF] at hr
theorem VL.ofClean{Fz Fz':Nat→Prop}{h h':List Blk}{L L':Nat→LI}(hL:∀ n,(L n).ok=true→(L n).nm=none→(L' n).ok=true∧(L' n).nm=none):∀(k:Nat) {p:TV} {x:Value},clean k x=true→VL Fz h L p x→VL Fz' h' L' p x:=by
 intro k
 induction k generalizing L L' with
 | zero=>intro p x hc;simp[clean] at hc
 | succ k ih =>
  intro p x hc hp
  cases hp with
  | Z _ x=>exact .Z L' x
  | v _ x hx=>exact .v L' x hx
  | agg _ l l' hl ha =>
   have hc':l'.all (clean k)=true:=by simpa [clean] using hc
   exact .agg L' l l' hl fun i p x h1 h2=>ih hL (by simpa using a8.1 hc' x (b6 h2)) (ha i p x h1 h2)
  | tuple _ l l' hl ha =>
   have hc':l'.all (clean k)=true:=by simpa [clean] using hc
   exact .tuple L' l l' hl fun i p x h1 h2=>ih hL (by simpa using a8.1 hc' x (b6 h2)) (ha i p x h1 h2)
  | func _ f a b a' b' la ha lb hb =>
   have hc':a'.all (clean k)=true∧b'.all (clean k)=true:=by simpa [clean,Bool.and_eq_true] using hc
   have hno:∀ n,(noL n).ok=true→(noL n).nm=none→(noL n).ok=true∧(noL n).nm=none:=fun n h=>by simp[noL] at h
   exact .func L' f a b a' b' la (fun i p x h1 h2=>ih hno (by simpa using a8.1 hc'.1 x (b6 h2)) (ha i p x h1 h2)) lb
    (fun i p x h1 h2=>ih hno (by simpa using a8.1 hc'.2 x (b6 h2)) (hb i p x h1 h2))
  | nillist _ es=>exact .nillist L' es
  | vague _ es=>exact .vague L' es
  | lslnil _ n ok hn =>
   obtain⟨h1,h2⟩:=hL n ok hn
   exact .lslnil L' n h1 h2
  | list=>simp[clean] at hc
  | fptr=>simp[clean] at hc
  | lptr=>simp[clean] at hc
  | lmap=>simp[clean] at hc
  | lsl=>simp[clean] at hc
theorem St.clean{h0 h:List Blk}{Fz:Nat→Prop}{L:Nat→LI}{r:TS}{v:Value}(hs:St h0 Fz L r [v] h)(hc:aP v=true)(hr:cov r=true){Fz0:Nat→Prop}(h00:FZ Fz0 h0):∃ L',St h0 Fz0 L' r [v] h0:=by
 obtain⟨tm,hp⟩:=r
 unfold cov at hr
 split at hr
 ·rename_i p htm
  simp only at htm
  subst htm
  simp only at hr
  have hv:VL Fz h L p v:=hs.tmr.at' 0 p v rfl rfl
  have hnone:∀ i,i<hp.length→(L i).ok=true∧(L i).nm=none:=fun i hi=>pZ 4 depth (by
   simpa using a8.1 hr i (by simpa using hi)) hv hc
  refine⟨L,⟨VLs.cons (hv.ofClean (fun n h1 h2=>⟨h1,h2⟩) depth hc) VLs.nil,fun n b hb=>?_,hs.dom,fun n n' b b' nm hb hb' _ _ e1 e2=>?_,h00,Ext.refl _⟩⟩
  ·have hlt:=(a7.1 hb).1
   have hB:=hs.blk n b hb
   obtain⟨h1,h2⟩:=hnone n hlt
   cases b with
   | dead=>trivial
   | rows es rows =>
    obtain⟨q1,q2,q3,q4,q5⟩:=hB
    rcases q5 with q5|⟨nm,cs,e1,_⟩
    ·exact⟨q1,q2,q3,q4,.inl q5⟩
    ·rw[h2] at e1;cases e1
   | var row =>
    obtain⟨q1,nm,cs,e1,_⟩:=hB
    rw[h2] at e1;cases e1
   | tbl row =>
    obtain⟨q1,nm,cs,e1,_⟩:=hB
    rw[h2] at e1;cases e1
  ·have:=hnone n (a7.1 hb).1
   rw[this.2] at e1;cases e1
 ·cases hr
def tres(load:TypeId→TV→Option TV)(tm:List TV):ResultVar→Option TV
 | .tmp t=>some (tnth tm t)
 | .cell a t=>load t (tnth tm a)
def yW:List TV→TV
 | [p]=>p
 | ps=>.tuple ps
theorem wD{Fz:Nat→Prop}{h:List Blk}{L:Nat→LI}{ps:List TV}{vs:List Value}(hs:VLs Fz h L ps vs):VL Fz h L (yW ps) (bR vs):=by
 have hl:=hs.len
 match ps,vs,hl,hs with
 | [p],[v],_,hs=>exact hs.at' 0 p v rfl rfl
 | [],[],_,hs=>exact .tuple' hs
 | a::b::l,a'::b'::l',_,hs=>exact .tuple' hs
end
end Go.Rex
namespace Go.Rex
open Go.RowKit
def okT(P:Program)(t:TypeId):Bool:=(P.info? t).isSome
def cK(P:Program)(t:TypeId):Option TypeId:=match P.underlying t with|some (.slice e)=>some e|_=>none
def dL(P:Program)(t:TypeId):Option (Nat×TypeId):=match P.underlying t with|some (.array n e)=>some (n,e)|_=>none
def fD(P:Program)(t:TypeId)(f:Nat):Option (Nat×TypeId):=match P.underlying t with
 | some (.struct fields)=>match fields[f]? with
  | some fd=>if (P.info? fd.type).isSome=true∧P.cellsOf fd.type≠0 then some (fd.offset,fd.type) else none
  | none=>none
 | _=>none
def hZ(P:Program)(t:TypeId):Option (List (Nat×Nat)):=match P.underlying t with
 | some (.struct fields)=>if fields.all (fun f=>(P.info? f.type).isSome)=true then some (fields.toList.map fun f=>(f.offset,P.cellsOf f.type)) else none
 | _=>none
def uA(P:Program)(t:TypeId):Option (List Value):=match P.info? t with
 | some i=>match i.zero with
  | some z=>if aP z=true∧z.cells.toList.all gC=true∧z.cells.size=i.size then some z.cells.toList else none
  | none=>none
 | none=>none
def eG(P:Program)(t:TypeId):Option (List Value):=if rL P t=true then none else uA P t
theorem oA{P:Program}{t:TypeId}{z:List Value}(h:eG P t=some z):rL P t=false∧uA P t=some z:=by
 unfold eG at h
 split at h
 ·cases h
 ·rename_i hs;exact⟨by simpa using hs,h⟩
def lH(P:Program)(t:TypeId):Nat:=match P.info? t with|some i=>i.bytes|none=>0
def tcells:TV→List TV
 | .agg l=>l
 | p=>[p]
def dH:TV→Bool
 | .Z=>true
 | _=>false
def tone:TV→Bool
 | .agg _=>false
 | .tuple _=>false
 | .Z=>false
 | _=>true
def tsplice(c:List TV)(o:Nat)(l:List TV):List TV:=c.take o++l++c.drop (o+l.length)
def tfill(place:Nat→Option (Nat×Nat)):List TV→List (Nat×TV)→Option (List TV)
 | c,[]=>some c
 | c,(i,p)::ps=>match place i with
  | none=>none
  | some (off,size)=>if dH p=true then none else if (tcells p).length=size∧off+size≤c.length then tfill place (tsplice c off (tcells p)) ps else none
def tbuild(P:Program)(t:TypeId)(parts:List (Nat×TV)):Option TV:=
 match eG P t with
 | none=>none
 | some z=>match hZ P t with
  | some pl=>(tfill (pl[·]?) (z.map .v) parts).map .agg
  | none=>match dL P t with
   | some (_,e)=>if okT P e=true then (tfill (fun k=>some (k*P.cellsOf e,P.cellsOf e)) (z.map .v) parts).map .agg else none
   | none=>none
def cM(P:Program)(t:TypeId)(row:List TV)(o:Nat):Option TV:=
 match jG P t with
 | some true=>if okT P t=true∧o+P.cellsOf t≤row.length then some (.agg ((row.drop o).take (P.cellsOf t))) else none
 | some false=>row[o]?
 | none=>none
def tidx(rows:List (List TV))(i:Int):Option (List TV):=if 0≤i then rows[i.toNat]? else none
def aD(P:Program)(hp:List TB)(t:TypeId)(x ix:TV):Option TV:=
 match ix with
 | .v (.int _ i)=>match cK P t with
  | some e => if okT P e = true then match x with
      | .list es rows=>if P.cellsOf e=es then (tidx rows i).map fun row=>.fptr false row 0 else none
      | .lsl n o len=>match hp[n]? with
       | some (.rows es _)=>if 0≤i∧i<len∧P.cellsOf e=es then some (.lptr n (o+i.toNat) 0) else none
       | _=>none
      | _=>none
   else none
  | none=>match dL P t with
   | some (n, e) => if 0 ≤ i ∧ i < n ∧ okT P e = true then match x with
       | .fptr vb row o=>some (.fptr vb row (o+i.toNat*P.cellsOf e))
       | .lptr b r o=>some (.lptr b r (o+i.toNat*P.cellsOf e))
       | _=>none
    else none
   | none=>none
 | _=>none
def aE(P:Program)(t:TypeId)(x:TV)(f:Nat):Option TV:=
 match fD P t f with
 | some (off,_)=>match x with
  | .fptr vb row o=>some (.fptr vb row (o+off))
  | .lptr b r o=>some (.lptr b r (o+off))
  | _=>none
 | none=>none
def tfield(P:Program)(t:TypeId)(x:TV)(f:Nat):Option TV:=
 match fD P t f,x with
 | some (off,ft),.agg row=>cM P ft row off
 | _,_=>none
def tindex(P:Program)(t:TypeId)(x ix:TV):Option TV:=
 match dL P t,x,ix with
 | some (n,e),.agg row,.v (.int _ i)=>if 0≤i∧i<n∧okT P e=true then cM P e row (i.toNat*P.cellsOf e) else none
 | _,_,_=>none
def tlen(P:Program)(t:Option TypeId)(x:TV):Option TV:=
 match t with
 | none=>none
 | some t=>match cK P t with
  | none=>none
  | some _=>match x with
   | .list _ rows=>some (.v (.int .i64 rows.length))
   | .lsl _ _ len=>some (.v (.int .i64 len))
   | _=>none
def erased(tm:List TV)(x:Operand):Value:=(er 3 (tev tm x)).getD undef
def tgen(P:Program)(tm:List TV)(o:Oper):Option TV:=
 if o.op.operands.toList.all (fun x=>(er 3 (tev tm x)).isSome)=true then
  match Rex.pop P (erased tm) o with
  | some v=>if jN 3 v=true then some (inj 3 v) else none
  | none=>none
 else none
def orT(a:Option TV)(b:Option TV):Option TV:=match a with|some x=>some x|none=>b
def tpick(c a b:TV):Option TV:=match c with
 | .v (.bool t)=>(match t with|true=>some a|false=>some b)
 | _=>none
def tbin(op:BinOp)(x y:TV):Option TV:=match x,y with
 | .v a,.v b=>(bE op a b).map .v
 | _,_=>none
def tpop(P:Program)(hp:List TB)(tm:List TV)(o:Oper):Option TV:=
 match o.op with
 | .move x=>some (tev tm x)
 | .assign x=>some (tev tm x)
 | .pick c a b=>tpick (tev tm c) (tev tm a) (tev tm b)
 | .nilCheck x=>match tev tm x with
  | .func f a b=>some (.func f a b)
  | .fptr vb r o=>some (.fptr vb r o)
  | .lptr n r o=>some (.lptr n r o)
  | _=>none
 | .build t ps=>tbuild P t (ps.toList.map fun q=>(q.1,tev tm q.2))
 | .makeFunc fn first caps=>match fn with
  | .func f=>if (first.toList.all fun x=>lf 4 (tev tm x))&&(caps.toList.all fun x=>lf 4 (tev tm x)) then some (.func f (first.toList.map (tev tm)) (caps.toList.map (tev tm))) else none
  | _=>none
 | .extract t i=>match tev tm t with
  | .tuple l=>l[i]?
  | _=>none
 | .fieldAddr t x f=>aE P t (tev tm x) f
 | .indexAddr t x ix=>aD P hp t (tev tm x) (tev tm ix)
 | .field t x f=>tfield P t (tev tm x) f
 | .index t x ix=>orT (tindex P t (tev tm x) (tev tm ix)) (tgen P tm o)
 | .call c=>match c.callee with
  | .builtin b => if b = .len then match c.args.toList with
      | [x]=>orT (tlen P c.argTypes[0]? (tev tm x)) (tgen P tm o)
      | _=>none
   else tgen P tm o
  | _=>none
 | .binOp op _ x y _=>orT (tbin op (tev tm x) (tev tm y)) (tgen P tm o)
 | _=>tgen P tm o
section
variable {P:Program} {Fz:Nat→Prop} {h h0:List Blk} {L:Nat→LI}
theorem uG{ρ ρ':Operand→Value}{o:Oper}(hx:∀ x∈o.op.operands,ρ x=ρ' x):eU P ρ o=eU P ρ' o:=by
 have e1:o.op.operands.toList.all (fun x=>aR (ρ x))=o.op.operands.toList.all (fun x=>aR (ρ' x)):=by
  rw[Bool.eq_iff_iff,a8,a8]
  exact⟨fun h x hm=>by rw[← hx x (by simpa using hm)];exact h x hm,fun h x hm=>by rw[hx x (by simpa using hm)];exact h x hm⟩
 unfold eU
 rw[e1]
 split
 ·rfl
 ·rename_i hs
  rw[execOp_congr o (fun cs b e=>hs cs b e) hx]
theorem oE{ρ ρ':Operand→Value}{ps:Array (Nat×Operand)}(hx:∀ x∈(ps.toList.map (·.2)).toArray,ρ x=ρ' x):bK ρ ps=bK ρ' ps:=by
 unfold bK
 apply Array.map_congr_left
 intro p hp
 obtain⟨i,x⟩:=p
 simp only[hx x (by simp;exact⟨i,hp⟩)]
theorem pN{ρ ρ':Operand→Value}{xs:Array Operand}(hx:∀ x∈xs,ρ x=ρ' x):xs.map ρ=xs.map ρ':=Array.map_congr_left hx
theorem uP{ρ ρ':Operand→Value}{o:Oper}(hx:∀ x∈o.op.operands,ρ x=ρ' x):Rex.pop0 P ρ o=Rex.pop0 P ρ' o:=by
 have hg:=uG (P:=P) hx
 obtain⟨dst,op,ty,pos,after,guard⟩:=o
 cases op<;>simp only[Op.operands] at hx<;>simp only[Rex.pop0]<;>try exact hg
 case move x=>rw[hx x (by simp)]
 case assign x=>rw[hx x (by simp)]
 case pick c a b=>rw[hx c (by simp),hx a (by simp),hx b (by simp)]
 case build t ps=>rw[oE hx]
 case nilCheck x=>rw[hx x (by simp)]
 case sliceToArrayPointer t x=>rw[hx x (by simp)]
 case binOp op t x y u=>rw[hx x (by simp),hx y (by simp)];simp only[fR,hg]
 case makeFunc fn a b=>rw[pN (xs:=a) fun x hm=>hx x (by simp[hm]),pN (xs:=b) fun x hm=>hx x (by simp[hm])]
 case fieldAddr t x f=>rw[hx x (by simp)]
 case field t x f=>rw[hx x (by simp)]
 case indexAddr t x ix=>rw[hx x (by simp),hx ix (by simp)]
 case index t x ix=>rw[hx x (by simp),hx ix (by simp)];simp only[fR,hg]
 case extract t i=>rw[hx t (by simp)]
 case call c =>
  obtain⟨callee,args,tys⟩:=c
  unfold bpop
  cases callee with
  | builtin b =>
   simp only
   split
   ·split
    ·rename_i x hxs
     rw[hx x (by
      have:x∈args.toList:=by rw[hxs];simp
      simp[Call.operands];exact by simpa using this)];simp only[fR,hg]
    ·rfl
   ·exact hg
  | _=>rfl
theorem vB{ρ ρ':Operand→Value}{o:Oper}(hx:∀ x∈o.op.operands,ρ x=ρ' x):sF P ρ o=sF P ρ' o:=by
 obtain⟨dst,op,ty,pos,after,guard⟩:=o
 cases op<;>simp only[Op.operands] at hx<;>simp only[sF]
 case binOp op t x y u=>rw[hx x (by simp),hx y (by simp)]
 case unOp op t x=>rw[hx x (by simp)]
 case convert s d x=>rw[hx x (by simp)]
 case call c =>
  obtain⟨callee,args,tys⟩:=c
  cases callee with
  | builtin b =>
   simp only
   congr 1
   exact List.map_congr_left fun x hm=>hx x (by simp[Call.operands];simpa using hm)
  | _=>rfl
theorem wG{ρ ρ':Operand→Value}{o:Oper}(hx:∀ x∈o.op.operands,ρ x=ρ' x):Rex.pop P ρ o=Rex.pop P ρ' o:=by
 unfold Rex.pop
 rw[uP hx,vB hx]
theorem uT{tm:List TV}{vm:List Value}(hz:FZ Fz h)(hs:VLs Fz h L tm vm){o:Oper}{p:TV}(hp:tgen P tm o=some p):∃ v,Rex.pop P (ev vm) o=some v∧VL Fz h L p v:=by
 unfold tgen at hp
 split at hp
 ·rename_i hall
  have hx:∀ x∈o.op.operands,ev vm x=erased tm x:=by
   intro x hm
   have h1:=a8.1 hall x (by simpa using hm)
   obtain⟨y,hy⟩:=Option.isSome_iff_exists.1 h1
   rw[(bQ hz hs x).er 3 hy,erased,hy]
   rfl
  rw[wG hx]
  split at hp
  ·rename_i v hv
   split at hp
   ·rename_i hi
    obtain rfl:=a6 hp
    exact⟨v,hv,VL.inj 3 hi⟩
   ·cases hp
  ·cases hp
 ·cases hp
theorem jB{p:TV}{x:Value}(hp:VL Fz h L p x)(hj:dH p=false):VLs Fz h L (tcells p) x.cells.toList:=by
 have one:∀ q y,VL Fz h L q y→VLs Fz h L [q] [y]:=fun q y hq=>VLs.cons hq VLs.nil
 cases hp with
 | Z=>simp[dH] at hj
 | v _ x hx =>
  have:x.cells.toList=[x]:=by
   cases x<;>first|rfl|(simp[gC] at hx)
  rw[this]
  exact one _ _ (.v L x hx)
 | agg _ l l' hl ha=>exact⟨hl,ha⟩
 | tuple _ l l' hl ha=>exact one _ _ (.tuple L l l' hl ha)
 | func _ f a b a' b' la ha lb hb=>exact one _ _ (.func L f a b a' b' la ha lb hb)
 | nillist _ es=>exact one _ _ (.nillist L es)
 | vague _ es=>exact one _ _ (.vague L es)
 | list _ es rows n o c cs eb hn hb he hw hc hle ha=>exact one _ _ (.list L es rows n o c cs eb hn hb he hw hc hle ha)
 | fptr _ vb row off n base es cs hn hb hv hle ha=>exact one _ _ (.fptr L vb row off n base es cs hn hb hv hle ha)
 | lptr _ n r o nm ok hn=>exact one _ _ (.lptr L n r o nm ok hn)
 | lmap _ n nm ok hn=>exact one _ _ (.lmap L n nm ok hn)
 | lslnil _ n ok hn=>exact one _ _ (.lslnil L n ok hn)
 | lsl _ n o len nm ok hn hle=>exact one _ _ (.lsl L n o len nm ok hn hle)
theorem eJ:∀(l:List Value) (k:Nat) (off:Nat) (c:Array Value),off+k+l.length≤c.size →
 ((l.zipIdx k).foldl (fun (cs:Array Value) (x:Value×Nat)=>cs.setIfInBounds (off+x.2) x.1) c).toList=splice c.toList (off+k) l
 | [],k,off,c,_=>by simp[splice]
 | v::l,k,off,c,hle=>by
  simp only[List.zipIdx_cons,List.foldl_cons]
  rw[eJ l (k+1) off _ (by simp at hle ⊢;omega)]
  simp only[Array.toList_setIfInBounds]
  simp only[List.length_cons] at hle
  have hlt:off+k<c.toList.length:=by simp;omega
  have hl1:off+(k+1)+l.length≤(c.toList.set (off+k) v).length:=by simp;omega
  have hl2:off+k+(v::l).length≤c.toList.length:=by simp;omega
  apply i7
  intro i
  by_cases h1:off+(k+1)≤i∧i<off+(k+1)+l.length
  ·rw[gH hl1 h1.1 h1.2,gH hl2 (by omega) (by simp;omega)]
   rw[show i-(off+k)=(i-(off+(k+1)))+1 by omega,List.getElem?_cons_succ]
  ·rw[iA hl1 (by omega)]
   by_cases h2:i=off+k
   ·subst h2
    rw[gH hl2 (a9 _) (by simp),d8 hlt]
    simp
   ·rw[iA hl2 (by simp;omega),d6 (by omega)]
theorem lM{c l:List TV}{c' l':List Value}(hc:VLs Fz h L c c')(hl:VLs Fz h L l l')(o:Nat):VLs Fz h L (tsplice c o l) (splice c' o l'):=by
 unfold tsplice splice
 rw[hl.len]
 have h1:=hc.extract 0 o
 have h2:VLs Fz h L (c.drop (o+l.length)) (c'.drop (o+l.length)):=by
  have:=hc.extract (o+l.length) c.length
  rw[f9 (by simp),f9 (by simp[hc.len])] at this
  exact this
 simp only[List.drop_zero] at h1
 exact (h1.append hl).append h2
structure PLs(Fz:Nat→Prop)(h:List Blk)(L:Nat→LI)(ps:List (Nat×TV))(ps':List (Nat×Value)):Prop where
 len:ps'.length=ps.length
 at':∀(i:Nat) p p',ps[i]?=some p→ps'[i]?=some p'→p'.1=p.1∧VL Fz h L p.2 p'.2
theorem iP{place:Nat→Option (Nat×Nat)}:∀(ps:List (Nat×TV)) (ps':List (Nat×Value)) (c:List TV) (c':Array Value) (r:List TV),PLs Fz h L ps ps'→VLs Fz h L c c'.toList→tfill place c ps=some r →
 ∃ r',Instr.fill place c' ps'=some r'∧VLs Fz h L r r'.toList
 | [],ps',c,c',r,hp,hc,hf=>by
  have:ps'=[]:=by have:=hp.len;simpa using this
  subst this
  simp[tfill] at hf
  subst hf
  exact⟨c',rfl,hc⟩
 | (i,v)::ps,ps',c,c',r,hp,hc,hf=>by
  obtain⟨p',rest,rfl⟩:∃ v' rest,ps'=v'::rest:=by
   have h1:=hp.len
   cases ps' with
   | nil=>simp at h1
   | cons a b=>exact⟨a,b,rfl⟩
  obtain⟨i',v'⟩:=p'
  obtain⟨e1,hv⟩:=hp.at' 0 _ _ rfl rfl
  simp only at e1 hv
  subst e1
  have hs:PLs Fz h L ps rest:=⟨by have:=hp.len;simpa using this,fun i x x' h h'=>hp.at' (i+1) _ _ (by simpa using h) (by simpa using h')⟩
  simp only[tfill] at hf
  simp only[Instr.fill]
  split at hf
  ·cases hf
  ·rename_i off size hpl
   split at hf
   ·cases hf
   ·rename_i hj
    split at hf
    ·rename_i hcond
     have hcv:=jB hv (by simpa using hj)
     have hsz:v'.cells.size=size:=by have:=hcv.len;simp at this;omega
     have hcs:c'.size=c.length:=by have:=hc.len;simpa using this
     simp only[hpl]
     rw[d5 (by simp[hsz];omega)]
     refine iP ps rest _ _ r hs ?_ hf
     have:=eJ v'.cells.toList 0 off c' (by simp;omega)
     simp only[← Array.foldl_toList,Array.toList_zipIdx]
     rw[this]
     exact lM hc hcv off
    ·cases hf
theorem fW{t:TypeId}{z:List Value}(hz:eG P t=some z):∃ i z0,P.info? t=some i∧i.zero=some z0∧aP z0=true∧z0.cells.toList=z∧z.length=i.size∧∀ x∈z,gC x=true:=by
 replace hz:=(oA hz).2
 unfold uA at hz
 split at hz
 ·rename_i i hi
  split at hz
  ·rename_i z0 hz0
   split at hz
   ·rename_i hc
    obtain rfl:=a6 hz
    exact⟨i,z0,hi,hz0,hc.1,rfl,by simpa using hc.2.2,fun x hx=>by simpa using a8.1 hc.2.1 x hx⟩
   ·cases hz
  ·cases hz
 ·cases hz
theorem nX{z:List Value}(hz:∀ x∈z,gC x=true):VLs Fz h L (z.map .v) z:=
 ⟨by simp,fun i p x hp hx=>by
  rw[d2,hx] at hp
  obtain rfl:=a6 hp
  exact .v L x (hz x (b6 hx))⟩
theorem qU{t:TypeId}{ps:List (Nat×TV)}{ps':Array (Nat×Value)}{p:TV}(hp:PLs Fz h L ps ps'.toList)(hb:tbuild P t ps=some p):∃ v,jT P t ps'=some v∧VL Fz h L p v:=by
 unfold tbuild at hb
 split at hb
 ·cases hb
 ·rename_i z hz
  obtain⟨i,z0,hi,hz0,hcl,rfl,hsz,hat⟩:=fW hz
  split at hb
  ·rename_i pl hpl
   unfold hZ at hpl
   split at hpl
   ·rename_i fields hu
    split at hpl
    ·rename_i hall
     obtain rfl:=a6 hpl
     obtain⟨r,hr,rfl⟩:=b9.1 hb
     obtain⟨r',h1,h2⟩:=iP ps ps'.toList _ z0.cells r hp (nX hat) hr
     refine⟨.agg r',?_,.agg' h2⟩
     unfold jT
     simp only[hi,hz0,hcl,if_true,hu]
     have e:((fields.map fun f=>(f.offset,P.cellsOf f.type))[·]?:Nat→Option (Nat×Nat))=((fields.toList.map fun f=>(f.offset,P.cellsOf f.type))[·]?:Nat→Option (Nat×Nat)):=by
      funext k;simp
     rw[e,h1]
     simp only[Option.bind_some]
     rw[b8 hall]
    ·cases hpl
   ·cases hpl
  ·split at hb
   ·rename_i n e ha
    unfold dL at ha
    split at ha
    ·rename_i n' e' hu
     obtain⟨rfl,rfl⟩:=Prod.mk.inj (a6 ha)
     split at hb
     ·rename_i hok
      obtain⟨r,hr,rfl⟩:=b9.1 hb
      obtain⟨r',h1,h2⟩:=iP ps ps'.toList _ z0.cells r hp (nX hat) hr
      refine⟨.agg r',?_,.agg' h2⟩
      unfold jT
      simp only[hi,hz0,hcl,if_true,hu]
      rw[h1]
      simp only[Option.bind_some]
      exact b8 hok
     ·cases hb
    ·cases ha
   ·cases hb
end
end Go.Rex
