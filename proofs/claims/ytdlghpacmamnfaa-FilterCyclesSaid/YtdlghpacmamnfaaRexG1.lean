/- An executor of the program's functions on trees of values,proved sound. -/
import Derived.RangeFuncLeaves
import Derived.RangeFuncRecord
import Derived.OrdersIn
import Derived.Below
import Derived.LoopNIn
import Derived.Laws.IdiomCopy
import Derived.Laws.NewFold
import Derived.Laws.Append
set_option linter.unusedSimpArgs false
set_option linter.unusedVariables false
set_option linter.defProp false
namespace Go.Rex
open Go
def a6.{u}:=@Option.some.inj.{u}
def a7.{u}:=@List.getElem?_eq_some_iff.{u}
def a8.{u}:=@List.all_eq_true.{u}
def a9:=@Nat.le_refl
def b4.{u}:=@List.getElem?_append_left.{u}
def b5.{u}:=@List.getElem?_eq_getElem.{u}
def b6.{u}:=@List.mem_of_getElem?.{u}
def b7.{u}:=@List.getElem?_append_right.{u}
def b8.{u}:=@if_pos.{u}
def b9.{u,v}:=@Option.map_eq_some_iff.{u,v}
def c9.{u}:=@Array.getElem?_eq_getElem.{u}
def d2.{u,v}:=@List.getElem?_map.{u,v}
def d4:=@Nat.lt_or_ge
def d5.{u}:=@if_neg.{u}
def d6.{u}:=@List.getElem?_set_ne.{u}
def d7:=@Nat.lt_of_lt_of_le
def d8.{u}:=@List.getElem?_set_self.{u}
def d9.{u,v}:=@Option.bind_some.{u,v}
def e6:=@Nat.le_trans
def e7:=@Nat.add_assoc
def e8.{u}:=@List.getElem?_eq_none_iff.{u}
def e9.{u}:=@Array.getD_eq_getD_getElem?.{u}
def f0:=@Nat.zero_le
def f9.{u}:=@List.take_of_length_le.{u}
def g0:=@Nat.mul_le_mul_right
def g6:=@Nat.zero_add
def g7.{u}:=@List.getElem?_drop.{u}
def g8.{u}:=@List.mem_cons_of_mem.{u}
def g9.{u}:=@List.getElem?_set.{u}
def i0.{u}:=@List.getElem?_take.{u}
def i4.{u}:=@List.mem_iff_getElem?.{u}
def i5.{u}:=@List.length_append.{u}
def i6.{u}:=@List.mem_cons.{u}
def i7.{u}:=@List.ext_getElem?.{u}
def i8.{u}:=@List.length_set.{u}
def i9:=@Bool.false_eq_true
def j0.{u,v}:=@List.length_map.{u,v}
def j1:=@Bool.not_false
def j2:=@Nat.mod_eq_of_lt
def ghCells:List (Nat×List Value):=[]
end Go.Rex
namespace Go.Rex
open Go.RowKit
structure Info where
 block:Nat
 off:Nat
 ext:Nat
 es:Nat
abbrev NMap:=Nat→Info
def vag:Value:=.slice (some ⟨0,0,some 0⟩) 0 0
def eE(k:FloatKind)(b:Nat):Bool:=decide (k.format.infRung<b%k.format.signWeight)
def FR(k:FloatKind)(b b':Nat):Prop:=b'=b∨(eE k b=true∧eE k b'=true)
theorem FR.refl{k:FloatKind}{b:Nat}:FR k b b:=.inl rfl
theorem FR.eq{k:FloatKind}{b b':Nat}(h:FR k b b')(hn:eE k b=false):b'=b:=by
 rcases h with h|⟨h,_⟩
 ·exact h
 ·rw[hn] at h;cases h
def ubyte:Value:=.pointer (some ⟨0,0,some 1⟩)
inductive VR (D:Nat→Prop) (m:NMap):Value→Value→Prop
 | bool (b:Bool):VR D m (.bool b) (.bool b)
 | int (k:IntKind) (n:Int):VR D m (.int k n) (.int k n)
 | float (k:FloatKind) (b b':Nat) (h:FR k b b'):VR D m (.float k b) (.float k b')
 | complex (k:FloatKind) (a b a' b':Nat) (h:FR k a a') (g:FR k b b'):VR D m (.complex k a b) (.complex k a' b')
 | string (s:ByteArray):VR D m (.string s) (.string s)
 | nilPtr:VR D m (.pointer none) (.pointer none)
 | ptr (n o:Nat) (h:D n):VR D m (.pointer (some ⟨n,o,none⟩)) (.pointer (some ⟨(m n).block,(m n).off+o,none⟩))
 | nilSlice (l c:Nat):VR D m (.slice none l c) (.slice none l c)
 | slice (n o l c c':Nat) (h:D n) (hl:l≤c) (hc:c≤c') (he:((m n).es=0∨c'=c)∨o+c'*(m n).es≤(m n).ext):VR D m (.slice (some ⟨n,o,none⟩) l c) (.slice (some ⟨(m n).block,(m n).off+o,none⟩) l c')
 | vague (a:Addr) (c:Nat):VR D m vag (.slice (some a) 0 c)
 | byte (n:Int):VR D m ubyte (.int .u8 n)
 | nilMap:VR D m (.map none) (.map none)
 | map (n:Nat) (h:D n):VR D m (.map (some n)) (.map (some (m n).block))
 | func (f : FuncId) (a b a' b' : List Value) (la : a'.length = a.length) (ha : ∀ (i : Nat) v v', a[i]? = some v → a'[i]? = some v' → VR D m v v')
     (lb:b'.length=b.length) (hb:∀(i:Nat) v v',b[i]?=some v→b'[i]?=some v'→VR D m v v'):VR D m (.func (.func f) ⟨a⟩ ⟨b⟩) (.func (.func f) ⟨a'⟩ ⟨b'⟩)
 | yield (n:Nat) (h:D n):VR D m (.func (.yield n) #[] #[]) (.func (.yield (m n).block) #[] #[])
 | nilFunc:VR D m .nilFunc .nilFunc
 | nilIface:VR D m .nilIface .nilIface
 | iface (t:TypeId) (v v':Value) (h:VR D m v v'):VR D m (.iface t v) (.iface t v')
 | agg (a a':List Value) (la:a'.length=a.length) (ha:∀(i:Nat) v v',a[i]?=some v→a'[i]?=some v'→VR D m v v'):VR D m (.agg ⟨a⟩) (.agg ⟨a'⟩)
 | tuple (a a':List Value) (la:a'.length=a.length) (ha:∀(i:Nat) v v',a[i]?=some v→a'[i]?=some v'→VR D m v v'):VR D m (.tuple ⟨a⟩) (.tuple ⟨a'⟩)
structure VRs(D:Nat→Prop)(m:NMap)(a a':List Value):Prop where
 len:a'.length=a.length
 at':∀(i:Nat) v v',a[i]?=some v→a'[i]?=some v'→VR D m v v'
theorem VRs.at{D:Nat→Prop}{m:NMap}{a a':List Value}(h:VRs D m a a'){i:Nat}{v:Value}(hv:a[i]?=some v):∃ v',a'[i]?=some v'∧VR D m v v':=by
 have hi:=(a7.1 hv).1
 have hi':i<a'.length:=by rw[h.len];exact hi
 exact⟨a'[i],b5 hi',h.at' i _ _ hv (b5 hi')⟩
theorem VR.mono{D D':Nat→Prop}{m m':NMap}{v v':Value}(h:VR D m v v')(hD:∀ n,D n→D' n)(hm:∀ n,D n→m' n=m n):VR D' m' v v':=by
 induction h with
 | bool b=>exact .bool b
 | int k n=>exact .int k n
 | float k b b' h=>exact .float k b b' h
 | complex k a b a' b' h g=>exact .complex k a b a' b' h g
 | string s=>exact .string s
 | nilPtr=>exact .nilPtr
 | ptr n o h=>rw[← hm n h];exact .ptr n o (hD n h)
 | nilSlice l c=>exact .nilSlice l c
 | slice n o l c c' h hl hc he=>rw[← hm n h];rw[← hm n h] at he;exact .slice n o l c c' (hD n h) hl hc he
 | vague a c=>exact .vague a c
 | byte n=>exact .byte n
 | nilMap=>exact .nilMap
 | map n h=>rw[← hm n h];exact .map n (hD n h)
 | func f a b a' b' la ha lb hb iha ihb=>exact .func f a b a' b' la iha lb ihb
 | yield n h=>rw[← hm n h];exact .yield n (hD n h)
 | nilFunc=>exact .nilFunc
 | nilIface=>exact .nilIface
 | iface t v v' h ih=>exact .iface t v v' ih
 | agg a a' la ha ih=>exact .agg a a' la ih
 | tuple a a' la ha ih=>exact .tuple a a' la ih
theorem VRs.mono{D D':Nat→Prop}{m m':NMap}{a a':List Value}(h:VRs D m a a')(hD:∀ n,D n→D' n)(hm:∀ n,D n→m' n=m n):VRs D' m' a a':=
 ⟨h.len,fun i v v' hv hv'=>(h.at' i v v' hv hv').mono hD hm⟩
theorem VRs.nil{D:Nat→Prop}{m:NMap}:VRs D m [] []:=⟨rfl,fun i v v' h=>by simp at h⟩
theorem VRs.cons{D:Nat→Prop}{m:NMap}{v v':Value}{a a':List Value}(h:VR D m v v')(hs:VRs D m a a'):VRs D m (v::a) (v'::a'):=by
 refine⟨by simp[hs.len],fun i x x' hx hx'=>?_⟩
 cases i with
 | zero=>simp at hx hx';subst hx hx';exact h
 | succ i=>simp at hx hx';exact hs.at' i _ _ hx hx'
theorem VRs.append{D:Nat→Prop}{m:NMap}{a a' b b':List Value}(h:VRs D m a a')(hb:VRs D m b b'):VRs D m (a++b) (a'++b'):=by
 refine⟨by simp[h.len,hb.len],fun i x x' hx hx'=>?_⟩
 rw[List.getElem?_append] at hx hx'
 rw[h.len] at hx'
 split at hx
 ·rename_i hi;rw[b8 hi] at hx';exact h.at' i _ _ hx hx'
 ·rename_i hi;rw[d5 hi] at hx';exact hb.at' _ _ _ hx hx'
theorem VRs.extract{D:Nat→Prop}{m:NMap}{a a':List Value}(h:VRs D m a a')(i j:Nat):VRs D m ((a.drop i).take j) ((a'.drop i).take j):=by
 refine⟨by simp[h.len],fun k x x' hx hx'=>?_⟩
 simp only[List.getElem?_take,List.getElem?_drop] at hx hx'
 split at hx
 ·rename_i hk;rw[b8 hk] at hx';exact h.at' _ _ _ hx hx'
 ·cases hx
theorem VRs.set{D:Nat→Prop}{m:NMap}{a a':List Value}(h:VRs D m a a')(i:Nat){v v':Value}(hv:VR D m v v'):VRs D m (a.set i v) (a'.set i v'):=by
 refine⟨by simp[h.len],fun k x x' hx hx'=>?_⟩
 rw[g9] at hx hx'
 split at hx
 ·rename_i hk
  rw[b8 hk,h.len] at hx'
  split at hx
  ·rename_i hlt;rw[b8 hlt] at hx';cases hx;cases hx';exact hv
  ·cases hx
 ·rename_i hk;rw[d5 hk] at hx';exact h.at' _ _ _ hx hx'
theorem VRs.replicate{D:Nat→Prop}{m:NMap}{v v':Value}(hv:VR D m v v')(n:Nat):VRs D m (List.replicate n v) (List.replicate n v'):=by
 refine⟨by simp,fun k x x' hx hx'=>?_⟩
 rw[List.getElem?_replicate] at hx hx'
 split at hx
 ·rename_i hk;rw[b8 hk] at hx';cases hx;cases hx';exact hv
 ·cases hx
theorem VR.undef{D:Nat→Prop}{m:NMap}:VR D m undef undef:=.tuple [] [] rfl (fun i v v' h=>by simp at h)
theorem VRs.getD{D:Nat→Prop}{m:NMap}{a a':List Value}(h:VRs D m a a')(i:Nat){d d':Value}(hd:VR D m d d'):VR D m (a[i]?.getD d) (a'[i]?.getD d'):=by
 cases hv:a[i]? with
 | none =>
  have:a'[i]?=none:=by
   rw[e8] at hv ⊢
   rw[h.len];exact hv
  rw[this];exact hd
 | some v =>
  obtain⟨v',hv',hr⟩:=h.at hv
  rw[hv'];exact hr
theorem VRs.refl_of{D:Nat→Prop}{m:NMap}{a:List Value}(h:∀ v∈a,VR D m v v):VRs D m a a:=
 ⟨rfl,fun i v v' hv hv'=>by rw[hv] at hv';cases hv';exact h v (b6 hv)⟩
theorem VR.agg'{D:Nat→Prop}{m:NMap}{a a':List Value}(h:VRs D m a a'):VR D m (.agg ⟨a⟩) (.agg ⟨a'⟩):=.agg a a' h.len h.at'
theorem VR.tuple'{D:Nat→Prop}{m:NMap}{a a':List Value}(h:VRs D m a a'):VR D m (.tuple ⟨a⟩) (.tuple ⟨a'⟩):=.tuple a a' h.len h.at'
def clean:Nat→Value→Bool
 | 0,_=>false
 | d+1,v=>match v with
  | .bool _=>true|.int _ _=>true|.float _ _=>true|.complex _ _ _=>true|.string _=>true
  | .pointer none=>true|.slice none _ _=>true|.map none=>true|.nilFunc=>true|.nilIface=>true
  | .func (.func _) ⟨a⟩ ⟨b⟩=>a.all (clean d)&&b.all (clean d)
  | .iface _ v=>clean d v
  | .agg ⟨l⟩=>l.all (clean d)
  | .tuple ⟨l⟩=>l.all (clean d)
  | _=>false
theorem VR.of_clean{D:Nat→Prop}{m:NMap}:∀(d:Nat) (v:Value),clean d v=true→VR D m v v:=by
 intro d
 induction d with
 | zero=>intro v h;simp[clean] at h
 | succ d ih =>
  intro v h
  have key:∀ l:List Value,l.all (clean d)=true→VRs D m l l:=fun l hl=>VRs.refl_of fun v hv=>ih v (by simpa using (a8.1 hl) v hv)
  unfold clean at h
  split at h
  ·exact .bool _
  ·exact .int _ _
  ·exact .float _ _ _ .refl
  ·exact .complex _ _ _ _ _ .refl .refl
  ·exact .string _
  ·exact .nilPtr
  ·exact .nilSlice _ _
  ·exact .nilMap
  ·exact .nilFunc
  ·exact .nilIface
  ·rename_i f a b
   simp only[Bool.and_eq_true] at h
   exact .func _ _ _ _ _ (key a h.1).len (key a h.1).at' (key b h.2).len (key b h.2).at'
  ·exact .iface _ _ _ (ih _ h)
  ·exact .agg' (key _ h)
  ·exact .tuple' (key _ h)
  ·cases h
theorem VRs.eq_of{D:Nat→Prop}{m:NMap}{a a':List Value}(h:VRs D m a a')(hc:∀ v∈a,∀ v',VR D m v v'→v'=v):a'=a:=by
 apply i7
 intro i
 cases hv:a[i]? with
 | none =>
  rw[e8] at hv ⊢
  rw[h.len];exact hv
 | some v =>
  obtain⟨v',hv',hr⟩:=h.at hv
  rw[hv',hc v (b6 hv) v' hr]
def fV:Nat→Value→Bool
 | 0,_=>false
 | d+1,v=>match v with
  | .float k b=>!eE k b
  | .complex k a b=>!eE k a&&!eE k b
  | .func (.func _) ⟨a⟩ ⟨b⟩=>a.all (fV d)&&b.all (fV d)
  | .iface _ v=>fV d v
  | .agg ⟨l⟩=>l.all (fV d)
  | .tuple ⟨l⟩=>l.all (fV d)
  | _=>true
theorem VR.eq_of_fixed{D:Nat→Prop}{m:NMap}:∀(d:Nat) (v v':Value),clean d v=true→fV d v=true→VR D m v v'→v'=v:=by
 intro d
 induction d with
 | zero=>intro v v' h;simp[clean] at h
 | succ d ih =>
  intro v v' h hz hr
  have key:∀ l l':List Value,l.all (clean d)=true→l.all (fV d)=true→VRs D m l l'→l'=l:=fun l l' hl hn hs=>hs.eq_of fun v hv v' hr=>ih v v' (by simpa using (a8.1 hl) v hv) (by simpa using (a8.1 hn) v hv) hr
  cases hr with
  | bool=>rfl
  | int=>rfl
  | float k b b' hf=>rw[hf.eq (by simpa [fV] using hz)]
  | complex k a b a' b' hf hg =>
   simp only[fV,Bool.and_eq_true,Bool.not_eq_true'] at hz
   rw[hf.eq hz.1,hg.eq hz.2]
  | string=>rfl
  | nilPtr=>rfl
  | ptr=>simp[clean] at h
  | nilSlice=>rfl
  | slice=>simp[clean] at h
  | vague=>simp[clean,vag] at h
  | byte=>simp[clean,ubyte] at h
  | nilMap=>rfl
  | map=>simp[clean] at h
  | func f a b a' b' la ha lb hb =>
   simp only[clean,Bool.and_eq_true] at h
   simp only[fV,Bool.and_eq_true] at hz
   rw[key a a' h.1 hz.1 ⟨la,ha⟩,key b b' h.2 hz.2 ⟨lb,hb⟩]
  | yield=>simp[clean] at h
  | nilFunc=>rfl
  | nilIface=>rfl
  | iface t v v' hv=>rw[ih v v' (by simpa [clean] using h) (by simpa [fV] using hz) hv]
  | agg a a' la ha=>rw[key a a' (by simpa only[clean] using h) (by simpa only[fV] using hz) ⟨la,ha⟩]
  | tuple a a' la ha=>rw[key a a' (by simpa only[clean] using h) (by simpa only[fV] using hz) ⟨la,ha⟩]
theorem VR.shift{D D':Nat→Prop}{m m':NMap}:∀(d:Nat) (v v':Value),clean d v=true→VR D m v v'→VR D' m' v v':=by
 intro d
 induction d with
 | zero=>intro v v' h;simp[clean] at h
 | succ d ih =>
  intro v v' h hr
  have key:∀ l l':List Value,l.all (clean d)=true→VRs D m l l'→VRs D' m' l l':=fun l l' hl hs=>⟨hs.len,fun i v v' hv hv'=>ih v v' (by simpa using (a8.1 hl) v (b6 hv)) (hs.at' i v v' hv hv')⟩
  cases hr with
  | bool=>exact .bool _
  | int=>exact .int _ _
  | float k b b' hf=>exact .float _ _ _ hf
  | complex k a b a' b' hf hg=>exact .complex _ _ _ _ _ hf hg
  | string=>exact .string _
  | nilPtr=>exact .nilPtr
  | ptr=>simp[clean] at h
  | nilSlice=>exact .nilSlice _ _
  | slice=>simp[clean] at h
  | vague=>simp[clean,vag] at h
  | byte=>simp[clean,ubyte] at h
  | nilMap=>exact .nilMap
  | map=>simp[clean] at h
  | func f a b a' b' la ha lb hb =>
   simp only[clean,Bool.and_eq_true] at h
   have k1:=key a a' h.1 ⟨la,ha⟩
   have k2:=key b b' h.2 ⟨lb,hb⟩
   exact .func _ _ _ _ _ k1.len k1.at' k2.len k2.at'
  | yield=>simp[clean] at h
  | nilFunc=>exact .nilFunc
  | nilIface=>exact .nilIface
  | iface t v v' hv=>exact .iface _ _ _ (ih v v' (by simpa [clean] using h) hv)
  | agg a a' la ha=>exact .agg' (key a a' (by simpa only[clean] using h) ⟨la,ha⟩)
  | tuple a a' la ha=>exact .tuple' (key a a' (by simpa only[clean] using h) ⟨la,ha⟩)
inductive Blk
 | dead
 | cells (es:Nat) (c:List Value)
 | loop (st:LoopState) (pend:Option Code) (tmps:List Value) (ps:Array Tmp) (assign body:Code) (dfr:Nat)
 | dfr
 | iter (s:ByteArray) (pos:Nat)
 | map (es:Array MapEntry) (clock:Nat)
 | tcells (t:TypeId) (es:Nat) (c:List Value)
def BlkOk(D:Nat→Prop)(m:NMap)(w:World)(n:Nat):Blk→Prop
 | .dead=>True
 | .cells es c=>(m n).es=es∧∀(i:Nat) v,c[i]?=some v→∃ v',w.cell? ⟨(m n).block,(m n).off+i,none⟩=some v'∧VR D m v v'
 | .loop st pend tmps ps assign body dfr=>D dfr∧∃ fn tmps',w.heap[(m n).block]?=some (.loop { state:=st,pending:=pend,fn,tmps:=⟨tmps'⟩,params:=ps,assign,body,defers:=(m dfr).block })∧VRs D m tmps tmps'
 | .dfr=>w.heap[(m n).block]?=some (.deferred (some []))
 | .iter s pos=>w.heap[(m n).block]?=some (.stringIter s pos)∧(m n).off=0
 | .map es clock=>w.heap[(m n).block]?=some (.map es clock)
 | .tcells t es c=>((m n).es=es∧(m n).off=0∧∃ k,w.shape? (m n).block=some (t,k)∧(m n).ext≤k∧(es=0→k=c.length))∧∀(i:Nat) v,c[i]?=some v→∃ v',w.cell? ⟨(m n).block,(m n).off+i,none⟩=some v'∧VR D m v v'
def Owns(m:NMap)(w:World)(n:Nat):Blk→Prop
 | .cells _ c=>c.length≤(m n).ext∧∀ k,k<(m n).ext→(∃ v,w.cell? ⟨(m n).block,(m n).off+k,none⟩=some v)∧w.frozen? ⟨(m n).block,(m n).off+k,none⟩=false
 | .tcells _ _ c=>c.length≤(m n).ext∧∀ k,k<(m n).ext→(∃ v,w.cell? ⟨(m n).block,(m n).off+k,none⟩=some v)∧w.frozen? ⟨(m n).block,(m n).off+k,none⟩=false
 | _=>True
def GH:List Blk:=ghCells.map fun p=>.cells p.1 p.2
def NG:Nat:=GH.length
def GW(w:World):Prop:=∀(g es:Nat) (c:List Value),GH[g]?=some (.cells es c)→∀(i:Nat) v,c[i]?=some v→w.cell? ⟨g,i,none⟩=some v
theorem GW.mono{B:Nat}{w w':World}(h:GW w)(hB:NG≤B)(hb:Below B w w'):GW w':=fun g es c hg i v hv=>by
 have hlt:g<B:=d7 (a7.1 hg).1 hB
 exact (hb.cell (p:=⟨g,i,none⟩) hlt).trans (h g es c hg i v hv)
structure Gl(B:Nat)(D:Nat→Prop)(m:NMap)(w:World):Prop where
 nm:∀ g,g<NG→D g∧(m g).block=g∧(m g).off=0
 gb:NG≤B
 gw:GW w
theorem Gl.mono{B B':Nat}{D D':Nat→Prop}{m m':NMap}{w w':World}(h:Gl B D m w)(hd:∀ n,D n→D' n)(hm:∀ n,D n→m' n=m n)(hB:B≤B':=by exact a9 _)(hw:Below B w w':=by exact Below.refl _ _):Gl B' D' m' w':=⟨fun g hg=>by
 obtain⟨h1,h2,h3⟩:=h.nm g hg
 exact⟨hd g h1,by rw[hm g h1];exact h2,by rw[hm g h1];exact h3⟩,e6 h.gb hB,h.gw.mono h.gb hw⟩
structure Rel(B lo:Nat)(D:Nat→Prop)(m:NMap)(h:List Blk)(w:World):Prop where
 le:B≤w.heap.size
 dom:∀ n,D n→n<h.length
 ok:∀ n b,D n→h[n]?=some b→BlkOk D m w n b
 lt:∀ n b,D n→h[n]?=some b→b ≠ .dead→(m n).block<w.heap.size
 base:∀ n b,D n→lo≤n→h[n]?=some b→b ≠ .dead→B≤(m n).block
 low:∀ n b,D n→n<lo→h[n]?=some b→b ≠ .dead→(m n).block<B
 own:∀ n b,D n→lo≤n→h[n]?=some b→Owns m w n b
 inj:∀ n n' b b',D n→D n'→lo≤n→lo≤n'→h[n]?=some b→h[n']?=some b'→b ≠ .dead→b' ≠ .dead→(m n).block=(m n').block→n=n'
 gl:Gl B D m w
def Dx(D:Nat→Prop)(a b:Nat):Nat→Prop:=fun n=>D n∨(a≤n∧n<b)
theorem Dx.trans{D:Nat→Prop}{a b c:Nat}(h1:a≤b)(h2:b≤c):Dx (Dx D a b) b c=Dx D a c:=by
 funext n;apply propext;unfold Dx
 constructor
 ·rintro ((h|h)|h)
  ·exact .inl h
  ·exact .inr ⟨h.1,by omega⟩
  ·exact .inr ⟨by omega,h.2⟩
 ·rintro (h|h)
  ·exact .inl (.inl h)
  ·rcases d4 n b with h'|h'
   ·exact .inl (.inr ⟨h.1,h'⟩)
   ·exact .inr ⟨h',h.2⟩
theorem Dx.refl{D:Nat→Prop}{a:Nat}:Dx D a a=D:=by
 funext n;apply propext;unfold Dx
 constructor
 ·rintro (h|h)
  ·exact h
  ·omega
 ·exact .inl
structure Post(B lo:Nat)(D:Nat→Prop)(m:NMap)(h:List Blk)(w:World)(m':NMap)(h':List Blk)(w':World):Prop where
 agree:∀ n,D n→m' n=m n
 rel:Rel B lo (Dx D h.length h'.length) m' h' w'
 below:Below B w w'
 grow:h.length≤h'.length
theorem Post.refl{B lo:Nat}{D:Nat→Prop}{m:NMap}{h:List Blk}{w:World}(hr:Rel B lo D m h w):Post B lo D m h w m h w:=
 ⟨fun _ _=>rfl,by rw[Dx.refl];exact hr,Below.refl _ _,a9 _⟩
theorem Post.trans{B lo:Nat}{D:Nat→Prop}{m m₁ m₂:NMap}{h h₁ h₂:List Blk}{w w₁ w₂:World}(p:Post B lo D m h w m₁ h₁ w₁)
 (q:Post B lo (Dx D h.length h₁.length) m₁ h₁ w₁ m₂ h₂ w₂):Post B lo D m h w m₂ h₂ w₂:=
 ⟨fun n hn=>(q.agree n (.inl hn)).trans (p.agree n hn),by have:=q.rel;rwa [Dx.trans p.grow q.grow] at this,p.below.trans q.below,e6 p.grow q.grow⟩
theorem Post.vr{B lo:Nat}{D:Nat→Prop}{m m₁:NMap}{h h₁:List Blk}{w w₁:World}(p:Post B lo D m h w m₁ h₁ w₁){v v':Value}(hv:VR D m v v'):VR (Dx D h.length h₁.length) m₁ v v':=
 hv.mono (fun _ h=>.inl h) p.agree
theorem Post.vrs{B lo:Nat}{D:Nat→Prop}{m m₁:NMap}{h h₁:List Blk}{w w₁:World}(p:Post B lo D m h w m₁ h₁ w₁){v v':List Value}(hv:VRs D m v v'):VRs (Dx D h.length h₁.length) m₁ v v':=
 hv.mono (fun _ h=>.inl h) p.agree
theorem nU{w w':World}{b:Nat}(h:w'.heap[b]?=w.heap[b]?):w'.shape? b=w.shape? b:=by simp only[World.shape?,h]
theorem BlkOk.keep{D:Nat→Prop}{m:NMap}{w w':World}{n:Nat}{b:Blk}(h:BlkOk D m w n b)(hb:b ≠ .dead→w'.heap[(m n).block]?=w.heap[(m n).block]?):BlkOk D m w' n b:=by
 cases b with
 | dead=>trivial
 | cells es c =>
  refine⟨h.1,fun i v hv=>?_⟩
  obtain⟨v',hc,hr⟩:=h.2 i v hv
  exact⟨v',(World.cell?_of_block (hb (by simp))).trans hc,hr⟩
 | loop st pend tmps ps assign body dfr =>
  obtain⟨hd,fn,tmps',hh,hr⟩:=h
  exact⟨hd,fn,tmps',(hb (by simp)).trans hh,hr⟩
 | dfr=>exact (hb (by simp)).trans h
 | iter s pos=>exact⟨(hb (by simp)).trans h.1,h.2⟩
 | map es clock=>exact (hb (by simp)).trans h
 | tcells t es c =>
  obtain⟨h1,h2,k,h3,h4⟩:=h.1
  refine⟨⟨h1,h2,k,(nU (hb (by simp))).trans h3,h4⟩,fun i v hv=>?_⟩
  obtain⟨v',hc,hr⟩:=h.2 i v hv
  exact⟨v',(World.cell?_of_block (hb (by simp))).trans hc,hr⟩
theorem Owns.keep{m:NMap}{w w':World}{n:Nat}{b:Blk}(h:Owns m w n b)(hb:b ≠ .dead→w'.heap[(m n).block]?=w.heap[(m n).block]?):Owns m w' n b:=by
 cases b with
 | cells es c =>
  refine⟨h.1,fun k hk=>?_⟩
  obtain⟨⟨v,hc⟩,hf⟩:=h.2 k hk
  exact⟨⟨v,(World.cell?_of_block (hb (by simp))).trans hc⟩,(World.frozen?_of_block (hb (by simp))).trans hf⟩
 | tcells t es c =>
  refine⟨h.1,fun k hk=>?_⟩
  obtain⟨⟨v,hc⟩,hf⟩:=h.2 k hk
  exact⟨⟨v,(World.cell?_of_block (hb (by simp))).trans hc⟩,(World.frozen?_of_block (hb (by simp))).trans hf⟩
 | _=>trivial
theorem Rel.frame{B lo:Nat}{D:Nat→Prop}{m:NMap}{h:List Blk}{w w':World}(hr:Rel B lo D m h w)(hb:Below w.heap.size w w'):Rel B lo D m h w':=
 ⟨e6 hr.le hb.size,hr.dom,fun n b hD hn=>(hr.ok n b hD hn).keep fun hd=>hb.block _ (hr.lt n b hD hn hd),
  fun n b hD hn hd=>d7 (hr.lt n b hD hn hd) hb.size,hr.base,hr.low,
  fun n b hD hl hn=>(hr.own n b hD hl hn).keep fun hd=>hb.block _ (hr.lt n b hD hn hd),hr.inj,hr.gl.mono (fun _ h=>h) (fun _ _=>rfl) (a9 _) (hb.mono hr.le)⟩
theorem Post.frame{B lo:Nat}{D:Nat→Prop}{m:NMap}{h:List Blk}{w w':World}(hr:Rel B lo D m h w)(hb:Below w.heap.size w w'):Post B lo D m h w m h w':=
 ⟨fun _ _=>rfl,by rw[Dx.refl];exact hr.frame hb,hb.mono hr.le,a9 _⟩
theorem Rel.still{B lo:Nat}{D:Nat→Prop}{m:NMap}{h:List Blk}{w:World}(hr:Rel B lo D m h w)(lo':Nat)(hl:h.length≤lo'):Rel w.heap.size lo' D m h w:=
 ⟨a9 _,hr.dom,hr.ok,hr.lt,fun n b hD hn=>by have:=hr.dom n hD;omega,fun n b hD _ hn hd=>hr.lt n b hD hn hd,fun n b hD hn=>by have:=hr.dom n hD;omega,fun n n' b b' hD hD' hn=>by have:=hr.dom n hD;omega,hr.gl.mono (fun _ h=>h) (fun _ _=>rfl) hr.le⟩
def upd(m:NMap)(n:Nat)(i:Info):NMap:=fun k=>if k=n then i else m k
theorem aA{m:NMap}{n:Nat}{i:Info}:upd m n i n=i:=by simp[upd]
theorem dT{m:NMap}{n k:Nat}{i:Info}(h:k≠n):upd m n i k=m k:=by simp[upd,h]
theorem BlkOk.mono{D D':Nat→Prop}{m m':NMap}{w:World}{n:Nat}{b:Blk}(h:BlkOk D m w n b)(hD:∀ k,D k→D' k)(hm:∀ k,D k→m' k=m k)(hn:m' n=m n):BlkOk D' m' w n b:=by
 cases b with
 | dead=>trivial
 | cells es c =>
  refine⟨by rw[hn];exact h.1,fun i v hv=>?_⟩
  obtain⟨v',hc,hr⟩:=h.2 i v hv
  exact⟨v',by rw[hn];exact hc,hr.mono hD hm⟩
 | loop st pend tmps ps assign body dfr =>
  obtain⟨hd,fn,tmps',hh,hr⟩:=h
  exact⟨hD _ hd,fn,tmps',by rw[hn,hm _ hd];exact hh,hr.mono hD hm⟩
 | dfr=>show w.heap[(m' n).block]?=_;rw[hn];exact h
 | iter s pos=>exact⟨by rw[hn];exact h.1,by rw[hn];exact h.2⟩
 | map es clock=>show w.heap[(m' n).block]?=_;rw[hn];exact h
 | tcells t es c =>
  refine⟨by rw[hn];exact h.1,fun i v hv=>?_⟩
  obtain⟨v',hc,hr⟩:=h.2 i v hv
  exact⟨v',by rw[hn];exact hc,hr.mono hD hm⟩
theorem Owns.congr{m m':NMap}{w:World}{n:Nat}{b:Blk}(h:Owns m w n b)(hn:m' n=m n):Owns m' w n b:=by
 cases b with
 | cells es c=>unfold Owns at *;rw[hn];exact h
 | tcells t es c=>unfold Owns at *;rw[hn];exact h
 | _=>trivial
theorem Rel.push{B lo:Nat}{D:Nat→Prop}{m:NMap}{h:List Blk}{w:World}(hr:Rel B lo D m h w)(o:Obj)(b:Blk)(i:Info)(hi:i.block=w.heap.size)(hlo:lo≤h.length)
 (hok:BlkOk (Dx D h.length (h.length+1)) (upd m h.length i) (w.alloc o) h.length b) (hown:Owns (upd m h.length i) (w.alloc o) h.length b) :
 Post B lo D m h w (upd m h.length i) (h++[b]) (w.alloc o):=by
 have hm:∀ n,D n→upd m h.length i n=m n:=fun n hn=>dT (by have:=hr.dom n hn;omega)
 have hb:Below w.heap.size w (w.alloc o):=(Below.refl _ _).alloc (a9 _) o
 have old:∀ n b',Dx D h.length (h.length+1) n→(h++[b])[n]?=some b'→(D n∧h[n]?=some b')∨(n=h.length∧b'=b):=by
  intro n b' hn hb'
  rcases hn with hn|hn
  ·left
   refine⟨hn,?_⟩
   rwa [b4 (hr.dom n hn)] at hb'
  ·right
   obtain rfl:n=h.length:=by omega
   simp at hb'
   exact⟨rfl,hb'.symm⟩
 refine⟨hm,?_,hb.mono hr.le,by simp⟩
 rw[show (h++[b]).length=h.length+1 by simp]
 refine⟨by have:=hr.le;simp;omega,?_,?_,?_,?_,?_,?_,?_,hr.gl.mono (fun _=>.inl) hm (a9 _) (hb.mono hr.le)⟩
 ·intro n hn
  rcases hn with hn|hn
  ·have:=hr.dom n hn;simp;omega
  ·simp;omega
 ·intro n b' hn hb'
  rcases old n b' hn hb' with⟨hD,h'⟩|⟨rfl,rfl⟩
  ·exact ((hr.ok n b' hD h').mono (fun _=>.inl) hm (hm n hD)).keep fun hd=>by rw[hm n hD];exact hb.block _ (hr.lt n b' hD h' hd)
  ·exact hok
 ·intro n b' hn hb' hd
  rcases old n b' hn hb' with⟨hD,h'⟩|⟨rfl,rfl⟩
  ·rw[hm n hD];have:=hr.lt n b' hD h' hd;simp;omega
  ·rw[aA,hi];simp
 ·intro n b' hn hl hb' hd
  rcases old n b' hn hb' with⟨hD,h'⟩|⟨rfl,rfl⟩
  ·rw[hm n hD];exact hr.base n b' hD hl h' hd
  ·rw[aA,hi];exact hr.le
 ·intro n b' hn hl hb' hd
  rcases old n b' hn hb' with⟨hD,h'⟩|⟨rfl,rfl⟩
  ·rw[hm n hD];exact hr.low n b' hD hl h' hd
  ·omega
 ·intro n b' hn hl hb'
  rcases old n b' hn hb' with⟨hD,h'⟩|⟨rfl,rfl⟩
  ·exact ((hr.own n b' hD hl h').congr (hm n hD)).keep fun hd=>by rw[hm n hD];exact hb.block _ (hr.lt n b' hD h' hd)
  ·exact hown
 ·intro n n' b1 b2 hn hn' hl hl' h1 h2 hd hd' he
  rcases old n b1 hn h1 with⟨hD,h1'⟩|⟨rfl,rfl⟩<;>rcases old n' b2 hn' h2 with⟨hD',h2'⟩|⟨rfl,rfl⟩
  ·rw[hm n hD,hm n' hD'] at he;exact hr.inj n n' b1 b2 hD hD' hl hl' h1' h2' hd hd' he
  ·rw[hm n hD,aA,hi] at he;have:=hr.lt n b1 hD h1' hd;omega
  ·rw[hm n' hD',aA,hi] at he;have:=hr.lt n' b2 hD' h2' hd';omega
  ·rfl
theorem Rel.modify{B lo:Nat}{D:Nat→Prop}{m:NMap}{h:List Blk}{w w':World}(hr:Rel B lo D m h w){n:Nat}{b:Blk}(hD:D n)(hl:lo≤n)(hn:h[n]?=some b)(hb:b ≠ .dead)
 (hos:w'.os=w.os) (htp:w'.tape=w.tape) (hout:w'.output=w.output) (hsz:w'.heap.size=w.heap.size) (hoth:∀ k,k≠(m n).block→w'.heap[k]?=w.heap[k]?)
 (b':Blk) (hok:BlkOk D m w' n b') (hown:Owns m w' n b'):Post B lo D m h w m (h.set n b') w':=by
 have hlt:n<h.length:=hr.dom n hD
 have hB:=hr.base n b hD hl hn hb
 have old:∀ k c,D k→(h.set n b')[k]?=some c→(k≠n∧h[k]?=some c)∨(k=n∧c=b'):=by
  intro k c hk hc
  by_cases e:k=n
  ·subst e;rw[d8 hlt] at hc;exact .inr ⟨rfl,(a6 hc).symm⟩
  ·rw[d6 (Ne.symm e)] at hc;exact .inl ⟨e,hc⟩
 have apart:∀ k c,D k→k≠n→h[k]?=some c→c ≠ .dead→(m k).block≠(m n).block:=by
  intro k c hk hne hc hd he
  rcases d4 k lo with h'|h'
  ·have:=hr.low k c hk h' hc hd;omega
  ·exact hne (hr.inj k n c b hk hD h' hl hc hn hd hb he)
 refine⟨fun _ _=>rfl,?_,⟨hos,htp,hout,by omega,fun k hk=>hoth k (by omega)⟩,by simp⟩
 rw[show (h.set n b').length=h.length by simp,Dx.refl]
 refine⟨by have:=hr.le;omega,by simpa using hr.dom,?_,?_,?_,?_,?_,?_,hr.gl.mono (fun _ h=>h) (fun _ _=>rfl) (a9 _) ⟨hos,htp,hout,by omega,fun k hk=>hoth k (by omega)⟩⟩
 ·intro k c hk hc
  rcases old k c hk hc with⟨hne,h'⟩|⟨rfl,rfl⟩
  ·exact (hr.ok k c hk h').keep fun hd=>hoth _ (apart k c hk hne h' hd)
  ·exact hok
 ·intro k c hk hc hd
  rcases old k c hk hc with⟨hne,h'⟩|⟨rfl,rfl⟩
  ·rw[hsz];exact hr.lt k c hk h' hd
  ·rw[hsz];exact hr.lt k b hk hn hb
 ·intro k c hk hl' hc hd
  rcases old k c hk hc with⟨hne,h'⟩|⟨rfl,rfl⟩
  ·exact hr.base k c hk hl' h' hd
  ·exact hB
 ·intro k c hk hl' hc hd
  rcases old k c hk hc with⟨hne,h'⟩|⟨rfl,rfl⟩
  ·exact hr.low k c hk hl' h' hd
  ·omega
 ·intro k c hk hl' hc
  rcases old k c hk hc with⟨hne,h'⟩|⟨rfl,rfl⟩
  ·exact (hr.own k c hk hl' h').keep fun hd=>hoth _ (apart k c hk hne h' hd)
  ·exact hown
 ·intro k k' c c' hk hk' hl1 hl2 hc hc' hd hd' he
  rcases old k c hk hc with⟨hne,h1⟩|⟨rfl,rfl⟩<;>rcases old k' c' hk' hc' with⟨hne',h2⟩|⟨rfl,rfl⟩
  ·exact hr.inj k k' c c' hk hk' hl1 hl2 h1 h2 hd hd' he
  ·exact absurd he (apart k c hk hne h1 hd)
  ·exact absurd he.symm (apart k' c' hk' hne' h2 hd')
  ·rfl
theorem Rel.kill{B lo:Nat}{D:Nat→Prop}{m:NMap}{h:List Blk}{w:World}(hr:Rel B lo D m h w)(n:Nat):Rel B lo D m (h.set n .dead) w:=by
 have old:∀(k:Nat) (c:Blk),(h.set n Blk.dead)[k]?=some c→(h[k]?=some c)∨c=Blk.dead:=by
  intro k c hc
  rw[g9] at hc
  split at hc
  ·split at hc
   ·exact .inr (a6 hc).symm
   ·cases hc
  ·exact .inl hc
 refine⟨hr.le,by simpa using hr.dom,?_,?_,?_,?_,?_,?_,hr.gl⟩
 ·intro k c hk hc
  rcases old k c hc with h'|rfl
  ·exact hr.ok k c hk h'
  ·trivial
 ·intro k c hk hc hd
  rcases old k c hc with h'|rfl
  ·exact hr.lt k c hk h' hd
  ·exact absurd rfl hd
 ·intro k c hk hl hc hd
  rcases old k c hc with h'|rfl
  ·exact hr.base k c hk hl h' hd
  ·exact absurd rfl hd
 ·intro k c hk hl hc hd
  rcases old k c hc with h'|rfl
  ·exact hr.low k c hk hl h' hd
  ·exact absurd rfl hd
 ·intro k c hk hl hc
  rcases old k c hc with h'|rfl
  ·exact hr.own k c hk hl h'
  ·trivial
 ·intro k k' c c' hk hk' hl1 hl2 hc hc' hd hd' he
  rcases old k c hc with h'|rfl
  ·rcases old k' c' hc' with h''|rfl
   ·exact hr.inj k k' c c' hk hk' hl1 hl2 h' h'' hd hd' he
   ·exact absurd rfl hd'
  ·exact absurd rfl hd
theorem Post.kill{B lo:Nat}{D:Nat→Prop}{m:NMap}{h:List Blk}{w:World}(hr:Rel B lo D m h w)(n:Nat):Post B lo D m h w m (h.set n .dead) w:=
 ⟨fun _ _=>rfl,by rw[show (h.set n .dead).length=h.length by simp,Dx.refl];exact hr.kill n,Below.refl _ _,by simp⟩
theorem Rel.pushCells{B lo:Nat}{D:Nat→Prop}{m:NMap}{h:List Blk}{w:World}(hr:Rel B lo D m h w)(hlo:lo≤h.length)(es:Nat){c c':List Value}(hc:VRs D m c c')(t:TypeId) :
 Post B lo D m h w (upd m h.length ⟨w.heap.size,0,c.length,es⟩) (h++[.cells es c]) (w.alloc (.cells ⟨c'⟩ t)):=by
 have hm:∀ n,D n→upd m h.length ⟨w.heap.size,0,c.length,es⟩ n=m n:=fun n hn=>dT (by have:=hr.dom n hn;omega)
 refine hr.push _ _ _ rfl hlo ⟨by rw[aA],fun i v hv=>?_⟩ ?_
 ·obtain⟨v',hv',hvr⟩:=hc.at hv
  refine⟨v',?_,hvr.mono (fun _=>.inl) hm⟩
  rw[aA]
  simp[hv']
 ·unfold Owns
  rw[aA]
  refine⟨a9 _,fun k hk=>⟨⟨c'[k]'(by rw[hc.len];exact hk),?_⟩,by simp⟩⟩
  simp only[Nat.zero_add,World.cell?_alloc_new]
  simp[List.getElem?_eq_getElem (show k<c'.length by rw[hc.len];exact hk)]
theorem Rel.pushRoom{B lo:Nat}{D:Nat→Prop}{m:NMap}{h:List Blk}{w:World}(hr:Rel B lo D m h w)(hlo:lo≤h.length)(es:Nat){c c':List Value}(hc:VRs D m c c')(rest:List Value)(t:TypeId) :
 Post B lo D m h w (upd m h.length ⟨w.heap.size,0,c.length+rest.length,es⟩) (h++[.cells es c]) (w.alloc (.cells ⟨c'++rest⟩ t)):=by
 have hm:∀ n,D n→upd m h.length ⟨w.heap.size,0,c.length+rest.length,es⟩ n=m n:=fun n hn=>dT (by have:=hr.dom n hn;omega)
 refine hr.push _ _ _ rfl hlo ⟨by rw[aA],fun i v hv=>?_⟩ ?_
 ·obtain⟨v',hv',hvr⟩:=hc.at hv
  refine⟨v',?_,hvr.mono (fun _=>.inl) hm⟩
  rw[aA]
  have hi:i<c'.length:=(a7.1 hv').1
  simp[List.getElem?_append_left hi,hv']
 ·unfold Owns
  rw[aA]
  refine⟨Nat.le_add_right _ _,fun k hk=>⟨⟨(c'++rest)[k]'(by simp only[List.length_append,hc.len];exact hk),?_⟩,by simp⟩⟩
  simp only[Nat.zero_add,World.cell?_alloc_new]
  simp[List.getElem?_eq_getElem (show k<(c'++rest).length by simp only[List.length_append,hc.len];exact hk)]
theorem wK(w:World)(c:Array Value)(t:TypeId):(w.alloc (.cells c t)).shape? w.heap.size=some (t,c.size):=by
 simp only[World.shape?,World.alloc_heap_new w _]
theorem pE(w:World)(a:Addr)(v:Value)(r:Nat):(w.setCell a v).shape? r=w.shape? r:=by
 simp only[World.shape?,World.setCell,Array.getElem?_modify]
 by_cases h:a.block=r
 ·subst h
  rw[b8 rfl]
  cases hb:w.heap[a.block]? with
  | none=>rfl
  | some o=>cases o<;>simp<;>split<;>simp
 ·rw[d5 h]
theorem Rel.pushRoomT{B lo:Nat}{D:Nat→Prop}{m:NMap}{h:List Blk}{w:World}(hr:Rel B lo D m h w)(hlo:lo≤h.length)(es:Nat){c c':List Value}(hc:VRs D m c c')(rest:List Value)(t:TypeId)(he:es=0→rest.length=0) :
 Post B lo D m h w (upd m h.length ⟨w.heap.size,0,c.length+rest.length,es⟩) (h++[.tcells t es c]) (w.alloc (.cells ⟨c'++rest⟩ t)):=by
 have hm:∀ n,D n→upd m h.length ⟨w.heap.size,0,c.length+rest.length,es⟩ n=m n:=fun n hn=>dT (by have:=hr.dom n hn;omega)
 refine hr.push _ _ _ rfl hlo ⟨⟨by rw[aA],by rw[aA],c.length+rest.length,by rw[aA];rw[wK];simp[hc.len],by rw[aA];exact a9 _,fun h0=>by have:=he h0;omega⟩,fun i v hv=>?_⟩ ?_
 ·obtain⟨v',hv',hvr⟩:=hc.at hv
  refine⟨v',?_,hvr.mono (fun _=>.inl) hm⟩
  rw[aA]
  have hi:i<c'.length:=(a7.1 hv').1
  simp[List.getElem?_append_left hi,hv']
 ·unfold Owns
  rw[aA]
  refine⟨Nat.le_add_right _ _,fun k hk=>⟨⟨(c'++rest)[k]'(by simp only[List.length_append,hc.len];exact hk),?_⟩,by simp⟩⟩
  simp only[Nat.zero_add,World.cell?_alloc_new]
  simp[List.getElem?_eq_getElem (show k<(c'++rest).length by simp only[List.length_append,hc.len];exact hk)]
theorem bT{b:Nat}:∀(vs:List Value) (o:Nat) (w:World),(w.setCells b o vs).os=w.os∧(w.setCells b o vs).tape=w.tape∧(w.setCells b o vs).output=w.output∧(w.setCells b o vs).heap.size=w.heap.size∧∀ k,k≠b→(w.setCells b o vs).heap[k]?=w.heap[k]?
 | [],o,w=>⟨rfl,rfl,rfl,rfl,fun _ _=>rfl⟩
 | v::r,o,w=>by
  have ih:=bT (b:=b) r (o+1) (w.setCell ⟨b,o,none⟩ v)
  simp only[World.setCells]
  refine⟨ih.1,ih.2.1,ih.2.2.1,by rw[ih.2.2.2.1];simp,fun k hk=>(ih.2.2.2.2 k hk).trans (Below.heap_setCell _ _ _ _ hk)⟩
def splice(c:List Value)(o:Nat)(vs:List Value):List Value:=c.take o++vs++c.drop (o+vs.length)
theorem hG{c:List Value}{o:Nat}{vs:List Value}(h:o+vs.length≤c.length):(splice c o vs).length=c.length:=by
 unfold splice;simp;omega
theorem gH{c:List Value}{o:Nat}{vs:List Value}(h:o+vs.length≤c.length){i:Nat}(h1:o≤i)(h2:i<o+vs.length):(splice c o vs)[i]?=vs[i-o]?:=by
 unfold splice
 rw[List.append_assoc,b7 (by simp;omega),b4 (by simp;omega)]
 simp[Nat.min_eq_left (show o≤c.length by omega)]
theorem iA{c:List Value}{o:Nat}{vs:List Value}(h:o+vs.length≤c.length){i:Nat}(h1:i<o∨o+vs.length≤i):(splice c o vs)[i]?=c[i]?:=by
 unfold splice
 rcases h1 with h1|h1
 ·rw[List.append_assoc,b4 (by simp;omega),i0,b8 h1]
 ·rw[b7 (by simp;omega),g7]
  congr 1
  simp;omega
theorem Rel.writeCells{B lo:Nat}{D:Nat→Prop}{m:NMap}{h:List Blk}{w:World}(hr:Rel B lo D m h w){n es o:Nat}{c vs vs':List Value}(hD:D n)(hl:lo≤n)(hn:h[n]?=some (.cells es c))
 (hfit:o+vs.length≤c.length) (hv:VRs D m vs vs'):Post B lo D m h w m (h.set n (.cells es (splice c o vs))) (w.setCells (m n).block ((m n).off+o) vs'):=by
 obtain⟨s1,s2,s3,s4,s5⟩:=bT (b:=(m n).block) vs' ((m n).off+o) w
 have hown:=hr.own n _ hD hl hn
 have hok:=hr.ok n _ hD hn
 refine hr.modify hD hl hn (by simp) s1 s2 s3 s4 s5 _ ⟨hok.1,fun i v hi=>?_⟩ ⟨by rw[hG hfit];exact hown.1,fun k hk=>?_⟩
 ·have hx : ∀ j, j < vs'.length → (w.cell? ⟨(m n).block, (m n).off + o + j, none⟩).isSome = true := fun j hj => by
    rw[hv.len] at hj
    have:=hown.1
    obtain⟨⟨u,hu⟩,_⟩:=hown.2 (o+j) (by omega)
    rw[e7,hu];rfl
  by_cases hin:o≤i∧i<o+vs.length
  ·rw[gH hfit hin.1 hin.2] at hi
   obtain⟨v',hv',hvr⟩:=hv.at hi
   refine⟨v',?_,hvr⟩
   have hj:i-o<vs'.length:=(a7.1 hv').1
   have:=World.cell?_setCells_in (m n).block vs' ((m n).off+o) w hx (i-o) hj
   rw[show (m n).off+o+(i-o)=(m n).off+i by omega] at this
   rw[this,← hv',b5 hj]
  ·rw[iA hfit (by omega)] at hi
   obtain⟨v',hc,hvr⟩:=hok.2 i v hi
   exact⟨v',by rw[World.cell?_setCells_out _ _ _ _ _ (fun _ _=>by simp;have:=hv.len;omega)];exact hc,hvr⟩
 ·obtain⟨⟨u,hu⟩,hf⟩:=hown.2 k hk
  refine⟨?_,by rw[World.frozen?_setCells];exact hf⟩
  by_cases hin:o≤k∧k<o+vs'.length
  ·have hx : ∀ j, j < vs'.length → (w.cell? ⟨(m n).block, (m n).off + o + j, none⟩).isSome = true := fun j hj => by
     rw[hv.len] at hj
     have:=hown.1
     obtain⟨⟨u,hu⟩,_⟩:=hown.2 (o+j) (by omega)
     rw[e7,hu];rfl
   have:=World.cell?_setCells_in (m n).block vs' ((m n).off+o) w hx (k-o) (by omega)
   rw[show (m n).off+o+(k-o)=(m n).off+k by omega] at this
   exact⟨_,this⟩
  ·exact⟨u,by rw[World.cell?_setCells_out _ _ _ _ _ (fun _ _=>by simp;omega)];exact hu⟩
theorem iJ(b o:Nat)(vs:List Value)(w:World)(r:Nat):(w.setCells b o vs).shape? r=w.shape? r:=by
 induction vs generalizing o w with
 | nil=>rfl
 | cons v vs ih=>simp only[World.setCells];rw[ih,pE]
theorem Rel.writeT{B lo:Nat}{D:Nat→Prop}{m:NMap}{h:List Blk}{w:World}(hr:Rel B lo D m h w){n t es o:Nat}{c vs vs':List Value}(hD:D n)(hl:lo≤n)(hn:h[n]?=some (.tcells t es c))
 (hfit:o+vs.length≤c.length) (hv:VRs D m vs vs'):Post B lo D m h w m (h.set n (.tcells t es (splice c o vs))) (w.setCells (m n).block ((m n).off+o) vs'):=by
 obtain⟨s1,s2,s3,s4,s5⟩:=bT (b:=(m n).block) vs' ((m n).off+o) w
 have hown:=hr.own n _ hD hl hn
 have hok:=hr.ok n _ hD hn
 refine hr.modify hD hl hn (by simp) s1 s2 s3 s4 s5 _ ⟨by obtain⟨a1,a2,k,a3,a4,a5⟩:=hok.1;exact⟨a1,a2,k,by rw[iJ];exact a3,a4,by rw[hG hfit];exact a5⟩,fun i v hi=>?_⟩ ⟨by rw[hG hfit];exact hown.1,fun k hk=>?_⟩
 ·have hx : ∀ j, j < vs'.length → (w.cell? ⟨(m n).block, (m n).off + o + j, none⟩).isSome = true := fun j hj => by
    rw[hv.len] at hj
    have:=hown.1
    obtain⟨⟨u,hu⟩,_⟩:=hown.2 (o+j) (by omega)
    rw[e7,hu];rfl
  by_cases hin:o≤i∧i<o+vs.length
  ·rw[gH hfit hin.1 hin.2] at hi
   obtain⟨v',hv',hvr⟩:=hv.at hi
   refine⟨v',?_,hvr⟩
   have hj:i-o<vs'.length:=(a7.1 hv').1
   have:=World.cell?_setCells_in (m n).block vs' ((m n).off+o) w hx (i-o) hj
   rw[show (m n).off+o+(i-o)=(m n).off+i by omega] at this
   rw[this,← hv',b5 hj]
  ·rw[iA hfit (by omega)] at hi
   obtain⟨v',hc,hvr⟩:=hok.2 i v hi
   exact⟨v',by rw[World.cell?_setCells_out _ _ _ _ _ (fun _ _=>by simp;have:=hv.len;omega)];exact hc,hvr⟩
 ·obtain⟨⟨u,hu⟩,hf⟩:=hown.2 k hk
  refine⟨?_,by rw[World.frozen?_setCells];exact hf⟩
  by_cases hin:o≤k∧k<o+vs'.length
  ·have hx : ∀ j, j < vs'.length → (w.cell? ⟨(m n).block, (m n).off + o + j, none⟩).isSome = true := fun j hj => by
     rw[hv.len] at hj
     have:=hown.1
     obtain⟨⟨u,hu⟩,_⟩:=hown.2 (o+j) (by omega)
     rw[e7,hu];rfl
   have:=World.cell?_setCells_in (m n).block vs' ((m n).off+o) w hx (k-o) (by omega)
   rw[show (m n).off+o+(k-o)=(m n).off+k by omega] at this
   exact⟨_,this⟩
  ·exact⟨u,by rw[World.cell?_setCells_out _ _ _ _ _ (fun _ _=>by simp;omega)];exact hu⟩
def prun{α:Type}(P:Program):Sem α→Option α
 | .pure a=>some a
 | .program k=>prun P (k P)
 | .mark _ k=>prun P k
 | _=>none
theorem cH{α:Type}{P:Program}{s:Sem α}{a:α}(h:prun P s=some a)(w:World):s.run P w = .ok a w:=by
 induction s with
 | pure b=>simp[prun] at h;subst h;rfl
 | program k ih=>simp only[prun] at h;simp only[Sem.run];exact ih _ h
 | mark m k ih=>simp only[prun] at h;simp only[Sem.run];exact ih h
 | _=>simp[prun] at h
def StepV(P:Program)(B lo:Nat)(D:Nat→Prop)(m:NMap)(h:List Blk)(w:World)(s:Sem Value)(v:Value)(h':List Blk):Prop:=
 ∃ v' w' m',s.run P w = .ok v' w'∧Post B lo D m h w m' h' w'∧VR (Dx D h.length h'.length) m' v v'
theorem StepV.pure{P:Program}{B lo:Nat}{D:Nat→Prop}{m:NMap}{h:List Blk}{w:World}{s:Sem Value}{v v':Value}(hr:Rel B lo D m h w)(hs:s.run P w = .ok v' w)(hv:VR D m v v'):StepV P B lo D m h w s v h:=
 ⟨v',w,m,hs,Post.refl hr,by rw[Dx.refl];exact hv⟩
def aL(h:List Blk)(n o k:Nat):Option (List Value):=
 match h[n]? with
 | some (.cells _ c)=>if o+k≤c.length then some ((c.drop o).take k) else none
 | some (.tcells _ _ c)=>if o+k≤c.length then some ((c.drop o).take k) else none
 | _=>none
theorem aZ{B lo:Nat}{D:Nat→Prop}{m:NMap}{h:List Blk}{w:World}(hr:Rel B lo D m h w){n o k:Nat}{l:List Value}(hD:D n)(hl:aL h n o k=some l) :
 ∃ l',VRs D m l l'∧l.length=k∧∀(j:Nat) v,l'[j]?=some v→w.cell? ⟨(m n).block,(m n).off+o+j,none⟩=some v:=by
 unfold aL at hl
 split at hl
 ·rename_i es c hn
  split at hl
  ·rename_i hk
   obtain rfl:=a6 hl
   have hok:=(hr.ok n _ hD hn).2
   refine⟨(List.range k).map fun j=>(w.cell? ⟨(m n).block,(m n).off+(o+j),none⟩).getD undef,⟨by simp;omega,fun i v v' hv hv'=>?_⟩,by simp;omega,fun j v hj=>?_⟩
   ·simp only[List.getElem?_take,List.getElem?_drop] at hv
    split at hv
    ·rename_i hi
     simp only[List.getElem?_map,List.getElem?_range hi,Option.map_some,Option.some.injEq] at hv'
     obtain⟨u,hu,hvr⟩:=hok _ _ hv
     rw[hu] at hv'
     simp at hv'
     subst hv'
     exact hvr
    ·cases hv
   ·have hj' : j < k := by
      have:=(a7.1 hj).1
      simpa using this
    simp only[List.getElem?_map,List.getElem?_range hj',Option.map_some,Option.some.injEq] at hj
    obtain⟨u,hu,hvr⟩:=hok (o+j) c[o+j] (b5 (by omega))
    rw[hu] at hj
    simp at hj
    subst hj
    rw[e7]
    exact hu
  ·cases hl
 ·rename_i ty es c hn
  split at hl
  ·rename_i hk
   obtain rfl:=a6 hl
   have hok:=(hr.ok n _ hD hn).2
   refine⟨(List.range k).map fun j=>(w.cell? ⟨(m n).block,(m n).off+(o+j),none⟩).getD undef,⟨by simp;omega,fun i v v' hv hv'=>?_⟩,by simp;omega,fun j v hj=>?_⟩
   ·simp only[List.getElem?_take,List.getElem?_drop] at hv
    split at hv
    ·rename_i hi
     simp only[List.getElem?_map,List.getElem?_range hi,Option.map_some,Option.some.injEq] at hv'
     obtain⟨u,hu,hvr⟩:=hok _ _ hv
     rw[hu] at hv'
     simp at hv'
     subst hv'
     exact hvr
    ·cases hv
   ·have hj' : j < k := by
      have:=(a7.1 hj).1
      simpa using this
    simp only[List.getElem?_map,List.getElem?_range hj',Option.map_some,Option.some.injEq] at hj
    obtain⟨u,hu,hvr⟩:=hok (o+j) c[o+j] (b5 (by omega))
    rw[hu] at hj
    simp at hj
    subst hj
    rw[e7]
    exact hu
  ·cases hl
 ·cases hl
theorem bU(b o i:Nat):(⟨b,o,none⟩:Addr).add i=⟨b,o+i,none⟩:=by
 unfold Addr.add;split<;>simp_all
theorem cB{P:Program}{b o:Nat}{l':List Value}{w:World}(h:∀(j:Nat) v,l'[j]?=some v→w.cell? ⟨b,o+j,none⟩=some v)(k:Nat)(hk:l'.length=k) :
 (loadCells ⟨b,o,none⟩ k).run P w = .ok ⟨l'⟩ w:=by
 subst hk
 exact run_loadCells_list w _ l' (fun j v hj=>by rw[bU];exact h j v hj)
def jG(P:Program)(t:TypeId):Option Bool:=
 match P.underlying t with
 | some (.struct _)=>some true
 | some (.array _ _)=>some true
 | some _=>some false
 | none=>none
theorem lC{P:Program}{t:TypeId}{g:Bool}(h:jG P t=some g)(w:World):(isAgg t).run P w = .ok g w:=by
 unfold jG at h
 split at h<;>simp_all [isAgg,underlying]
theorem bD{P:Program}{t:TypeId}{i:TypeInfo}(h:P.info? t=some i)(w:World):(sizeOf t).run P w = .ok i.size w:=by
 simp[sizeOf,typeInfo,h]
def gM(P:Program)(t:TypeId)(h:List Blk)(n o:Nat):Option Value:=
 match jG P t with
 | some true =>
  match P.info? t with
  | some i=>(aL h n o i.size).map fun l=>.agg ⟨l⟩
  | none=>none
 | some false =>
  match aL h n o 1 with
  | some [v]=>some v
  | _=>none
 | none=>none
theorem mQ{P:Program}{B lo:Nat}{D:Nat→Prop}{m:NMap}{h:List Blk}{w:World}(hr:Rel B lo D m h w){t:TypeId}{n o:Nat}{v:Value}(hD:D n)(hv:gM P t h n o=some v) :
 ∃ v',(loadVar t ⟨(m n).block,(m n).off+o,none⟩).run P w = .ok v' w∧VR D m v v':=by
 unfold gM at hv
 split at hv
 ·rename_i hg
  split at hv
  ·rename_i i hi
   cases hl:aL h n o i.size with
   | none=>rw[hl] at hv;cases hv
   | some l =>
    rw[hl] at hv
    obtain rfl:=a6 hv
    obtain⟨l',hvr,hk,hc⟩:=aZ hr hD hl
    refine⟨.agg ⟨l'⟩,?_,VR.agg' hvr⟩
    simp[loadVar,lC hg,bD hi,cB hc _ (hvr.len.trans hk)]
  ·cases hv
 ·rename_i hg
  split at hv
  ·rename_i v0 hl
   obtain rfl:=a6 hv
   obtain⟨l',hvr,hk,hc⟩:=aZ hr hD hl
   obtain⟨v',hv',hx⟩:=hvr.at (i:=0) (v:=v0) rfl
   refine⟨v',?_,hx⟩
   have:=hc 0 v' hv'
   simp at this
   simp[loadVar,lC hg,this]
  ·cases hv
 ·cases hv
theorem fT{D:Nat→Prop}{m:NMap}{v v':Value}(h:VR D m v v')(h1:v.oneCell'=true):v'.oneCell'=true:=by
 cases h<;>simp_all [Value.oneCell']
theorem eB{D:Nat→Prop}{m:NMap}{v v':Value}(h:VR D m v v'):VRs D m v.cells.toList v'.cells.toList:=by
 have one:∀ u u',VR D m u u'→VRs D m [u] [u']:=fun u u' h=>VRs.cons h VRs.nil
 cases h with
 | agg a a' la ha=>exact⟨la,ha⟩
 | bool b=>exact one _ _ (.bool b)
 | int k n=>exact one _ _ (.int k n)
 | float k n n' h=>exact one _ _ (.float k n n' h)
 | complex k a b a' b' h g=>exact one _ _ (.complex k a b a' b' h g)
 | string s=>exact one _ _ (.string s)
 | nilPtr=>exact one _ _ .nilPtr
 | ptr n o h=>exact one _ _ (.ptr n o h)
 | nilSlice l c=>exact one _ _ (.nilSlice l c)
 | slice n o l c c' h hl hc he=>exact one _ _ (.slice n o l c c' h hl hc he)
 | vague a c=>exact one _ _ (.vague a c)
 | byte n=>exact one _ _ (.byte n)
 | nilMap=>exact one _ _ .nilMap
 | map n h=>exact one _ _ (.map n h)
 | func f a b a' b' la ha lb hb=>exact one _ _ (.func f a b a' b' la ha lb hb)
 | yield n h=>exact one _ _ (.yield n h)
 | nilFunc=>exact one _ _ .nilFunc
 | nilIface=>exact one _ _ .nilIface
 | iface t v v' h=>exact one _ _ (.iface t v v' h)
 | tuple a a' la ha=>exact one _ _ (.tuple a a' la ha)
def aS(h:List Blk)(n o:Nat)(vs:List Value):Option (List Blk):=
 match h[n]? with
 | some (.cells es c)=>if o+vs.length≤c.length∧vs.all (·.oneCell')=true then some (h.set n (.cells es (splice c o vs))) else none
 | some (.tcells t es c)=>if o+vs.length≤c.length∧vs.all (·.oneCell')=true then some (h.set n (.tcells t es (splice c o vs))) else none
 | _=>none
theorem dG{P:Program}{B lo:Nat}{D:Nat→Prop}{m:NMap}{h h':List Blk}{w:World}(hr:Rel B lo D m h w){n o:Nat}{vs vs':List Value}(hD:D n)(hl:lo≤n)(hw:aS h n o vs=some h')(hv:VRs D m vs vs') :
 (storeCells ⟨(m n).block,(m n).off+o,none⟩ vs').run P w = .ok () (w.setCells (m n).block ((m n).off+o) vs')∧Post B lo D m h w m h' (w.setCells (m n).block ((m n).off+o) vs'):=by
 unfold aS at hw
 split at hw
 ·rename_i es c hn
  split at hw
  ·rename_i hc
   obtain rfl:=a6 hw
   obtain⟨hfit,hone⟩:=hc
   have hown:=hr.own n _ hD hl hn
   have hx:∀ j,j<vs'.length→(∃ u,w.cell? ⟨(m n).block,(m n).off+o+j,none⟩=some u)∧w.frozen? ⟨(m n).block,(m n).off+o+j,none⟩=false:=fun j hj=>by
    rw[hv.len] at hj
    have:=hown.1
    rw[e7]
    exact hown.2 (o+j) (by omega)
   refine⟨?_,hr.writeCells hD hl hn hfit hv⟩
   have:=run_storeCells_cells (P:=P) (m n).block ((m n).off+o) vs' 0 w (fun j hj=>by obtain⟨u,hu⟩:=(hx j hj).1;simp[hu]) (fun j hj=>by simpa using (hx j hj).2) (fun x hx=>by
    obtain⟨i,hi⟩:=i4.1 hx
    have hlt:i<vs.length:=by have:=(a7.1 hi).1;rw[hv.len] at this;exact this
    exact fT (hv.at' i _ _ (b5 hlt) hi) (by simpa using (a8.1 hone) _ (List.getElem_mem hlt)))
   simpa using this
  ·cases hw
 ·rename_i t es c hn
  split at hw
  ·rename_i hc
   obtain rfl:=a6 hw
   obtain⟨hfit,hone⟩:=hc
   have hown:=hr.own n _ hD hl hn
   have hx:∀ j,j<vs'.length→(∃ u,w.cell? ⟨(m n).block,(m n).off+o+j,none⟩=some u)∧w.frozen? ⟨(m n).block,(m n).off+o+j,none⟩=false:=fun j hj=>by
    rw[hv.len] at hj
    have:=hown.1
    rw[e7]
    exact hown.2 (o+j) (by omega)
   refine⟨?_,hr.writeT hD hl hn hfit hv⟩
   have:=run_storeCells_cells (P:=P) (m n).block ((m n).off+o) vs' 0 w (fun j hj=>by obtain⟨u,hu⟩:=(hx j hj).1;simp[hu]) (fun j hj=>by simpa using (hx j hj).2) (fun x hx=>by
    obtain⟨i,hi⟩:=i4.1 hx
    have hlt:i<vs.length:=by have:=(a7.1 hi).1;rw[hv.len] at this;exact this
    exact fT (hv.at' i _ _ (b5 hlt) hi) (by simpa using (a8.1 hone) _ (List.getElem_mem hlt)))
   simpa using this
  ·cases hw
 ·cases hw
def dJ(P:Program)(t:TypeId)(h:List Blk)(n o:Nat)(v:Value):Option (List Blk):=
 match P.info? t with
 | some i=>if v.cells.size=i.size then aS h n o v.cells.toList else none
 | none=>none
theorem rN{P:Program}{B lo:Nat}{D:Nat→Prop}{m:NMap}{h h':List Blk}{w:World}(hr:Rel B lo D m h w){t:TypeId}{n o:Nat}{v v':Value}(hD:D n)(hl:lo≤n)(hw:dJ P t h n o v=some h')(hv:VR D m v v') :
 ∃ w',(storeVar t ⟨(m n).block,(m n).off+o,none⟩ v').run P w = .ok () w'∧Post B lo D m h w m h' w':=by
 unfold dJ at hw
 split at hw
 ·rename_i i hi
  split at hw
  ·rename_i hs
   obtain⟨h1,h2⟩:=dG (P:=P) hr hD hl hw (eB hv)
   have hs':v'.cells.size=i.size:=by
    have:=(eB hv).len
    simp only[Array.length_toList] at this
    omega
   refine⟨_,?_,h2⟩
   simp[storeVar,bD hi,hs',h1]
  ·cases hw
 ·cases hw
theorem kQ{P:Program}{B lo:Nat}{D:Nat→Prop}{m:NMap}{h:List Blk}{w:World}(hr:Rel B lo D m h w)(hlo:lo≤h.length)(es:Nat)(t:TypeId){v v':Value}(hv:VR D m v v') :
 StepV P B lo D m h w (do pure (.pointer (some (← newVar t v')))) (.pointer (some ⟨h.length,0,none⟩)) (h++[.cells es v.cells.toList]):=by
 have hp:=hr.pushCells hlo es (eB hv) t
 refine⟨.pointer (some ⟨w.heap.size,0,none⟩),w.alloc (.cells v'.cells t),_,by simp[newVar,newRow],hp,?_⟩
 have:=VR.ptr (D:=Dx D h.length (h++[Blk.cells es v.cells.toList]).length) (m:=upd m h.length ⟨w.heap.size,0,v.cells.toList.length,es⟩) h.length 0 (.inr (by simp))
 rwa [aA] at this
theorem pD{P:Program}{B lo:Nat}{D:Nat→Prop}{m:NMap}{h:List Blk}{w:World}(hr:Rel B lo D m h w)(hlo:lo≤h.length)(t:TypeId){v v':Value}(hv:VR D m v v') :
 StepV P B lo D m h w (do pure (.pointer (some (← newVar t v')))) (.pointer (some ⟨h.length,0,none⟩)) (h++[.tcells t 0 v.cells.toList]):=by
 have hp:=hr.pushRoomT hlo 0 (eB hv) [] t (fun _=>rfl)
 rw[List.append_nil] at hp
 refine⟨.pointer (some ⟨w.heap.size,0,none⟩),w.alloc (.cells v'.cells t),_,by simp[newVar,newRow],hp,?_⟩
 have:=VR.ptr (D:=Dx D h.length (h++[Blk.tcells t 0 v.cells.toList]).length) (m:=upd m h.length ⟨w.heap.size,0,v.cells.toList.length+([]:List Value).length,0⟩) h.length 0 (.inr (by simp))
 rwa [aA] at this
abbrev AOut:=Option (Value×List Blk×Option Nat)
def WrOk(lo:Nat)(wr:Option Nat):Prop:=∀ n,wr=some n→lo≤n
def tK(_:Program)(_:TypeId):Nat:=0
def depth:Nat:=60
def aP(v:Value):Bool:=clean depth v
def aR(v:Value):Bool:=clean depth v&&fV depth v
theorem mB{v:Value}(h:aP v=false):aR v=false:=by
 unfold aR
 unfold aP at h
 rw[h]
 rfl
theorem VR.eq_fixed{D:Nat→Prop}{m:NMap}{v v':Value}(hr:VR D m v v')(h:aR v=true):v'=v:=by
 simp only[aR,Bool.and_eq_true] at h
 exact hr.eq_of_fixed depth _ _ h.1 h.2
def fL:Operand→Bool
 | .tmp _=>true
 | .func _=>true
 | .const v=>aP v
 | .global g=>decide (g<NG)
theorem kG{D:Nat→Prop}{m:NMap}{off:Nat}:∀(l l':List Value) (k:Nat) (c c':Array Value),VRs D m l l'→VRs D m c.toList c'.toList →
 VRs D m ((l.zipIdx k).foldl (fun (cs:Array Value) (x:Value×Nat)=>cs.setIfInBounds (off+x.2) x.1) c).toList ((l'.zipIdx k).foldl (fun (cs:Array Value) (x:Value×Nat)=>cs.setIfInBounds (off+x.2) x.1) c').toList
 | [],l',k,c,c',hl,hc=>by
  have:l'=[]:=by have:=hl.len;simpa using this
  subst this
  exact hc
 | v::l,l',k,c,c',hl,hc=>by
  obtain⟨v',rest,rfl⟩:∃ v' rest,l'=v'::rest:=by
   have h1:=hl.len
   cases l' with
   | nil=>simp at h1
   | cons a b=>exact⟨a,b,rfl⟩
  have hv:VR D m v v':=hl.at' 0 _ _ rfl rfl
  have hs:VRs D m l rest:=⟨by have:=hl.len;simpa using this,fun i x x' h h'=>hl.at' (i+1) _ _ (by simpa using h) (by simpa using h')⟩
  simp only[List.zipIdx_cons,List.foldl_cons]
  refine kG l rest (k+1) _ _ hs ?_
  simp only[Array.toList_setIfInBounds]
  exact hc.set _ hv
structure PRs(D:Nat→Prop)(m:NMap)(ps ps':List (Nat×Value)):Prop where
 len:ps'.length=ps.length
 at':∀(i:Nat) p p',ps[i]?=some p→ps'[i]?=some p'→p'.1=p.1∧VR D m p.2 p'.2
theorem nH{D:Nat→Prop}{m:NMap}{place:Nat→Option (Nat×Nat)}:∀(ps ps':List (Nat×Value)) (c c' r:Array Value),PRs D m ps ps'→VRs D m c.toList c'.toList→Instr.fill place c ps=some r →
 ∃ r',Instr.fill place c' ps'=some r'∧VRs D m r.toList r'.toList
 | [],ps',c,c',r,hp,hc,hf=>by
  have:ps'=[]:=by have:=hp.len;simpa using this
  subst this
  simp[Instr.fill] at hf
  subst hf
  exact⟨c',rfl,hc⟩
 | (i,v)::ps,ps',c,c',r,hp,hc,hf=>by
  obtain⟨p',rest,rfl⟩:∃ v' rest,ps'=v'::rest:=by
   have h1:=hp.len
   cases ps' with
   | nil=>simp at h1
   | cons a b=>exact⟨a,b,rfl⟩
  obtain⟨i',v'⟩:=p'
  obtain⟨e1,hv⟩:=hp.at' 0 _ _ rfl rfl
  simp only at e1 hv
  subst e1
  have hs:PRs D m ps rest:=⟨by have:=hp.len;simpa using this,fun i x x' h h'=>hp.at' (i+1) _ _ (by simpa using h) (by simpa using h')⟩
  have hcv:=eB hv
  have hsz:v'.cells.size=v.cells.size:=by have:=hcv.len;simpa using this
  have hcs:c'.size=c.size:=by have:=hc.len;simpa using this
  simp only[Instr.fill] at hf ⊢
  split at hf
  ·cases hf
  ·rename_i off size hpl
   split at hf
   ·cases hf
   ·rename_i hcond
    rw[d5 (by rw[hsz,hcs];exact hcond)]
    refine nH ps rest _ _ r hs ?_ hf
    have:=kG (off:=off) v.cells.toList v'.cells.toList 0 c c' hcv hc
    simpa only[← Array.foldl_toList,Array.toList_zipIdx] using this
def jT(P:Program)(t:TypeId)(parts:Array (Nat×Value)):Option Value:=
 match P.info? t with
 | some i=>match i.zero with
  | some z => if aP z = true then
      match P.underlying t with
      | some (.struct fields)=>(Instr.fill ((fields.map fun f=>(f.offset,P.cellsOf f.type))[·]?) z.cells parts.toList).bind fun c=>if fields.all (fun f=>(P.info? f.type).isSome)=true then some (.agg c) else none
      | some (.array _ e)=>(Instr.fill (fun k=>some (k*P.cellsOf e,P.cellsOf e)) z.cells parts.toList).bind fun c=>if (P.info? e).isSome=true then some (.agg c) else none
      | _=>none
   else none
  | none=>none
 | none=>none
theorem aF{P:Program}{t:TypeId}(h:(P.info? t).isSome=true)(w:World):(sizeOf t).run P w = .ok (P.cellsOf t) w:=by
 obtain⟨i,hi⟩:=Option.isSome_iff_exists.1 h
 simp[sizeOf,typeInfo,hi,Program.cellsOf]
theorem mR{P:Program}{w:World}:∀(l:List Field) (acc:List (Nat×Nat)),l.all (fun f=>(P.info? f.type).isSome)=true →
 (List.mapM.loop (fun f:Field=>(do pure (f.offset,← sizeOf f.type):Sem (Nat×Nat))) l acc).run P w = .ok (acc.reverse++l.map fun f=>(f.offset,P.cellsOf f.type)) w
 | [],acc,_=>by simp[List.mapM.loop]
 | f::l,acc,h=>by
  simp only[List.all_cons,Bool.and_eq_true] at h
  have:=mR (w:=w) l ((f.offset,P.cellsOf f.type)::acc) h.2
  simp only[List.mapM.loop,Sem.run_bind,aF h.1,Result.andThen_ok,Sem.run_pure,this]
  simp
theorem rX{P:Program}{D:Nat→Prop}{m:NMap}{t:TypeId}{ps ps':Array (Nat×Value)}{v:Value}(hp:PRs D m ps.toList ps'.toList)(hv:jT P t ps=some v) :
 ∃ v',(∀ w,(Instr.build t ps').run P w = .ok v' w)∧VR D m v v':=by
 unfold jT at hv
 split at hv
 ·rename_i i hi
  split at hv
  ·rename_i z hz
   split at hv
   ·rename_i hc
    have hzr:∀ w,(zeroValue t).run P w = .ok z w:=fun w=>by simp[zeroValue,typeInfo,hi,hz]
    have hzc:=eB (VR.of_clean (D:=D) (m:=m) depth z hc)
    split at hv
    ·rename_i fields hu
     cases hf:Instr.fill ((fields.map fun f=>(f.offset,P.cellsOf f.type))[·]?) z.cells ps.toList with
     | none=>rw[hf] at hv;cases hv
     | some c =>
      rw[hf] at hv
      simp only[Option.bind_some] at hv
      split at hv
      ·rename_i hall
       obtain rfl:=a6 hv
       obtain⟨c',hf',hcv⟩:=nH _ _ _ _ _ hp hzc hf
       refine⟨.agg c',fun w=>?_,?_⟩
       ·have hm : (fields.mapM fun f : Field => (do pure (f.offset, ← sizeOf f.type) : Sem (Nat × Nat))).run P w = .ok (fields.map fun f => (f.offset, P.cellsOf f.type)) w := by
          rw[Array.mapM_eq_mapM_toList]
          simp only[List.mapM,Sem.run_map]
          rw[mR _ _ (by simpa using hall)]
          simp only[Result.andThen_ok,List.reverse_nil,List.nil_append]
          rw[show (List.map (fun f:Field=>(f.offset,P.cellsOf f.type)) fields.toList).toArray=fields.map fun f=>(f.offset,P.cellsOf f.type) from Array.ext' (by simp)]
        simp only[Instr.build,Sem.run_bind,hzr,Result.andThen_ok,run_underlying hu,hm,hf']
        rfl
       ·exact .agg' hcv
      ·cases hv
    ·rename_i n e hu
     cases hf:Instr.fill (fun k=>some (k*P.cellsOf e,P.cellsOf e)) z.cells ps.toList with
     | none=>rw[hf] at hv;cases hv
     | some c =>
      rw[hf] at hv
      simp only[Option.bind_some] at hv
      split at hv
      ·rename_i hall
       obtain rfl:=a6 hv
       obtain⟨c',hf',hcv⟩:=nH _ _ _ _ _ hp hzc hf
       refine⟨.agg c',fun w=>?_,.agg' hcv⟩
       simp only[Instr.build,Sem.run_bind,hzr,Result.andThen_ok,run_underlying hu,aF hall,hf']
       rfl
      ·cases hv
    ·cases hv
   ·cases hv
  ·cases hv
 ·cases hv
def dC(z:Array Value)(n:Nat):Array Value:=(Array.range n).map (z[· % z.size]!)
theorem nP{D:Nat→Prop}{m:NMap}{z:Array Value}(hz:∀ v∈z.toList,VR D m v v)(n:Nat):VRs D m (dC z n).toList (dC z n).toList:=by
 refine VRs.refl_of fun v hv=>?_
 unfold dC at hv
 simp only[Array.toList_map,List.mem_map] at hv
 obtain⟨k,_,rfl⟩:=hv
 by_cases h:k%z.size<z.size
 ·rw[getElem!_pos z _ h]
  exact hz _ (by simp)
 ·rw[getElem!_neg z _ h]
  exact .bool _
def lJ(P:Program)(e:TypeId)(n:Nat):Option (Array Value):=
 if n=0 then some #[] else
 match P.info? e with
 | some i=>match i.zero with
  | some z=>if aP z=true then some z.cells else none
  | none=>none
 | none=>none
theorem nR{P:Program}{e:TypeId}{n:Nat}{z:Array Value}(h:lJ P e n=some z)(w:World) :
 ((n=0∧z=#[])∨(n≠0∧∃ v,(zeroValue e).run P w = .ok v w∧z=v.cells))∧∀(D:Nat→Prop) (m:NMap),∀ v∈z.toList,VR D m v v:=by
 unfold lJ at h
 split at h
 ·rename_i h0
  obtain rfl:=a6 h
  refine⟨.inl ⟨h0,rfl⟩,fun D m v hv=>by simp at hv⟩
 ·rename_i h0
  split at h
  ·rename_i i hi
   split at h
   ·rename_i z0 hz
    split at h
    ·rename_i hc
     obtain rfl:=a6 h
     refine⟨.inr ⟨h0,z0,by simp[zeroValue,typeInfo,hi,hz],rfl⟩,fun D m v hv=>?_⟩
     have hx:=eB (VR.of_clean (D:=D) (m:=m) depth z0 hc)
     obtain⟨k,hk⟩:=i4.1 hv
     exact hx.at' k v v hk hk
    ·cases h
   ·cases h
  ·cases h
def cF(P:Program)(t:TypeId)(len:Nat)(parts:Array (Nat×Value))(h:List Blk):Option (Value×List Blk):=
 match P.underlying t with
 | some (.slice e) =>
  if (P.info? e).isSome=true∧¬ len*P.cellsOf e>2^24 then
   match lJ P e (len*P.cellsOf e) with
   | some z => (Instr.fill (fun i => some (i * P.cellsOf e, P.cellsOf e)) (dC z (len * P.cellsOf e)) parts.toList).bind fun c =>
       if c.size=len*P.cellsOf e then some (.slice (some ⟨h.length,0,none⟩) len len,h++[.cells (P.cellsOf e) c.toList]) else none
   | none=>none
  else none
 | _=>none
theorem iU{D:Nat→Prop}{h h':List Blk}{m:NMap}{i:Info}{l c c':Nat}(hlen:h.length<h'.length)(hl:l≤c)(hc:c≤c')(he:c'*i.es≤i.ext)(ho:i.off=0) :
 VR (Dx D h.length h'.length) (upd m h.length i) (.slice (some ⟨h.length,0,none⟩) l c) (.slice (some ⟨i.block,0,none⟩) l c'):=by
 have:=VR.slice (D:=Dx D h.length h'.length) (m:=upd m h.length i) h.length 0 l c c' (.inr ⟨a9 _,hlen⟩) hl hc (.inr (by rw[aA];omega))
 rw[aA,ho] at this
 exact this
theorem lE{P:Program}{B lo:Nat}{D:Nat→Prop}{m:NMap}{h h':List Blk}{w:World}(hr:Rel B lo D m h w)(hlo:lo≤h.length){t:TypeId}{len:Nat}{ps ps':Array (Nat×Value)}{v:Value}
 (hp:PRs D m ps.toList ps'.toList) (hv:cF P t len ps h=some (v,h')):StepV P B lo D m h w (Instr.buildSlice t len ps') v h':=by
 unfold cF at hv
 split at hv
 ·rename_i e hu
  split at hv
  ·rename_i hc
   obtain⟨hi,hlim⟩:=hc
   split at hv
   ·rename_i z hz
    cases hf:Instr.fill (fun i=>some (i*P.cellsOf e,P.cellsOf e)) (dC z (len*P.cellsOf e)) ps.toList with
    | none=>rw[hf] at hv;cases hv
    | some c =>
     rw[hf] at hv
     simp only[Option.bind_some] at hv
     split at hv
     ·rename_i hsz
      obtain⟨rfl,rfl⟩:=Prod.mk.inj (a6 hv)
      obtain⟨hzr,hzv⟩:=nR hz w
      obtain⟨c',hf',hcv⟩:=nH _ _ _ _ _ hp (nP (hzv D m) _) hf
      have hpost:=hr.pushCells hlo (P.cellsOf e) hcv e
      refine⟨.slice (some ⟨w.heap.size,0,none⟩) len len,w.alloc (.cells c' e),_,?_,hpost,?_⟩
      ·unfold dC at hf'
       rcases hzr with⟨h0,rfl⟩|⟨h0,v0,hv0,rfl⟩
       ·simp only[Instr.buildSlice,Sem.run_bind,run_underlying hu,Result.andThen_ok,aF hi,if_neg hlim,if_pos h0,Sem.run_pure,hf',newRow,run_newObj_alloc]
       ·simp only[Instr.buildSlice,Sem.run_bind,run_underlying hu,Result.andThen_ok,aF hi,if_neg hlim,if_neg h0,Sem.run_pure,hv0,hf',newRow,run_newObj_alloc]
      ·exact iU (by simp) (a9 _) (a9 _) (by simp[← hsz]) rfl
     ·cases hv
   ·cases hv
  ·cases hv
 ·cases hv
def eH(P:Program)(t:TypeId)(l c:Value)(h:List Blk):Option (Value×List Blk):=
 match P.underlying t,l,c with
 | some (.slice e),.int _ l,.int _ c =>
  match P.info? e with
  | some i =>
   if IntKind.i64.wrap l=l∧IntKind.i64.wrap c=c∧0≤l∧l≤c∧¬((i.bytes:Int)*c>2^48) then
    match lJ P e (c.toNat*i.size) with
    | some z=>some (.slice (some ⟨h.length,0,none⟩) l.toNat c.toNat,h++[.cells i.size (dC z (c.toNat*i.size)).toList])
    | none=>none
   else none
  | none=>none
 | _,_,_=>none
theorem lK{P:Program}{B lo:Nat}{D:Nat→Prop}{m:NMap}{h h':List Blk}{w:World}(hr:Rel B lo D m h w)(hlo:lo≤h.length){t:TypeId}{l c l' c' v:Value}
 (hl:VR D m l l') (hc:VR D m c c') (hv:eH P t l c h=some (v,h')):StepV P B lo D m h w (Instr.makeSlice t l' c') v h':=by
 unfold eH at hv
 split at hv
 ·rename_i e k1 l k2 c hu
  cases hl;cases hc
  split at hv
  ·rename_i i hi
   split at hv
   ·rename_i hcond
    obtain⟨w1,w2,h0,hlc,hb⟩:=hcond
    split at hv
    ·rename_i z hz
     obtain⟨rfl,rfl⟩:=Prod.mk.inj (a6 hv)
     obtain⟨hzr,hzv⟩:=nR hz w
     have hpost:=hr.pushCells hlo i.size (nP (hzv D m) (c.toNat*i.size)) e
     refine⟨.slice (some ⟨w.heap.size,0,none⟩) l.toNat c.toNat,w.alloc (.cells (dC z (c.toNat*i.size)) e),_,?_,hpost,?_⟩
     ·have htl : (decide (c < 0) || decide ((i.bytes : Int) * c > 2 ^ 48)) = false := by
        simp only[Bool.or_eq_false_iff,decide_eq_false_iff_not]
        exact⟨by omega,hb⟩
      have hcond:((decide (c<0)||decide ((i.bytes:Int)*c>2^48))||decide (l<0)||decide (l>c))=false:=by
       rw[htl]
       simp only[Bool.false_or,Bool.or_eq_false_iff,decide_eq_false_iff_not]
       omega
      have hti:(typeInfo e).run P w = .ok i w:=by simp[typeInfo,hi]
      unfold Instr.makeSlice
      simp only[Sem.run_bind,run_underlying hu,Result.andThen_ok,asInt,asIntOf,Sem.run_pure,hti,w1,w2]
      rw[hcond]
      rcases hzr with⟨h0',rfl⟩|⟨h0',v0,hv0,rfl⟩
      ·simp only[Bool.false_eq_true,if_false,Sem.run_bind,run_askRoom,Result.andThen_ok,bD hi,if_pos h0',newRow,run_newObj_alloc,Sem.run_pure]
       rfl
      ·simp only[Bool.false_eq_true,if_false,Sem.run_bind,run_askRoom,Result.andThen_ok,bD hi,if_neg h0',hv0,newRow,run_newObj_alloc,Sem.run_pure]
       rfl
     ·exact iU (by simp) (by omega) (a9 _) (by simp[dC]) rfl
    ·cases hv
   ·cases hv
  ·cases hv
 ·cases hv
def gV(P:Program)(t:TypeId)(x ix:Value):Option Value:=
 match P.underlying t,x,ix with
 | some (.array len e),.pointer (some ⟨n,o,none⟩),.int _ i=>if 0≤i∧i<len∧(P.info? e).isSome=true then some (.pointer (some ⟨n,o+i.toNat*P.cellsOf e,none⟩)) else none
 | some (.slice e),.slice (some ⟨n,o,none⟩) len _,.int _ i=>if 0≤i∧i<len∧(P.info? e).isSome=true then some (.pointer (some ⟨n,o+i.toNat*P.cellsOf e,none⟩)) else none
 | _,_,_=>none
theorem lU{P:Program}{D:Nat→Prop}{m:NMap}{t:TypeId}{x x' ix ix' v:Value}(hx:VR D m x x')(hi:VR D m ix ix')(hv:gV P t x ix=some v) :
 ∃ v',(∀ w,(Instr.indexAt t x' ix').run P w = .ok v' w)∧VR D m v v':=by
 unfold gV at hv
 split at hv
 ·rename_i len e n o k i hu
  cases hi
  obtain⟨hD,rfl⟩:D n∧x' = .pointer (some ⟨(m n).block,(m n).off+o,none⟩):=by cases hx;exact⟨by assumption,rfl⟩
  split at hv
  ·rename_i hc
   obtain⟨h0,h1,h2⟩:=hc
   obtain rfl:=a6 hv
   refine⟨.pointer (some ⟨(m n).block,(m n).off+o+i.toNat*P.cellsOf e,none⟩),fun w=>?_,by rw[e7];exact .ptr n _ hD⟩
   simp only[Instr.indexAt,asIntOf,Sem.run_bind,Sem.run_pure,Result.andThen_ok,run_underlying hu,Instr.sureAddr,if_pos (show 0≤i∧i<((len:Nat):Int) from ⟨h0,h1⟩),aF h2,bU]
  ·cases hv
 ·rename_i e n o len cap k i hu
  cases hi
  obtain⟨hD,c',rfl⟩:D n∧∃ c',x' = .slice (some ⟨(m n).block,(m n).off+o,none⟩) len c':=by cases hx;exact⟨by assumption,_,rfl⟩
  split at hv
  ·rename_i hc
   obtain⟨h0,h1,h2⟩:=hc
   obtain rfl:=a6 hv
   refine⟨.pointer (some ⟨(m n).block,(m n).off+o+i.toNat*P.cellsOf e,none⟩),fun w=>?_,by rw[e7];exact .ptr n _ hD⟩
   simp only[Instr.indexAt,asIntOf,Sem.run_bind,Sem.run_pure,Result.andThen_ok,run_underlying hu,if_pos (show 0≤i∧i<((len:Nat):Int) from ⟨h0,h1⟩),aF h2,bU]
  ·cases hv
 ·cases hv
def gX(P:Program)(t:TypeId)(x:Value)(f:Nat):Option Value:=
 match P.underlying t,x with
 | some (.struct fields),.pointer (some ⟨n,o,none⟩) =>
  match fields[f]? with
  | some fd=>if (P.info? fd.type).isSome=true∧P.cellsOf fd.type≠0 then some (.pointer (some ⟨n,o+fd.offset,none⟩)) else none
  | none=>none
 | _,_=>none
theorem mC{P:Program}{D:Nat→Prop}{m:NMap}{t:TypeId}{x x' v:Value}{f:Nat}(hx:VR D m x x')(hv:gX P t x f=some v) :
 ∃ v',(∀ w,(Instr.fieldAt t x' f).run P w = .ok v' w)∧VR D m v v':=by
 unfold gX at hv
 split at hv
 ·rename_i fields n o hu
  obtain⟨hD,rfl⟩:D n∧x' = .pointer (some ⟨(m n).block,(m n).off+o,none⟩):=by cases hx;exact⟨by assumption,rfl⟩
  split at hv
  ·rename_i fd hfd
   split at hv
   ·rename_i hc
    obtain rfl:=a6 hv
    refine⟨.pointer (some ⟨(m n).block,(m n).off+o+fd.offset,none⟩),fun w=>?_,by rw[e7];exact .ptr n _ hD⟩
    simp only[Instr.fieldAt,Sem.run_bind,run_underlying hu,Result.andThen_ok,hfd,Instr.sureAddr,Sem.run_pure,fieldPlace,aF hc.1,if_neg hc.2,bU]
   ·cases hv
  ·cases hv
 ·cases hv
def qC(P:Program)(t:TypeId)(cs:List Value)(off:Nat):Option Value:=
 match jG P t with
 | some true=>if (P.info? t).isSome=true then some (.agg ⟨(cs.drop off).take (P.cellsOf t)⟩) else none
 | some false=>cs[off]?
 | none=>none
theorem mF{P:Program}{D:Nat→Prop}{m:NMap}{t:TypeId}{cs cs':List Value}{off:Nat}{v:Value}(hc:VRs D m cs cs')(hv:qC P t cs off=some v) :
 ∃ v',(∀ w,(part t ⟨cs'⟩ off).run P w = .ok v' w)∧VR D m v v':=by
 unfold qC at hv
 split at hv
 ·rename_i hg
  split at hv
  ·rename_i hi
   obtain rfl:=a6 hv
   refine⟨.agg ⟨(cs'.drop off).take (P.cellsOf t)⟩,fun w=>?_,.agg' (hc.extract _ _)⟩
   simp only[part,Sem.run_bind,lC hg,Result.andThen_ok,if_true,aF hi,Sem.run_pure]
   congr 2
   apply Array.ext'
   simp[List.extract_eq_take_drop]
  ·cases hv
 ·rename_i hg
  obtain⟨v',hv',hr⟩:=hc.at hv
  refine⟨v',fun w=>?_,hr⟩
  simp only[part,Sem.run_bind,lC hg,Result.andThen_ok,Bool.false_eq_true,if_false]
  simp[hv']
 ·cases hv
def qS(P:Program)(t:TypeId)(x:Value)(f:Nat):Option Value:=
 match P.underlying t,x with
 | some (.struct fields),.agg ⟨cs⟩ =>
  match fields[f]? with
  | some fd=>qC P fd.type cs fd.offset
  | none=>none
 | _,_=>none
theorem qL{P:Program}{D:Nat→Prop}{m:NMap}{t:TypeId}{x x' v:Value}{f:Nat}(hx:VR D m x x')(hv:qS P t x f=some v) :
 ∃ v',(∀ w,(Instr.field t x' f).run P w = .ok v' w)∧VR D m v v':=by
 unfold qS at hv
 split at hv
 ·rename_i fields cs hu
  obtain⟨cs',hc,rfl⟩:∃ cs',VRs D m cs cs'∧x' = .agg ⟨cs'⟩:=by cases hx;exact⟨_,⟨by assumption,by assumption⟩,rfl⟩
  split at hv
  ·rename_i fd hfd
   obtain⟨v',h1,h2⟩:=mF hc hv
   refine⟨v',fun w=>?_,h2⟩
   simp only[Instr.field,Sem.run_bind,run_underlying hu,Result.andThen_ok,hfd,asAgg,Sem.run_pure,h1]
  ·cases hv
 ·cases hv
def qZ(P:Program)(t:TypeId)(x ix:Value):Option Value:=
 match P.underlying t,x,ix with
 | some (.array len e),.agg ⟨cs⟩,.int _ i=>if 0≤i∧i<len∧(P.info? e).isSome=true then qC P e cs (i.toNat*P.cellsOf e) else none
 | _,_,_=>none
theorem rZ{P:Program}{D:Nat→Prop}{m:NMap}{t:TypeId}{x x' ix ix' v:Value}(hx:VR D m x x')(hi:VR D m ix ix')(hv:qZ P t x ix=some v) :
 ∃ v',(∀ w,(Instr.index t x' ix').run P w = .ok v' w)∧VR D m v v':=by
 unfold qZ at hv
 split at hv
 ·rename_i len e cs k i hu
  cases hi
  obtain⟨cs',hc,rfl⟩:∃ cs',VRs D m cs cs'∧x' = .agg ⟨cs'⟩:=by cases hx;exact⟨_,⟨by assumption,by assumption⟩,rfl⟩
  split at hv
  ·rename_i hcond
   obtain⟨h0,h1,h2⟩:=hcond
   obtain⟨v',h3,h4⟩:=mF hc hv
   refine⟨v',fun w=>?_,h4⟩
   simp only[Instr.index,asIntOf,Sem.run_bind,Sem.run_pure,Result.andThen_ok,run_underlying hu,if_pos (show 0≤i∧i<((len:Nat):Int) from ⟨h0,h1⟩),aF h2,h3]
  ·cases hv
 ·cases hv
theorem Rel.extend{B lo:Nat}{D:Nat→Prop}{m:NMap}{h:List Blk}{w:World}(hr:Rel B lo D m h w){n es:Nat}{c vs vs':List Value}(hD:D n)(hl:lo≤n)(hn:h[n]?=some (.cells es c))
 (hfit:c.length+vs.length≤(m n).ext) (hv:VRs D m vs vs'):Post B lo D m h w m (h.set n (.cells es (c++vs))) (w.setCells (m n).block ((m n).off+c.length) vs'):=by
 obtain⟨s1,s2,s3,s4,s5⟩:=bT (b:=(m n).block) vs' ((m n).off+c.length) w
 have hown:=hr.own n _ hD hl hn
 have hok:=hr.ok n _ hD hn
 have hx:∀ j,j<vs'.length→(w.cell? ⟨(m n).block,(m n).off+c.length+j,none⟩).isSome=true:=fun j hj=>by
  rw[hv.len] at hj
  obtain⟨⟨u,hu⟩,_⟩:=hown.2 (c.length+j) (by omega)
  rw[e7,hu];rfl
 refine hr.modify hD hl hn (by simp) s1 s2 s3 s4 s5 _ ⟨hok.1,fun i v hi=>?_⟩ ⟨by simp;exact hfit,fun k hk=>?_⟩
 ·rcases d4 i c.length with hlt|hge
  ·rw[b4 hlt] at hi
   obtain⟨v',hc,hvr⟩:=hok.2 i v hi
   exact⟨v',by rw[World.cell?_setCells_out _ _ _ _ _ (fun _ _=>by simp;omega)];exact hc,hvr⟩
  ·rw[b7 hge] at hi
   obtain⟨v',hv',hvr⟩:=hv.at hi
   have hj:i-c.length<vs'.length:=(a7.1 hv').1
   have:=World.cell?_setCells_in (m n).block vs' ((m n).off+c.length) w hx (i-c.length) hj
   rw[show (m n).off+c.length+(i-c.length)=(m n).off+i by omega] at this
   exact⟨v',by rw[this,← hv',b5 hj],hvr⟩
 ·obtain⟨⟨u,hu⟩,hf⟩:=hown.2 k hk
  refine⟨?_,by rw[World.frozen?_setCells];exact hf⟩
  by_cases hin:c.length≤k∧k<c.length+vs'.length
  ·have:=World.cell?_setCells_in (m n).block vs' ((m n).off+c.length) w hx (k-c.length) (by omega)
   rw[show (m n).off+c.length+(k-c.length)=(m n).off+k by omega] at this
   exact⟨_,this⟩
  ·exact⟨u,by rw[World.cell?_setCells_out _ _ _ _ _ (fun _ _=>by simp;omega)];exact hu⟩
theorem Rel.extendT{B lo:Nat}{D:Nat→Prop}{m:NMap}{h:List Blk}{w:World}(hr:Rel B lo D m h w){n t es:Nat}{c vs vs':List Value}(hD:D n)(hl:lo≤n)(hes:es≠0)(hn:h[n]?=some (.tcells t es c))
 (hfit:c.length+vs.length≤(m n).ext) (hv:VRs D m vs vs'):Post B lo D m h w m (h.set n (.tcells t es (c++vs))) (w.setCells (m n).block ((m n).off+c.length) vs'):=by
 obtain⟨s1,s2,s3,s4,s5⟩:=bT (b:=(m n).block) vs' ((m n).off+c.length) w
 have hown:=hr.own n _ hD hl hn
 have hok:=hr.ok n _ hD hn
 have hx:∀ j,j<vs'.length→(w.cell? ⟨(m n).block,(m n).off+c.length+j,none⟩).isSome=true:=fun j hj=>by
  rw[hv.len] at hj
  obtain⟨⟨u,hu⟩,_⟩:=hown.2 (c.length+j) (by omega)
  rw[e7,hu];rfl
 refine hr.modify hD hl hn (by simp) s1 s2 s3 s4 s5 _ ⟨by obtain⟨a1,a2,k,a3,a4,a5⟩:=hok.1;exact⟨a1,a2,k,by rw[iJ];exact a3,a4,fun h0=>absurd h0 hes⟩,fun i v hi=>?_⟩ ⟨by simp;exact hfit,fun k hk=>?_⟩
 ·rcases d4 i c.length with hlt|hge
  ·rw[b4 hlt] at hi
   obtain⟨v',hc,hvr⟩:=hok.2 i v hi
   exact⟨v',by rw[World.cell?_setCells_out _ _ _ _ _ (fun _ _=>by simp;omega)];exact hc,hvr⟩
  ·rw[b7 hge] at hi
   obtain⟨v',hv',hvr⟩:=hv.at hi
   have hj:i-c.length<vs'.length:=(a7.1 hv').1
   have:=World.cell?_setCells_in (m n).block vs' ((m n).off+c.length) w hx (i-c.length) hj
   rw[show (m n).off+c.length+(i-c.length)=(m n).off+i by omega] at this
   exact⟨v',by rw[this,← hv',b5 hj],hvr⟩
 ·obtain⟨⟨u,hu⟩,hf⟩:=hown.2 k hk
  refine⟨?_,by rw[World.frozen?_setCells];exact hf⟩
  by_cases hin:c.length≤k∧k<c.length+vs'.length
  ·have:=World.cell?_setCells_in (m n).block vs' ((m n).off+c.length) w hx (k-c.length) (by omega)
   rw[show (m n).off+c.length+(k-c.length)=(m n).off+k by omega] at this
   exact⟨_,this⟩
  ·exact⟨u,by rw[World.cell?_setCells_out _ _ _ _ _ (fun _ _=>by simp;omega)];exact hu⟩
theorem Rel.move{B lo:Nat}{D:Nat→Prop}{m:NMap}{h:List Blk}{w:World}(hr:Rel B lo D m h w)(hlo:lo≤h.length){n es:Nat}{c:List Value}(hD:D n)(hl:lo≤n)(hn:h[n]?=some (.cells es c))(o:Nat)(ho:o≤(m n).ext) :
 Post B lo D m h w (upd m h.length ⟨(m n).block,(m n).off+o,(m n).ext-o,es⟩) (h.set n .dead++[.cells es (c.drop o)]) w:=by
 have hlt:=hr.dom n hD
 have hm:∀ k,D k→upd m h.length ⟨(m n).block,(m n).off+o,(m n).ext-o,es⟩ k=m k:=fun k hk=>dT (by have:=hr.dom k hk;omega)
 have hok:=hr.ok n _ hD hn
 have hown:=hr.own n _ hD hl hn
 have hlen:(h.set n Blk.dead).length=h.length:=by simp
 have old:∀ k (b':Blk),Dx D h.length (h.length+1) k→(h.set n Blk.dead++[.cells es (c.drop o)])[k]?=some b'→b' ≠ .dead→(D k∧k≠n∧h[k]?=some b')∨(k=h.length∧b' = .cells es (c.drop o)):=by
  intro k b' hk hb' hd
  rcases hk with hk|hk
  ·left
   have hkl:=hr.dom k hk
   rw[b4 (by rw[hlen];exact hkl)] at hb'
   by_cases e:k=n
   ·subst e
    rw[d8 hlt] at hb'
    exact absurd (a6 hb').symm hd
   ·rw[d6 (Ne.symm e)] at hb'
    exact⟨hk,e,hb'⟩
  ·right
   obtain rfl:k=h.length:=by omega
   rw[b7 (by rw[hlen];exact a9 _),hlen] at hb'
   simp at hb'
   exact⟨rfl,hb'.symm⟩
 refine⟨hm,?_,Below.refl _ _,by simp⟩
 rw[show (h.set n Blk.dead++[Blk.cells es (c.drop o)]).length=h.length+1 by simp]
 refine⟨hr.le,?_,?_,?_,?_,?_,?_,?_,hr.gl.mono (fun _=>.inl) hm⟩
 ·intro k hk
  rcases hk with hk|hk
  ·have:=hr.dom k hk;simp;omega
  ·simp;omega
 ·intro k b' hk hb'
  by_cases hd:b' = .dead
  ·subst hd;trivial
  rcases old k b' hk hb' hd with⟨hDk,hne,h'⟩|⟨rfl,rfl⟩
  ·exact (hr.ok k b' hDk h').mono (fun _=>.inl) hm (hm k hDk)
  ·refine⟨by rw[aA],fun i v hi=>?_⟩
   rw[g7] at hi
   obtain⟨v',hc,hvr⟩:=hok.2 _ v hi
   refine⟨v',?_,hvr.mono (fun _=>.inl) hm⟩
   rw[aA,e7]
   exact hc
 ·intro k b' hk hb' hd
  rcases old k b' hk hb' hd with⟨hDk,hne,h'⟩|⟨rfl,rfl⟩
  ·rw[hm k hDk];exact hr.lt k b' hDk h' hd
  ·rw[aA];exact hr.lt n _ hD hn (by simp)
 ·intro k b' hk hl' hb' hd
  rcases old k b' hk hb' hd with⟨hDk,hne,h'⟩|⟨rfl,rfl⟩
  ·rw[hm k hDk];exact hr.base k b' hDk hl' h' hd
  ·rw[aA];exact hr.base n _ hD hl hn (by simp)
 ·intro k b' hk hl' hb' hd
  rcases old k b' hk hb' hd with⟨hDk,hne,h'⟩|⟨rfl,rfl⟩
  ·rw[hm k hDk];exact hr.low k b' hDk hl' h' hd
  ·omega
 ·intro k b' hk hl' hb'
  by_cases hd:b' = .dead
  ·subst hd;trivial
  rcases old k b' hk hb' hd with⟨hDk,hne,h'⟩|⟨rfl,rfl⟩
  ·exact (hr.own k b' hDk hl' h').congr (hm k hDk)
  ·unfold Owns
   rw[aA]
   have:=hown.1
   refine⟨by simp;omega,fun j hj=>?_⟩
   have:=hown.2 (o+j) (by simp at hj;omega)
   simpa [Nat.add_assoc] using this
 ·intro k k' b1 b2 hk hk' hl1 hl2 h1 h2 hd hd' he
  rcases old k b1 hk h1 hd with⟨hDk,hne,h1'⟩|⟨rfl,rfl⟩<;>rcases old k' b2 hk' h2 hd' with⟨hDk',hne',h2'⟩|⟨rfl,rfl⟩
  ·rw[hm k hDk,hm k' hDk'] at he;exact hr.inj k k' b1 b2 hDk hDk' hl1 hl2 h1' h2' hd hd' he
  ·rw[hm k hDk,aA] at he;exact absurd (hr.inj k n b1 _ hDk hD hl1 hl h1' hn hd (by simp) he) hne
  ·rw[hm k' hDk',aA] at he;exact absurd (hr.inj n k' _ b2 hD hDk' hl hl2 hn h2' (by simp) hd' he).symm hne'
  ·rfl
theorem Rel.moveT{B lo:Nat}{D:Nat→Prop}{m:NMap}{h:List Blk}{w:World}(hr:Rel B lo D m h w)(hlo:lo≤h.length){n t es:Nat}{c:List Value}(hD:D n)(hl:lo≤n)(hn:h[n]?=some (.tcells t es c)) :
 Post B lo D m h w (upd m h.length ⟨(m n).block,(m n).off,(m n).ext,es⟩) (h.set n .dead++[.tcells t es c]) w:=by
 have hlt:=hr.dom n hD
 have hm:∀ k,D k→upd m h.length ⟨(m n).block,(m n).off,(m n).ext,es⟩ k=m k:=fun k hk=>dT (by have:=hr.dom k hk;omega)
 have hok:=hr.ok n _ hD hn
 have hown:=hr.own n _ hD hl hn
 have hlen:(h.set n Blk.dead).length=h.length:=by simp
 have old:∀ k (b':Blk),Dx D h.length (h.length+1) k→(h.set n Blk.dead++[.tcells t es c])[k]?=some b'→b' ≠ .dead→(D k∧k≠n∧h[k]?=some b')∨(k=h.length∧b' = .tcells t es c):=by
  intro k b' hk hb' hd
  rcases hk with hk|hk
  ·left
   have hkl:=hr.dom k hk
   rw[b4 (by rw[hlen];exact hkl)] at hb'
   by_cases e:k=n
   ·subst e
    rw[d8 hlt] at hb'
    exact absurd (a6 hb').symm hd
   ·rw[d6 (Ne.symm e)] at hb'
    exact⟨hk,e,hb'⟩
  ·right
   obtain rfl:k=h.length:=by omega
   rw[b7 (by rw[hlen];exact a9 _),hlen] at hb'
   simp at hb'
   exact⟨rfl,hb'.symm⟩
 refine⟨hm,?_,Below.refl _ _,by simp⟩
 rw[show (h.set n Blk.dead++[Blk.tcells t es c]).length=h.length+1 by simp]
 refine⟨hr.le,?_,?_,?_,?_,?_,?_,?_,hr.gl.mono (fun _=>.inl) hm⟩
 ·intro k hk
  rcases hk with hk|hk
  ·have:=hr.dom k hk;simp;omega
  ·simp;omega
 ·intro k b' hk hb'
  by_cases hd:b' = .dead
  ·subst hd;trivial
  rcases old k b' hk hb' hd with⟨hDk,hne,h'⟩|⟨rfl,rfl⟩
  ·exact (hr.ok k b' hDk h').mono (fun _=>.inl) hm (hm k hDk)
  ·obtain⟨a1,a2,kk,a3,a4,a5⟩:=hok.1
   refine⟨⟨by rw[aA],by rw[aA];exact a2,kk,by rw[aA];exact a3,by rw[aA];exact a4,a5⟩,fun i v hi=>?_⟩
   obtain⟨v',hc,hvr⟩:=hok.2 _ v hi
   refine⟨v',?_,hvr.mono (fun _=>.inl) hm⟩
   rw[aA]
   exact hc
 ·intro k b' hk hb' hd
  rcases old k b' hk hb' hd with⟨hDk,hne,h'⟩|⟨rfl,rfl⟩
  ·rw[hm k hDk];exact hr.lt k b' hDk h' hd
  ·rw[aA];exact hr.lt n _ hD hn (by simp)
 ·intro k b' hk hl' hb' hd
  rcases old k b' hk hb' hd with⟨hDk,hne,h'⟩|⟨rfl,rfl⟩
  ·rw[hm k hDk];exact hr.base k b' hDk hl' h' hd
  ·rw[aA];exact hr.base n _ hD hl hn (by simp)
 ·intro k b' hk hl' hb' hd
  rcases old k b' hk hb' hd with⟨hDk,hne,h'⟩|⟨rfl,rfl⟩
  ·rw[hm k hDk];exact hr.low k b' hDk hl' h' hd
  ·omega
 ·intro k b' hk hl' hb'
  by_cases hd:b' = .dead
  ·subst hd;trivial
  rcases old k b' hk hb' hd with⟨hDk,hne,h'⟩|⟨rfl,rfl⟩
  ·exact (hr.own k b' hDk hl' h').congr (hm k hDk)
  ·unfold Owns
   rw[aA]
   exact hown
 ·intro k k' b1 b2 hk hk' hl1 hl2 h1 h2 hd hd' he
  rcases old k b1 hk h1 hd with⟨hDk,hne,h1'⟩|⟨rfl,rfl⟩<;>rcases old k' b2 hk' h2 hd' with⟨hDk',hne',h2'⟩|⟨rfl,rfl⟩
  ·rw[hm k hDk,hm k' hDk'] at he;exact hr.inj k k' b1 b2 hDk hDk' hl1 hl2 h1' h2' hd hd' he
  ·rw[hm k hDk,aA] at he;exact absurd (hr.inj k n b1 _ hDk hD hl1 hl h1' hn hd (by simp) he) hne
  ·rw[hm k' hDk',aA] at he;exact absurd (hr.inj n k' _ b2 hD hDk' hl hl2 hn h2' (by simp) hd' he).symm hne'
  ·rfl
def eS(h:List Blk)(size:Nat):Value→Option (Nat×List Value)
 | .slice none 0 _=>some (0,[])
 | .slice (some ⟨n,o,none⟩) l _=>(aL h n o (l*size)).map fun c=>(l,c)
 | .slice (some ⟨_,_,some _⟩) 0 0=>some (0,[])
 | .string s=>some (s.size,(s.extract 0 s.size).data.toList.map fun b=>.int .u8 b.toNat)
 | _=>none
theorem bG{P:Program}{B lo:Nat}{D:Nat→Prop}{m:NMap}{h:List Blk}{w:World}(hr:Rel B lo D m h w){size n:Nat}{x x':Value}{l:List Value}(hx:VR D m x x')(hs:eS h size x=some (n,l)) :
 ∃ l',(Builtin.lenOf x').run P w = .ok n w∧(Builtin.firstCells size n x').run P w = .ok ⟨l'⟩ w∧VRs D m l l':=by
 unfold eS at hs
 split at hs
 ·obtain⟨rfl,rfl⟩:=Prod.mk.inj (a6 hs)
  cases hx
  exact⟨[],rfl,rfl,VRs.nil⟩
 ·rename_i n' o l0 c
  cases hc:aL h n' o (l0*size) with
  | none=>rw[hc] at hs;cases hs
  | some cs =>
   rw[hc] at hs
   obtain⟨rfl,rfl⟩:=Prod.mk.inj (a6 hs)
   cases hx with
   | slice _ _ _ _ c' hD hl hcc he =>
    obtain⟨l',hvr,hk,hcl⟩:=aZ hr hD hc
    exact⟨l',rfl,cB hcl _ (hvr.len.trans hk),hvr⟩
 ·obtain⟨rfl,rfl⟩:=Prod.mk.inj (a6 hs)
  cases hx
  rename_i a' c'
  refine⟨[],rfl,?_,VRs.nil⟩
  have:=run_loadCells_list (P:=P) w a' [] (fun j v hj=>by simp at hj)
  rw[show ([]:List Value).length=0*size by simp] at this
  exact this
 ·rename_i s
  obtain⟨rfl,rfl⟩:=Prod.mk.inj (a6 hs)
  cases hx
  refine⟨(s.extract 0 s.size).data.toList.map fun b=>.int .u8 b.toNat,rfl,by simp only[Builtin.firstCells,Sem.run_pure];congr 1;apply Array.ext';simp,VRs.refl_of fun v hv=>?_⟩
  simp only[List.mem_map] at hv
  obtain⟨b,_,rfl⟩:=hv
  exact .int _ _
 ·cases hs
def fN(P:Program)(t:Option TypeId):Bool:=
 match t with
 | none=>true
 | some t=>match P.underlying t with
  | some (.int _)=>false
  | some _=>true
  | none=>false
def tZ(P:Program)(t:Option TypeId):Bool:=
 match t with
 | some t=>match P.underlying t with
  | some (.int _)=>true
  | _=>false
 | none=>false
def fX(P:Program)(i:TypeInfo)(t1:Option TypeId)(s x:Value)(h:List Blk):AOut:=
 match s with
 | .slice none 0 0=>match x with
  | .int _ l=>match i.zero with
   | some z =>
    if tZ P t1=true∧IntKind.i64.wrap l=l∧0<l∧l≤2^40∧l.toNat*i.bytes≤140737488355328∧z.cells.size=i.size∧0<i.size∧z.cells.all aP=true then
     some (.slice (some ⟨h.length,0,none⟩) l.toNat l.toNat,h++[.cells i.size (Builtin.zeroCells z.cells l.toNat).toList],none)
    else none
   | none=>none
  | _=>none
 | _=>none
def sP(x:Value)(e:TypeId)(es:Nat)(c:List Value):Blk:=match x with
 | .string _=>.tcells e es c
 | _=>.cells es c
def cQ(P:Program)(argTypes:Array TypeId)(s x:Value)(h:List Blk):AOut:=
 match argTypes[0]? with
 | none=>none
 | some st =>
  match P.underlying st with
  | some (.slice e) =>
   match P.info? e with
   | none=>none
   | some i =>
    if fN P argTypes[1]?=true then
     match eS h i.size x with
     | none=>none
     | some (n,new) =>
      match s with
      | .slice none 0 0 =>
       if n=0 then (if new.isEmpty=true then some (.slice none 0 0,h,none) else none)
       else if n≤2^40∧n*i.bytes≤140737488355328∧((i.zero.map fun z=>z.cells.size)=some i.size)∧new.length=n*i.size then
        some (.slice (some ⟨h.length,0,none⟩) n n,h++[sP x e i.size new],none)
       else none
      | .slice (some ⟨nm,o,none⟩) len c =>
       if n=0 then (if new.isEmpty=true then some (s,h,none) else none)
       else if len+n≤c then (aS h nm (o+len*i.size) new).map fun h'=>(.slice (some ⟨nm,o,none⟩) (len+n) c,h',some nm)
       else
        match h[nm]? with
        | some (.cells es cs) =>
         if es=i.size∧o+len*i.size=cs.length∧new.length=n*i.size∧new.all (·.oneCell')=true∧len+n≤2^40∧(len+n)*i.bytes≤140737488355328∧((i.zero.map fun z=>z.cells.size)=some i.size) then
          some (.slice (some ⟨h.length,0,none⟩) (len+n) (len+n),h.set nm .dead++[.cells es (cs.drop o++new)],some nm)
         else none
        | _=>none
      | .slice (some ⟨_,_,some _⟩) 0 0=>if n=0 then (if new.isEmpty=true then some (s,h,none) else none) else none
      | _=>none
    else fX P i argTypes[1]? s x h
  | _=>none
def iZ(P:Program)(argTypes:Array TypeId)(s x:Value)(h:List Blk):AOut:=
 match argTypes[0]? with
 | none=>none
 | some st =>
  match P.underlying st with
  | some (.slice e) =>
   match P.info? e with
   | none=>none
   | some i =>
    if fN P argTypes[1]?=true then
     match x with
     | .string b =>
      match s with
      | .slice (some ⟨nm,0,none⟩) len c =>
       match h[nm]? with
       | some (.tcells t es cs) =>
        if i.size=1∧es=1∧t=e∧len=cs.length∧¬ len+b.size≤c∧len+b.size≤2^40∧(len+b.size)*i.bytes≤140737488355328∧((i.zero.map fun z=>z.cells.size)=some i.size) then
         some (.slice (some ⟨h.length,0,none⟩) (len+b.size) (len+b.size),h.set nm .dead++[.tcells t 1 (cs++(b.extract 0 b.size).data.toList.map fun b=>.int .u8 b.toNat)],some nm)
        else none
       | _=>none
      | _=>none
     | _=>none
    else none
  | _=>none
def Bh:Value→Option Nat
 | .slice none l _=>some l
 | .slice (some ⟨_,_,none⟩) l _=>some l
 | .slice (some ⟨_,_,some _⟩) 0 0=>some 0
 | .string s=>some s.size
 | _=>none
def iL(h:List Blk)(size n:Nat):Value→Option (List Value)
 | .slice none _ _=>some []
 | .slice (some ⟨nm,o,none⟩) _ _=>aL h nm o (n*size)
 | .slice (some ⟨_,_,some _⟩) 0 0=>if n=0 then some [] else none
 | .string s=>some ((s.extract 0 n).data.toList.map fun b=>.int .u8 b.toNat)
 | _=>none
theorem tW{P:Program}{D:Nat→Prop}{m:NMap}{x x':Value}{k:Nat}(hx:VR D m x x')(hs:Bh x=some k)(w:World):(Builtin.lenOf x').run P w = .ok k w:=by
 unfold Bh at hs
 split at hs
 ·cases hs;cases hx;rfl
 ·cases hs;cases hx;rfl
 ·cases hs;cases hx;rfl
 ·cases hs;cases hx;rfl
 ·cases hs
theorem iC{P:Program}{B lo:Nat}{D:Nat→Prop}{m:NMap}{h:List Blk}{w:World}(hr:Rel B lo D m h w){size n:Nat}{x x':Value}{l:List Value}(hx:VR D m x x')(hs:iL h size n x=some l) :
 ∃ l',(Builtin.firstCells size n x').run P w = .ok ⟨l'⟩ w∧VRs D m l l':=by
 unfold iL at hs
 split at hs
 ·obtain rfl:=a6 hs
  cases hx
  exact⟨[],rfl,VRs.nil⟩
 ·cases hx with
  | slice _ _ _ _ c' hD hl hcc he =>
   obtain⟨l',hvr,hk,hcl⟩:=aZ hr hD hs
   exact⟨l',cB hcl _ (hvr.len.trans hk),hvr⟩
 ·split at hs
  ·rename_i hn
   obtain rfl:=a6 hs
   subst hn
   cases hx
   rename_i a' c'
   refine⟨[],?_,VRs.nil⟩
   have:=run_loadCells_list (P:=P) w a' [] (fun j v hj=>by simp at hj)
   rw[show ([]:List Value).length=0*size by simp] at this
   exact this
  ·cases hs
 ·rename_i s
  obtain rfl:=a6 hs
  cases hx
  refine⟨(s.extract 0 n).data.toList.map fun b=>.int .u8 b.toNat,by simp only[Builtin.firstCells,Sem.run_pure];congr 1;apply Array.ext';simp,VRs.refl_of fun v hv=>?_⟩
  simp only[List.mem_map] at hv
  obtain⟨b,_,rfl⟩:=hv
  exact .int _ _
 ·cases hs
def tR(P:Program)(argTypes:Array TypeId)(d s:Value)(h:List Blk):AOut:=
 match argTypes[0]? with
 | none=>none
 | some st =>
  match P.underlying st with
  | some (.slice e) =>
   match P.info? e with
   | none=>none
   | some i =>
    match Bh s with
    | none=>none
    | some k =>
     match d with
     | .slice none len _=>(iL h i.size (Nat.min k len) s).map fun _=>(.int .i64 (Nat.min k len),h,none)
     | .slice (some ⟨_,_,some _⟩) 0 0=>match iL h i.size 0 s with
      | some new=>if new.isEmpty=true then some (.int .i64 0,h,none) else none
      | none=>none
     | .slice (some ⟨nm,o,none⟩) len _=>match iL h i.size (Nat.min k len) s with
      | some new=>(aS h nm o new).map fun h'=>(.int .i64 (Nat.min k len),h',some nm)
      | none=>none
     | _=>none
  | _=>none
theorem tA{P:Program}{B lo:Nat}{D:Nat→Prop}{m:NMap}{h h':List Blk}{w:World}(hr:Rel B lo D m h w){argTypes:Array TypeId}{ty:TypeId}{d s d' s' v:Value}{wr:Option Nat}
 (hd:VR D m d d') (hs:VR D m s s') (hv:tR P argTypes d s h=some (v,h',wr)) (hw:WrOk lo wr):StepV P B lo D m h w (Builtin.copy_ argTypes ty #[d',s']) v h':=by
 unfold tR at hv
 split at hv
 ·cases hv
 rename_i st h0
 split at hv
 ·rename_i e hu
  split at hv
  ·cases hv
  rename_i i hi
  split at hv
  ·cases hv
  rename_i k hk
  have hlen:=tW (P:=P) hs hk w
  split at hv
  ·rename_i len c
   cases hf:iL h i.size (Nat.min k len) s with
   | none=>rw[hf] at hv;cases hv
   | some new =>
    rw[hf] at hv
    obtain⟨rfl,rfl,rfl⟩:_=v∧h=h'∧none=wr:=by simpa using hv
    obtain⟨l',h1,h2⟩:=iC (P:=P) hr hs hf
    cases hd
    refine StepV.pure hr (v':=.int .i64 (Nat.min k len)) ?_ (.int _ _)
    simp only[Builtin.copy_,h0,List.getElem?_toArray,List.getElem?_cons_zero,List.getElem?_cons_succ,Sem.run_bind,run_underlying hu,Result.andThen_ok,hlen,bD hi,h1,Sem.run_pure]
    rfl
  ·rename_i b0 o0 s0
   cases hf:iL h i.size 0 s with
   | none=>rw[hf] at hv;cases hv
   | some new =>
    rw[hf] at hv
    simp only at hv
    split at hv
    ·rename_i hem
     obtain⟨rfl,rfl,rfl⟩:_=v∧h=h'∧none=wr:=by simpa using hv
     obtain rfl:new=[]:=by simpa using hem
     obtain⟨l',h1,h2⟩:=iC (P:=P) hr hs hf
     obtain rfl:l'=[]:=by have:=h2.len;simpa using this
     cases hd
     refine StepV.pure hr (v':=.int .i64 0) ?_ (.int _ _)
     simp only[Builtin.copy_,h0,List.getElem?_toArray,List.getElem?_cons_zero,List.getElem?_cons_succ,Sem.run_bind,run_underlying hu,Result.andThen_ok,hlen,bD hi,Nat.min_def,Nat.le_zero]
     have e0:(if k=0 then k else 0)=0:=by split<;>omega
     rw[e0]
     simp only[h1,Result.andThen_ok,storeCells,Sem.run_pure]
     rfl
    ·cases hv
  ·rename_i nm o len c
   cases hf:iL h i.size (Nat.min k len) s with
   | none=>rw[hf] at hv;cases hv
   | some new =>
    rw[hf] at hv
    simp only at hv
    cases hwb:aS h nm o new with
    | none=>rw[hwb] at hv;cases hv
    | some h1 =>
     rw[hwb] at hv
     obtain⟨rfl,rfl,rfl⟩:_=v∧h1=h'∧some nm=wr:=by simpa using hv
     obtain⟨l',h2,h3⟩:=iC (P:=P) hr hs hf
     cases hd with
     | slice _ _ _ _ c' hD hl hcc he =>
      obtain⟨h4,hp⟩:=dG (P:=P) hr hD (hw nm rfl) hwb h3
      refine⟨.int .i64 (Nat.min k len),_,m,?_,hp,.int _ _⟩
      simp only[Builtin.copy_,h0,List.getElem?_toArray,List.getElem?_cons_zero,List.getElem?_cons_succ,Sem.run_bind,run_underlying hu,Result.andThen_ok,hlen,bD hi,h2,h4,Sem.run_pure]
      rfl
  ·cases hv
 ·cases hv
theorem kW{P:Program}{t:Option TypeId}(h:fN P t=true):t=none∨∃ xt d,t=some xt∧P.underlying xt=some d∧(match d with|.int _=>true|_=>false)=false:=by
 cases t with
 | none=>exact .inl rfl
 | some t =>
  simp only[fN] at h
  cases hu:P.underlying t with
  | none=>rw[hu] at h;cases h
  | some d =>
   rw[hu] at h
   refine .inr ⟨t,d,rfl,hu,?_⟩
   cases d<;>first|rfl|cases h
section
variable {P:Program} {argTypes:Array TypeId} {st e:TypeId} {i:TypeInfo} {ty:TypeId}
theorem bF(h0:argTypes[0]?=some st)(hu:P.underlying st=some (.slice e))(hi:P.info? e=some i)(hn:fN P argTypes[1]?=true){base:Option Addr}{len cap n:Nat}{x:Value}{new:List Value}{w w':World}
 (hl:(Builtin.lenOf x).run P w = .ok n w) (hc:(Builtin.firstCells i.size n x).run P w = .ok ⟨new⟩ w) (hle:len+n≤cap)
 (hs:(match base with|some a=>storeCells (a.add (len*i.size)) new|none=>pure ()).run P w = .ok () w') :
 (Builtin.append_ argTypes ty #[.slice base len cap,x]).run P w = .ok (.slice base (len+n) cap) w':=by
 unfold Builtin.append_
 rcases kW hn with h1|⟨xt,d,h1,hd,hm⟩
 ·simp only [h0, h1, List.getElem?_toArray, List.getElem?_cons_zero, List.getElem?_cons_succ, Sem.run_bind, run_underlying hu, Result.andThen_ok, bD hi, Sem.run_pure,
    i9,if_false,hl,b8 hle,j1,if_true,hc]
  cases base with
  | none=>simp only[Sem.run_pure] at hs ⊢;injection hs with _ hs;subst hs;rfl
  | some a=>simp only[Sem.run_bind] at hs ⊢;rw[hs];rfl
 ·cases d <;> first | (cases hm; done) | (
    simp only[h0,h1,List.getElem?_toArray,List.getElem?_cons_zero,List.getElem?_cons_succ,Sem.run_bind,run_underlying hu,run_underlying hd,Result.andThen_ok,bD hi,Sem.run_pure,
     i9,if_false,hl,b8 hle,j1,if_true,hc]
    cases base with
    | none=>simp only[Sem.run_pure] at hs ⊢;injection hs with _ hs;subst hs;rfl
    | some a=>simp only[Sem.run_bind] at hs ⊢;rw[hs];rfl)
theorem dZ(h0:argTypes[0]?=some st)(hu:P.underlying st=some (.slice e))(hi:P.info? e=some i)(hn:fN P argTypes[1]?=true){base:Option Addr}{len cap n:Nat}{x z:Value}{old new:List Value}{w:World}
 (hl:(Builtin.lenOf x).run P w = .ok n w) (hc:(Builtin.firstCells i.size n x).run P w.drew = .ok ⟨new⟩ w.drew) (hle:¬ len+n≤cap) (hb:(len+n)*i.bytes≤140737488355328) (hsm:len+n≤2^40)
 (hold:(Builtin.firstCells i.size len (.slice base len cap)).run P w.drew = .ok ⟨old⟩ w.drew) (hz:i.zero=some z) :
 ∃ newCap,len+n≤newCap∧(Builtin.append_ argTypes ty #[.slice base len cap,x]).run P w = .ok (.slice (some ⟨w.heap.size,0,none⟩) (len+n) newCap) (w.drew.alloc (.cells ⟨old++new++(Builtin.zeroCells z.cells (newCap-(len+n))).toList⟩ e)):=by
 have hti:∀ w,(typeInfo e).run P w = .ok i w:=fun w=>by simp[typeInfo,hi]
 have hzr:∀ w,(zeroValue e).run P w = .ok z w:=fun w=>by simp[zeroValue,typeInfo,hi,hz]
 have hg:=growslice_fits (need:=len+n) (old:=cap) (bytes:=i.bytes) (by omega) hb
 refine⟨(Question.appendCap (len+n) cap e).cut (w.tape w.drawn (.appendCap (len+n) cap e)),by simp[Question.cut],?_⟩
 have h1:¬(((len+n:Nat):Int)>IntKind.i64.max∧(i.bytes=0)):=by
  rintro⟨h,_⟩
  have:IntKind.i64.max=9223372036854775807:=by decide
  rw[this] at h
  omega
 have h2:¬(Builtin.nextslicecap (len+n) cap*i.bytes>2^48):=by omega
 have hq:(Question.appendCap (len+n) cap e).forced=false:=rfl
 unfold Builtin.append_
 rcases kW hn with h3|⟨xt,d,h3,hd,hm⟩
 ·simp only [h0, h3, List.getElem?_toArray, List.getElem?_cons_zero, List.getElem?_cons_succ, Sem.run_bind, run_underlying hu, Result.andThen_ok, bD hi, Sem.run_pure,
    i9,if_false,hl,d5 hle,j1,if_true,hti,false_or,d5 h1,d5 h2,run_choose_drew,hq,run_askRoom,hold,hc,hzr,newRow,run_newObj_alloc]
  exact congrArg (fun c=>Result.ok _ (w.drew.alloc (.cells c e))) (Array.ext' (by simp))
 ·cases d <;> first | (cases hm; done) | (
   simp only[h0,h3,List.getElem?_toArray,List.getElem?_cons_zero,List.getElem?_cons_succ,Sem.run_bind,run_underlying hu,run_underlying hd,Result.andThen_ok,bD hi,Sem.run_pure,
    i9,if_false,hl,d5 hle,j1,if_true,hti,false_or,d5 h1,d5 h2,run_choose_drew,hq,run_askRoom,hold,hc,hzr,newRow,run_newObj_alloc]
   exact congrArg (fun c=>Result.ok _ (w.drew.alloc (.cells c e))) (Array.ext' (by simp)))
theorem nE(h0:argTypes[0]?=some st)(hu:P.underlying st=some (.slice e))(hi:P.info? e=some i)(hn:tZ P argTypes[1]?=true){k:IntKind}{l:Int}{z:Value}{w:World}
 (hw:IntKind.i64.wrap l=l) (hl:0<l) (hsm:l≤2^40) (hb:l.toNat*i.bytes≤140737488355328) (hz:i.zero=some z) (hs:0<i.size) :
 ∃ newCap,l.toNat≤newCap∧(Builtin.append_ argTypes ty #[.slice none 0 0,.int k l]).run P w = .ok (.slice (some ⟨w.heap.size,0,none⟩) l.toNat newCap) (w.drew.alloc (.cells ⟨(Builtin.zeroCells z.cells l.toNat).toList++(Builtin.zeroCells z.cells (newCap-l.toNat)).toList⟩ e)):=by
 have hti:∀ w,(typeInfo e).run P w = .ok i w:=fun w=>by simp[typeInfo,hi]
 have hzr:∀ w,(zeroValue e).run P w = .ok z w:=fun w=>by simp[zeroValue,typeInfo,hi,hz]
 have hn0:0<l.toNat:=by omega
 have hg:=growslice_fits (need:=l.toNat) (old:=0) (bytes:=i.bytes) (by omega) hb
 refine⟨(Question.appendCap l.toNat 0 e).cut (w.tape w.drawn (.appendCap l.toNat 0 e)),by simp[Question.cut],?_⟩
 have h1:¬(((l.toNat:Nat):Int)>IntKind.i64.max):=by
  have:IntKind.i64.max=9223372036854775807:=by decide
  rw[this]
  omega
 have h2:¬(Builtin.nextslicecap l.toNat 0*i.bytes>2^48):=by omega
 have hq:(Question.appendCap l.toNat 0 e).forced=false:=rfl
 have hle:¬ l.toNat≤0:=by omega
 have hneg:¬ l<0:=by omega
 have hbytes:¬ l*(i.bytes:Int)>2^48:=by
  have:l*(i.bytes:Int)=((l.toNat*i.bytes:Nat):Int):=by rw[Int.natCast_mul,Int.toNat_of_nonneg (by omega)]
  rw[this]
  omega
 have hsz:¬ l.toNat*i.size=0:=Nat.ne_of_gt (Nat.mul_pos hn0 hs)
 have hold:∀ w,(Builtin.firstCells i.size 0 (.slice none 0 0)).run P w = .ok #[] w:=fun w=>rfl
 unfold tZ at hn
 split at hn
 ·rename_i xt h3
  split at hn
  ·rename_i ik hd
   unfold Builtin.append_
   simp only[h0,h3,List.getElem?_toArray,List.getElem?_cons_zero,List.getElem?_cons_succ,Sem.run_bind,run_underlying hu,run_underlying hd,Result.andThen_ok,bD hi,Sem.run_pure,
    if_true,asInt,asIntOf,hw,d5 hneg,hti,d5 hbytes,d5 hle,Bool.not_true,i9,if_false,d5 hsz,true_or,and_true,d5 h1,d5 h2,run_choose_drew,hq,run_askRoom,hold,hzr,newRow,run_newObj_alloc,g6,List.append_nil,Array.empty_append]
   exact congrArg (fun c=>Result.ok _ (w.drew.alloc (.cells c e))) (Array.ext' (by simp))
  ·cases hn
 ·cases hn
end
end Go.Rex
