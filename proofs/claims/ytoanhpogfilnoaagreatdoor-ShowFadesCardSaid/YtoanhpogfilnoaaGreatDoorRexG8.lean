/- An executor of the program's functions on trees of values, proved sound. -/
import Derived.Test.YtoanhpogfilnoaaGreatDoorRexG7
import Derived.KernelRfl
import Derived.Test.YtoanhpogfilnoaaGreatDoorRexG6
set_option linter.unusedSimpArgs false
set_option linter.unusedVariables false
set_option linter.defProp false
namespace Go.Rex
open Go.RowKit
section
variable {C : Ctx} {P : Program} {Fz : Nat → Prop} {h h0 : List Blk} {L : Nat → LI} {s : TS} {tm : List Value}
variable {dst : Option Tmp} {ty : TypeId} {pos : String} {aft : Array Edge} {gd : Option (Nat × Bool)}
/-! ### slices of slices -/
/-! ### calls -/
theorem xcall_go {g : FuncId} {f : Operand} {args : Array Operand} {tys : Array TypeId} {first caps : List Value} (hf : ev tm f = .func (.func g) ⟨first⟩ ⟨caps⟩) (hg : goFn P g = true) :
    xop C P (ev tm) { dst:=dst,op:=.call { callee:=.value f,args:=args,argTypes:=tys },type:=ty,pos:=pos,after:=aft,guard:=gd } h = C.call g (first ++ (args.toList.map (ev tm) ++ caps)) h:=by
  simp only [xop,hop,bhop]
  rw [xcall_eq]
  simp only [hf]
  rw [if_pos hg]
theorem args_vls (hs : VLs Fz h L s.tm tm) (args : List Operand) : VLs Fz h L (args.map (tev s.tm)) (args.map (ev tm)):=by
  refine ⟨by simp,fun i p x hp hx=>?_⟩
  rw [List.getElem?_map] at hp hx
  cases hq : args[i]? with
  | none=>rw [hq] at hp;cases hp
  | some q =>
    rw [hq] at hp hx
    obtain rfl:=Option.some.inj hp
    obtain rfl:=Option.some.inj hx
    exact tev_vl hs q
theorem VLs.toNo {l : List TV} {x : List Value} (hs : VLs Fz h L l x) (hl : l.all (lf 4) = true) {L' : Nat → LI} : VLs Fz h L' l x :=
  ⟨hs.len,fun i p y hp hy=>VL.toNo 4 (by simpa using List.all_eq_true.1 hl p (List.mem_of_getElem? hp)) (hs.at' i p y hp hy)⟩
/-- a call whose arguments own nothing -/
theorem OpG.call {f : Operand} {g : FuncId} {args : Array Operand} {tys : Array TypeId} {first caps as : List TV} {p : TV} {th : List TB} (hf : tev s.tm f = .func g first caps) (hg : goFn P g = true) (has : first ++ (args.toList.map (tev s.tm) ++ caps) = as)
    (hl : as.all (lf 4) = true) (hsp : Spec C g as ⟨[p],th⟩) (hth : th.all resTB = true) :
    OpG C P { dst:=dst,op:=.call { callee:=.value f,args:=args,argTypes:=tys },type:=ty,pos:=pos,after:=aft,guard:=gd } s ⟨tput s.tm dst (shift s.hp.length 4 p),s.hp ++ th⟩:=by
  intro h0 Fz L tm h hs
  subst has
  have hfv:=tev_vl hs.tmr f
  rw [hf] at hfv
  obtain ⟨f',c',hfe,vf,vc⟩ : ∃ f' c',ev tm f = .func (.func g) ⟨f'⟩ ⟨c'⟩ ∧ VLs Fz h noL first f' ∧ VLs Fz h noL caps c':=by
    generalize ev tm f = y at *
    cases hfv with
    | func _ _ _ _ a' b' la ha lb hb=>exact ⟨a',b',rfl,⟨la,ha⟩,⟨lb,hb⟩⟩
  have hargs : VLs Fz h noL (first ++ (args.toList.map (tev s.tm) ++ caps)) (f' ++ (args.toList.map (ev tm) ++ c')):=by
    refine VLs.append vf (VLs.append (VLs.toNo (args_vls hs.tmr args.toList) ?_) vc)
    simp only [List.all_append,Bool.and_eq_true] at hl
    exact hl.2.1
  obtain ⟨v,h',F1,L1,hc,g1,hr⟩:=hsp Fz h _ hs.fz hargs
  obtain ⟨L3,h3⟩:=hs.adopt dst hr hth g1
  refine ⟨rfl,v,h',by rw [xcall_go hfe hg];exact hc,hr.ext,F1,L3,⟨g1.1,fun n hn=>?_,g1.3⟩,h3⟩
  rcases g1.2 n hn with h1|h1
  · exact .inl h1
  · exact .inr (Nat.le_trans hs.ext.le h1)

/-- what one owns, seen for the time of a call -/
def view (hp : List TB) : Nat → TV → TV
  | 0,_=>.junk
  | d + 1,p=>match p with
    | .lsl n o len=>(match hp[n]? with
      | some (.rows es rows)=>.list es ((rows.drop o).take len)
      | _=>.junk)
    | .lptr n r o=>(match rowOf hp (.lptr n r o) with
      | some (row,o)=>if row.all (lf 4) = true then .fptr false row o else .junk
      | none=>.junk)
    | .agg l=>.agg (l.map (view hp d))
    | .tuple l=>.tuple (l.map (view hp d))
    | p=>p
/-- what is frozen, or one's own -/
def FzAll (Fz : Nat → Prop) (L : Nat → LI) (s : TS) : Nat → Prop:=fun k=>Fz k ∨ ∃ n b,s.hp[n]? = some b ∧ b.live = true ∧ (L n).nm = some k
theorem VL.view (hs : St h0 Fz L s tm h) : ∀ (d : Nat) {p : TV} {x : Value},VL Fz h L p x → VL (FzAll Fz L s) h noL (view s.hp d p) x
  | 0,p,x,hp=>by rw [Rex.view];exact .junk noL x
  | d + 1,p,x,hp=>by
    have hF : ∀ n,Fz n → FzAll Fz L s n:=fun n hn=>.inl hn
    have key : ∀ (l : List TV) (l' : List Value),(∀ (i : Nat) p x,l[i]? = some p → l'[i]? = some x → VL Fz h L p x) → ∀ (i : Nat) p x,(l.map (Rex.view s.hp d))[i]? = some p → l'[i]? = some x → VL (FzAll Fz L s) h noL p x:=by
      intro l l' ha i p x hp hx
      rw [List.getElem?_map] at hp
      cases hq : l[i]? with
      | none=>rw [hq] at hp;cases hp
      | some q=>rw [hq] at hp;obtain rfl:=Option.some.inj hp;exact VL.view hs d (ha i q x hq hx)
    cases hp with
    | junk _ x=>exact .junk noL x
    | v _ x hx=>exact .v noL x hx
    | agg _ l l' hl ha=>exact .agg noL _ l' (by simp [hl]) (key l l' ha)
    | tuple _ l l' hl ha=>exact .tuple noL _ l' (by simp [hl]) (key l l' ha)
    | func _ f a b a' b' la ha lb hb=>exact (VL.func noL f a b a' b' la ha lb hb).mono hF (fun _ _=>rfl)
    | nillist _ es=>exact .nillist noL es
    | vague _ es=>exact .vague noL es
    | list _ es rows n o c cs eb hn hb he hw hc hle ha=>exact (VL.list noL es rows n o c cs eb hn hb he hw hc hle ha).mono hF (fun _ _=>rfl)
    | fptr _ vb row off n base es cs hn hb hv hle ha=>exact (VL.fptr noL vb row off n base es cs hn hb hv hle ha).mono hF (fun _ _=>rfl)
    | lptr _ n r o nm ok hn =>
      simp only [Rex.view]
      split
      · rename_i row o' hr
        split
        · rename_i hlf
          have hbl : ∃ b,s.hp[n]? = some b ∧ b.live = true:=by
            simp only [rowOf] at hr
            split at hr
            · rename_i hb;exact ⟨_,hb,rfl⟩
            · rename_i hb;exact ⟨_,hb,rfl⟩
            · cases hr
          obtain ⟨b,hb,hlv⟩:=hbl
          obtain ⟨n',bb,es,cs,he,hcs,hle,hv⟩:=rowOf_sound hs (VL.lptr (Fz:=Fz) (h:=h) L n r o nm ok hn) hr
          injection he with he
          injection he with he
          injection he with he1 he2
          subst he1
          rw [he2]
          have:=VL.fptr (Fz:=FzAll Fz L s) (h:=h) noL false row o' nm bb es cs (.inr ⟨n,b,hb,hlv,hn⟩) hcs (fun h=>by cases h) hle (fun j p x h1 h2=>by
            have hjl:=(List.getElem?_eq_some_iff.1 h1).1
            have h3 : ((cs.drop bb).take row.length)[j]? = some x:=by
              rw [List.getElem?_take,if_pos hjl,List.getElem?_drop];exact h2
            exact (VL.toNo 4 (by simpa using List.all_eq_true.1 hlf p (List.mem_of_getElem? h1)) (hv.at' j p x h1 h3)).mono hF (fun _ _=>rfl))
          exact this
        · exact .junk noL _
      · exact .junk noL _
    | lslnil _ n ok hn =>
      simp only [Rex.view]
      split
      · simp only [List.take_zero];exact .nillist noL _
      · exact .junk noL _
    | lsl _ n o len nm ok hn hle =>
      simp only [Rex.view]
      split
      · rename_i es rows hb
        obtain ⟨q1,q2,q3,q4,q5⟩:=hs.blk n _ hb
        rcases q5 with q5|⟨nm',cs,e1,e2,e3,e4,e5⟩
        · rw [q5.1] at hn;cases hn
        · rw [hn] at e1
          obtain rfl:=Option.some.inj e1
          have hcl : cs.length = rows.length * es:=by rw [e5.len,flat_len q4]
          have:=VL.part (Fz:=FzAll Fz L s) (h:=h) (L:=noL) (es:=es) (rows:=rows) (n:=nm) (o:=0) (c:=(L n).tot - o) (cs:=cs) (.inr ⟨n,_,hb,rfl,hn⟩) e4 (.inl rfl) q4 (by omega) (fun j p x h1 h2=>by
            rw [Nat.zero_add] at h2
            exact (e5.at' j p x h1 h2).mono hF (fun _ _=>rfl)) o len (by rw [← q3];exact hle) (by omega)
          rw [Nat.zero_add] at this
          rw [q2]
          exact this
      · exact .junk noL _
def clTB : TB → Bool
  | .rows _ rows=>rows.all fun r=>r.all (cl 4)
  | .var row=>row.all (cl 4)
  | .dead=>true
/-- a result that names nothing frozen -/
theorem St.ofCl {L2 : Nat → LI} {p : TV} {v : Value} {th : List TB} {Fz' : Nat → Prop} {h' : List Blk} (hr : St h Fz' L2 ⟨[p],th⟩ [v] h') (hp : cl 4 p = true) (hth : th.all clTB = true) {F : Nat → Prop} (hF : ∀ n,F n → n < h.length) : St h F L2 ⟨[p],th⟩ [v] h':=by
  have hv : VL Fz' h' L2 p v:=hr.tmr.at' 0 p v rfl rfl
  refine ⟨VLs.cons (hv.ofCl 4 hp) VLs.nil,fun n b hb=>?_,hr.dom,hr.inj,fun n hn=>Nat.lt_of_lt_of_le (hF n hn) hr.ext.le,hr.ext⟩
  have hc:=List.all_eq_true.1 hth b (List.mem_of_getElem? hb)
  have hB:=hr.blk n b hb
  cases b with
  | dead=>trivial
  | rows es rows =>
    obtain ⟨q1,q2,q3,q4,q5⟩:=hB
    refine ⟨q1,q2,q3,q4,?_⟩
    rcases q5 with q5|⟨nm,cs,e1,e2,e3,e4,e5⟩
    · exact .inl q5
    · refine .inr ⟨nm,cs,e1,e2,fun hf=>by have:=hF _ hf;omega,e4,e5.len,fun i p x hp hx=>VL.ofCl 4 ?_ (e5.at' i p x hp hx)⟩
      have hm:=List.mem_of_getElem? hp
      simp only [List.mem_flatten] at hm
      obtain ⟨r,hr,hpr⟩:=hm
      simp only [clTB] at hc
      exact List.all_eq_true.1 (List.all_eq_true.1 hc r hr) p hpr
  | var row =>
    obtain ⟨q1,nm,cs,e1,e2,e3,e4,e5⟩:=hB
    refine ⟨q1,nm,cs,e1,e2,fun hf=>by have:=hF _ hf;omega,e4,e5.len,fun i p x hp hx=>VL.ofCl 4 ?_ (e5.at' i p x hp hx)⟩
    simp only [clTB] at hc
    exact List.all_eq_true.1 hc p (List.mem_of_getElem? hp)
/-- a call that looks at what one owns -/
theorem OpG.look {f : Operand} {g : FuncId} {args : Array Operand} {tys : Array TypeId} {first caps as : List TV} {p : TV} {th : List TB} (hf : tev s.tm f = .func g first caps) (hg : goFn P g = true) (has : first ++ ((args.toList.map (tev s.tm)).map (view s.hp 4) ++ caps) = as)
    (hsp : Spec C g as ⟨[p],th⟩) (hth : th.all resTB = true) (hp : cl 4 p = true) (hcl : th.all clTB = true) :
    OpG C P { dst:=dst,op:=.call { callee:=.value f,args:=args,argTypes:=tys },type:=ty,pos:=pos,after:=aft,guard:=gd } s ⟨tput s.tm dst (shift s.hp.length 4 p),s.hp ++ th⟩:=by
  intro h0 Fz L tm h hs
  subst has
  have hfv:=tev_vl hs.tmr f
  rw [hf] at hfv
  have hF : ∀ n,Fz n → FzAll Fz L s n:=fun n hn=>.inl hn
  obtain ⟨f',c',hfe,vf,vc⟩ : ∃ f' c',ev tm f = .func (.func g) ⟨f'⟩ ⟨c'⟩ ∧ VLs Fz h noL first f' ∧ VLs Fz h noL caps c':=by
    generalize ev tm f = y at *
    cases hfv with
    | func _ _ _ _ a' b' la ha lb hb=>exact ⟨a',b',rfl,⟨la,ha⟩,⟨lb,hb⟩⟩
  have hargs : VLs (FzAll Fz L s) h noL (first ++ ((args.toList.map (tev s.tm)).map (Rex.view s.hp 4) ++ caps)) (f' ++ (args.toList.map (ev tm) ++ c')):=by
    refine VLs.append (vf.mono hF (fun _ _=>rfl)) (VLs.append ?_ (vc.mono hF (fun _ _=>rfl)))
    have ha:=args_vls hs.tmr args.toList
    refine ⟨by simp,fun i p x hp hx=>?_⟩
    rw [List.getElem?_map] at hp
    cases hq : (args.toList.map (tev s.tm))[i]? with
    | none=>rw [hq] at hp;cases hp
    | some q=>rw [hq] at hp;obtain rfl:=Option.some.inj hp;exact VL.view hs 4 (ha.at' i q x hq hx)
  have hall : ∀ n,FzAll Fz L s n → n < h.length:=by
    rintro n (hn|⟨m,b,hb,hlv,hn⟩)
    · exact hs.fz n hn
    · exact (hs.lowB m b n hb hlv hn).1
  obtain ⟨v,h',F1,L1,hc,g1,hr⟩:=hsp _ h _ hall hargs
  have hr':=hr.ofCl hp hcl hs.fz
  obtain ⟨L3,h3⟩:=hs.adopt dst hr' hth (Grow.ext hs.fz hr.ext)
  exact ⟨rfl,v,h',by rw [xcall_go hfe hg];exact hc,hr.ext,Fz,L3,Grow.ext hs.fz hr.ext,h3⟩

/-! ### a function -/
def tresAll (P : Program) (hp : List TB) (tm : List TV) : List ResultVar → Option (List TV)
  | []=>some []
  | r :: rs=>match tres (tload P hp) tm r with
    | some v=>(tresAll P hp tm rs).map fun vs=>v :: vs
    | none=>none
theorem tresAll_sound (hs : St h0 Fz L s tm h) : ∀ (rs : List ResultVar) (ps : List TV),tresAll P s.hp s.tm rs = some ps → ∃ vs,resAll P h tm rs = some vs ∧ VLs Fz h L ps vs
  | [],ps,hp=>by obtain rfl:=Option.some.inj hp;exact ⟨[],rfl,VLs.nil⟩
  | r :: rs,ps,hp=>by
    simp only [tresAll] at hp
    split at hp
    · rename_i p hr
      obtain ⟨ps',h1,rfl⟩:=Option.map_eq_some_iff.1 hp
      obtain ⟨vs,h2,h3⟩:=tresAll_sound hs rs ps' h1
      have : ∃ v,resV P h tm r = some v ∧ VL Fz h L p v:=by
        cases r with
        | tmp t =>
          simp only [tres] at hr
          obtain rfl:=Option.some.inj hr
          exact ⟨_,rfl,tev_vl hs.tmr (.tmp t)⟩
        | cell a t =>
          simp only [tres] at hr
          obtain ⟨n,o,v,hx,hl,hv⟩:=tload_sound hs (tev_vl hs.tmr (.tmp a)) hr
          refine ⟨v,?_,hv⟩
          simp only [ev] at hx
          simp only [resV,hx,hl]
      obtain ⟨v,h4,h5⟩:=this
      exact ⟨v :: vs,by simp only [resAll,h4,h2,Option.map_some],VLs.cons h5 h3⟩
    · cases hp
theorem Spec.fn {f : FuncId} {fd : Func} {c : Code} {args : List TV} {r : TS} (hf : P.funcs[f]? = some fd) (hb : fd.body = some c) {tm0 : List TV} (htm : args ++ List.replicate (fd.ntmps - args.length) TV.junk = tm0)
    (hx : TX (lim P) P c ⟨tm0,[]⟩ (fun e s=>(e = .normal ∨ e = .ret) ∧ ∃ ps,tresAll P s.hp s.tm fd.results.toList = some ps ∧ Wk ⟨[oneT ps],s.hp⟩ r)) (hcov : cov r = true) : Spec (lim P) f args r:=by
  intro Fz h vs hfz hargs
  subst htm
  have hs : St h Fz noL ⟨args ++ List.replicate (fd.ntmps - args.length) TV.junk,[]⟩ (vs ++ List.replicate (fd.ntmps - vs.length) undef) h:=by
    refine ⟨?_,fun n b hb=>by simp at hb,fun n hn=>by simp [noL] at hn,fun n n' b b' nm hb=>by simp at hb,hfz,Ext.refl h⟩
    refine VLs.append hargs ?_
    rw [hargs.len]
    exact VLs.replicate (.junk noL undef) _
  obtain ⟨K,e,a1,h1,w1,hexec,hw,hdf,s1,F1,L1,⟨he,ps,hps,hwk⟩,g1,hs1⟩:=hx h Fz noL _ h hs
  obtain ⟨vs1,hres,hvs1⟩:=tresAll_sound (P:=P) hs1 _ ps hps
  have hs2 : St h F1 L1 ⟨[oneT ps],s1.hp⟩ [oneOf vs1] h1:=⟨VLs.cons (oneT_vl hvs1) VLs.nil,hs1.blk,hs1.dom,hs1.inj,hs1.fz,hs1.ext⟩
  obtain ⟨F2,L2,g2,hs3⟩:=hwk h F1 L1 _ h1 hs2
  have hm : wmin w1 none = w1:=by cases w1<;>rfl
  by_cases hcl : isClean (oneOf vs1) = true
  · obtain ⟨L4,hs4⟩:=hs3.clean hcl hcov hfz
    refine ⟨oneOf vs1,h,Fz,L4,lim_runCall (K:=K) ?_,Grow.refl _ _,hs4⟩
    unfold runCall
    simp only [hf,hb,hexec]
    have hend : runEnd P fd h.length h a1 h1 w1 = some (oneOf vs1,h,none):=by
      simp only [runEnd,hdf,takeDefers,hres,hcl,if_true,hm,hw]
    rcases he with rfl|rfl<;>exact hend
  · refine ⟨oneOf vs1,h1,F2,L2,lim_runCall (K:=K) ?_,g1.trans g2,hs3⟩
    unfold runCall
    simp only [hf,hb,hexec]
    have hend : runEnd P fd h.length h a1 h1 w1 = some (oneOf vs1,h1,none):=by
      simp [runEnd,hdf,takeDefers,hres,hcl,hm,hw]
    rcases he with rfl|rfl<;>exact hend
/-! ### a law: it may call f,which is true -/
theorem Spec.ov {f g : FuncId} {args : List TV} {r : TS} (hs : Spec (lim P) g args r) (hne : g ≠ f) : Spec (over P f) g args r:=by
  intro Fz h vs hfz hargs
  obtain ⟨v,h',F1,L1,hc,g1,hr⟩:=hs Fz h vs hfz hargs
  refine ⟨v,h',F1,L1,?_,g1,hr⟩
  rw [over_call,if_neg (fun hh=>hne hh.1)]
  exact hc
theorem Spec.awake {f : FuncId} : Spec (over P f) f [] ⟨[.v (.bool true)],[]⟩:=by
  intro Fz h vs hfz hargs
  have : vs = []:=by have:=hargs.len;simpa using this
  subst this
  exact ⟨.bool true,h,Fz,noL,by rw [over_call,if_pos ⟨rfl,rfl⟩],Grow.refl _ _,⟨VLs.cons (.v noL _ rfl) VLs.nil,fun n b hb=>by simp at hb,fun n hn=>by simp [noL] at hn,fun n n' b b' nm hb=>by simp at hb,hfz,Ext.refl h⟩⟩
theorem law_tex (hm : P.follows .mixedOrders = true) {f : FuncId} (hv : AwT P f) {g : FuncId} {fd : Func} {c : Code} {args : List TV} (hf : P.funcs[g]? = some fd) (hb : fd.body = some c)
    {tm0 : List TV} (htm : args ++ List.replicate (fd.ntmps - args.length) TV.junk = tm0)
    (hx : TX (over P f) P c ⟨tm0,[]⟩ (fun e s=>(e = .normal ∨ e = .ret) ∧ tresAll P s.hp s.tm fd.results.toList = some [.v (.bool true)]))
    {Fz : Nat → Prop} {h : List Blk} {vs : List Value} (hfz : ∀ n,Fz n → n < h.length) (hargs : VLs Fz h noL args vs)
    {B lo : Nat} {D : Nat → Prop} {m : NMap} {w : World} {args' : List Value} (hr : Rel B lo D m h w) (hlo : lo ≤ h.length) (hargs' : VRs D m vs args') : Calls P g ⟨args'⟩ w (fun e w'=>e = .returned (.bool true) ∧ Below w.heap.size w w'):=by
  refine law_call hm hv hf hb (args:=vs) rfl ?_ hr hlo hargs'
  subst htm
  have hs : St h Fz noL ⟨args ++ List.replicate (fd.ntmps - args.length) TV.junk,[]⟩ (vs ++ List.replicate (fd.ntmps - vs.length) undef) h:=by
    refine ⟨?_,fun n b hb=>by simp at hb,fun n hn=>by simp [noL] at hn,fun n n' b b' nm hb=>by simp at hb,hfz,Ext.refl h⟩
    refine VLs.append hargs ?_
    rw [hargs.len]
    exact VLs.replicate (.junk noL undef) _
  refine (hx h Fz noL _ h hs).mono ?_
  rintro e a' h' ⟨hd,s',F',L',⟨he,hres⟩,g,hs'⟩
  refine ⟨he,hd,?_⟩
  obtain ⟨vs1,h1,h2⟩:=tresAll_sound (P:=P) hs' _ _ hres
  have hl:=h2.len
  match vs1,hl,h1,h2 with
  | [x],_,h1,h2 =>
    have:=h2.at' 0 _ x rfl rfl
    exact ⟨[x],h1,by rw [this.bool_inv];rfl⟩
end
end Go.Rex

namespace Go.Rex
open Go.RowKit
section
/-! ### states that say less: renamed,forgotten,nil as a row of nothing -/
inductive RN (fl : List (Option Nat)) : TV → TV → Prop
  | junk {p : TV} : RN fl p .junk
  | keep {p q : TV} (e : p = q) (h : lf 4 q = true) : RN fl p q
  | lsl {n o len j len' : Nat} (h : fl[j]? = some (some n)) (e : len = len') : RN fl (.lsl n o len) (.lsl j o len')
  | lptr {n r o j : Nat} (h : fl[j]? = some (some n)) : RN fl (.lptr n r o) (.lptr j r o)
  | nil {j : Nat} (h : fl[j]? = some none) : RN fl (.v (.slice none 0 0)) (.lsl j 0 0)
  | nl {es : Nat} : RN fl (.v (.slice none 0 0)) (.list es [])
  | agg {l l' : List TV} (hl : l'.length = l.length) (h : ∀ (i : Nat) p q,l[i]? = some p → l'[i]? = some q → RN fl p q) : RN fl (.agg l) (.agg l')
  | tuple {l l' : List TV} (hl : l'.length = l.length) (h : ∀ (i : Nat) p q,l[i]? = some p → l'[i]? = some q → RN fl p q) : RN fl (.tuple l) (.tuple l')
structure RNs (fl : List (Option Nat)) (l l' : List TV) : Prop where
  len : l'.length = l.length
  at' : ∀ (i : Nat) p q,l[i]? = some p → l'[i]? = some q → RN fl p q
theorem RNs.nil {fl : List (Option Nat)} : RNs fl [] []:=⟨rfl,fun i p q h=>by simp at h⟩
theorem RNs.cons {fl : List (Option Nat)} {p q : TV} {l l' : List TV} (h : RN fl p q) (hs : RNs fl l l') : RNs fl (p :: l) (q :: l'):=by
  refine ⟨by simp [hs.len],fun i p q hp hq=>?_⟩
  cases i with
  | zero=>simp at hp hq;subst hp hq;exact h
  | succ i=>simp at hp hq;exact hs.at' i _ _ hp hq
theorem RN.tuple' {fl : List (Option Nat)} {l l' : List TV} (h : RNs fl l l') : RN fl (.tuple l) (.tuple l'):=.tuple h.len h.at'
variable {Fz : Nat → Prop} {h : List Blk} {L L' : Nat → LI}
theorem RN.vl {fl : List (Option Nat)} (hL : ∀ j n,fl[j]? = some (some n) → L' j = L n) (hV : ∀ j,fl[j]? = some none → (L' j).ok = true ∧ (L' j).nm = none) {p q : TV} (hr : RN fl p q) : ∀ {x : Value},VL Fz h L p x → VL Fz h L' q x:=by
  induction hr with
  | junk=>intro x _;exact .junk L' x
  | keep e hl=>intro x hp;subst e;exact VL.toNo 4 hl hp
  | lsl hj e =>
    intro x hp
    subst e
    have e:=hL _ _ hj
    cases hp with
    | lslnil _ _ ok hn=>rw [← e] at ok hn;exact .lslnil L' _ ok hn
    | lsl _ _ _ _ nm ok hn hle=>rw [← e] at ok hn hle ⊢;exact .lsl L' _ _ _ nm ok hn hle
  | lptr hj =>
    intro x hp
    have e:=hL _ _ hj
    cases hp with
    | lptr _ _ _ _ nm ok hn=>rw [← e] at ok hn ⊢;exact .lptr L' _ _ _ nm ok hn
  | nil hj =>
    intro x hp
    obtain rfl:=hp.bool_inv
    exact .lslnil L' _ (hV _ hj).1 (hV _ hj).2
  | nl =>
    intro x hp
    obtain rfl:=hp.bool_inv
    exact .nillist L' _
  | @agg l l' hl hh ih =>
    intro x hp
    cases hp with
    | agg _ _ l2 hl2 ha =>
      refine .agg L' l' l2 (by omega) fun i p y h1 h2=>?_
      have hlt:=(List.getElem?_eq_some_iff.1 h1).1
      have h0 : l[i]? = some l[i]:=List.getElem?_eq_getElem (by omega)
      exact ih i _ _ h0 h1 (ha i _ _ h0 h2)
  | @tuple l l' hl hh ih =>
    intro x hp
    cases hp with
    | tuple _ _ l2 hl2 ha =>
      refine .tuple L' l' l2 (by omega) fun i p y h1 h2=>?_
      have hlt:=(List.getElem?_eq_some_iff.1 h1).1
      have h0 : l[i]? = some l[i]:=List.getElem?_eq_getElem (by omega)
      exact ih i _ _ h0 h1 (ha i _ _ h0 h2)
def renOk : List (Option Nat) → Bool
  | []=>true
  | none :: l=>renOk l
  | some n :: l=>l.all (fun x=>x != some n) && renOk l
theorem renOk_inj : ∀ {fl : List (Option Nat)},renOk fl = true → ∀ (i j n : Nat),fl[i]? = some (some n) → fl[j]? = some (some n) → i = j
  | [],_,i,j,n,h,_=>by simp at h
  | none :: l,hr,i,j,n,h1,h2=>by
    cases i with
    | zero=>simp at h1
    | succ i=>cases j with
      | zero=>simp at h2
      | succ j=>rw [renOk_inj (fl:=l) (by simpa [renOk] using hr) i j n (by simpa using h1) (by simpa using h2)]
  | some m :: l,hr,i,j,n,h1,h2=>by
    simp only [renOk,Bool.and_eq_true] at hr
    have hne : ∀ k,l[k]? ≠ some (some m):=fun k hk=>by
      have:=List.all_eq_true.1 hr.1 _ (List.mem_of_getElem? hk)
      simp at this
    cases i with
    | zero=>cases j with
      | zero=>rfl
      | succ j=>simp at h1;subst h1;exact absurd (by simpa using h2) (hne j)
    | succ i=>cases j with
      | zero=>simp at h2;subst h2;exact absurd (by simpa using h1) (hne i)
      | succ j=>rw [renOk_inj (fl:=l) hr.2 i j n (by simpa using h1) (by simpa using h2)]
/-- blocks under new numbers -/
inductive RB (fl : List (Option Nat)) (hp : List TB) : List TB → List (Option Nat) → Prop
  | nil : RB fl hp [] []
  | virt {es : Nat} {hp' : List TB} {l : List (Option Nat)} (h : RB fl hp hp' l) : RB fl hp (.rows es [] :: hp') (none :: l)
  | rows {n es : Nat} {rows rows' : List (List TV)} {hp' : List TB} {l : List (Option Nat)} (h : RB fl hp hp' l) (hb : hp[n]? = some (.rows es rows)) (e : rows = rows') : RB fl hp (.rows es rows' :: hp') (some n :: l)
  | var {n : Nat} {row row' : List TV} {hp' : List TB} {l : List (Option Nat)} (h : RB fl hp hp' l) (hb : hp[n]? = some (.var row)) (hr : RNs fl row row') : RB fl hp (.var row' :: hp') (some n :: l)
theorem RB.at {fl : List (Option Nat)} {hp hp' : List TB} {l : List (Option Nat)} (hb : RB fl hp hp' l) : hp'.length = l.length ∧ ∀ (j : Nat) (b : TB),hp'[j]? = some b → (l[j]? = some none ∧ ∃ es,b = .rows es []) ∨ ∃ n,l[j]? = some (some n) ∧ ((∃ es rows,b = .rows es rows ∧ hp[n]? = some b) ∨ ∃ row row',b = .var row' ∧ hp[n]? = some (.var row) ∧ RNs fl row row'):=by
  induction hb with
  | nil=>exact ⟨rfl,fun j b h=>by simp at h⟩
  | virt h ih =>
    refine ⟨by simp [ih.1],fun j b hj=>?_⟩
    cases j with
    | zero=>simp at hj;subst hj;exact .inl ⟨rfl,_,rfl⟩
    | succ j=>exact ih.2 j b (by simpa using hj)
  | rows h hb e ih =>
    subst e
    refine ⟨by simp [ih.1],fun j b hj=>?_⟩
    cases j with
    | zero=>simp at hj;subst hj;exact .inr ⟨_,rfl,.inl ⟨_,_,rfl,hb⟩⟩
    | succ j=>exact ih.2 j b (by simpa using hj)
  | var h hb hr ih =>
    refine ⟨by simp [ih.1],fun j b hj=>?_⟩
    cases j with
    | zero=>simp at hj;subst hj;exact .inr ⟨_,rfl,.inr ⟨_,_,rfl,hb,hr⟩⟩
    | succ j=>exact ih.2 j b (by simpa using hj)
theorem Wk.ren {tm tm' : List TV} {hp hp' : List TB} (fl : List (Option Nat)) (hok : renOk fl = true) (hB : RB fl hp hp' fl) (hT : RNs fl tm tm') : Wk ⟨tm,hp⟩ ⟨tm',hp'⟩:=by
  intro h0 Fz L vm h hs
  obtain ⟨hlen,hat⟩:=hB.at
  have esOf' : ∀ j : Nat,∃ es : Nat,fl[j]? = some none → hp'[j]? = some (TB.rows es []):=by
    intro j
    cases hb : hp'[j]? with
    | none =>
      refine ⟨0,fun hf=>?_⟩
      have h1:=(List.getElem?_eq_some_iff.1 hf).1
      rw [List.getElem?_eq_none_iff] at hb
      omega
    | some b =>
      rcases hat j b hb with ⟨_,es,rfl⟩|⟨n,h1,_⟩
      · exact ⟨es,fun _=>rfl⟩
      · exact ⟨0,fun hf=>by rw [h1] at hf;cases hf⟩
  let es : Nat → Nat:=fun j=>Classical.choose (esOf' j)
  have hes : ∀ j : Nat,fl[j]? = some none → hp'[j]? = some (TB.rows (es j) []):=fun j=>Classical.choose_spec (esOf' j)
  let L' : Nat → LI:=fun j=>match fl[j]? with
    | some (some n)=>L n
    | some none=>⟨true,none,es j,0⟩
    | none=>⟨false,none,0,0⟩
  have hL : ∀ j n : Nat,fl[j]? = some (some n) → L' j = L n:=fun j n hj=>by simp only [L',hj]
  have hV' : ∀ j : Nat,fl[j]? = some none → L' j = ⟨true,none,es j,0⟩:=fun j hj=>by simp only [L',hj]
  have hV : ∀ j : Nat,fl[j]? = some none → (L' j).ok = true ∧ (L' j).nm = none:=fun j hj=>by rw [hV' j hj];exact ⟨rfl,rfl⟩
  have hN : ∀ j : Nat,fl[j]? = none → (L' j).ok = false:=fun j hj=>by simp only [L',hj]
  clear_value L'
  have hmap : ∀ (l l' : List TV) (x : List Value),RNs fl l l' → VLs Fz h L l x → VLs Fz h L' l' x:=by
    intro l l' x hr hx
    refine ⟨by have:=hr.len;have:=hx.len;omega,fun i q y hq hy=>?_⟩
    have hlt:=(List.getElem?_eq_some_iff.1 hq).1
    have hll:=hr.len
    have h0 : l[i]? = some l[i]:=List.getElem?_eq_getElem (by omega)
    exact (hr.at' i _ _ h0 hq).vl hL hV (hx.at' i _ _ h0 hy)
  refine ⟨Fz,L',Grow.refl _ _,⟨hmap _ _ _ hT hs.tmr,?_,?_,?_,hs.fz,hs.ext⟩⟩
  · intro j b hb
    rcases hat j b hb with ⟨hj,es',rfl⟩|⟨n,hj,h1⟩
    · have:=hes j hj
      rw [hb] at this
      injection this with this
      injection this with this _
      refine ⟨(hV j hj).1,by rw [hV' j hj];exact this.symm,by rw [hV' j hj];rfl,by simp,.inl ⟨(hV j hj).2,rfl⟩⟩
    · rcases h1 with ⟨es',rows,rfl,hn⟩|⟨row,row',rfl,hn,hr⟩
      · have:=hs.blk n _ hn
        unfold BR at this ⊢
        rw [hL j n hj]
        exact this
      · obtain ⟨q1,nm,cs,e1,e2,e3,e4,e5⟩:=hs.blk n _ hn
        unfold BR
        rw [hL j n hj]
        exact ⟨q1,nm,cs,e1,e2,e3,e4,hmap _ _ _ hr e5⟩
  · intro j hj
    show j < hp'.length
    rcases Nat.lt_or_ge j fl.length with hlt|hge
    · omega
    · rw [hN j (List.getElem?_eq_none_iff.2 hge)] at hj;cases hj
  · intro j j' b b' nm hb hb' l1 l2 e1 e2
    have f : ∀ (j : Nat) (b : TB),hp'[j]? = some b → b.live = true → (L' j).nm = some nm → ∃ (n : Nat) (b0 : TB),fl[j]? = some (some n) ∧ hp[n]? = some b0 ∧ b0.live = true ∧ (L n).nm = some nm:=by
      intro j b hb hl he
      rcases hat j b hb with ⟨hj,es',rfl⟩|⟨n,hj,h1⟩
      · rw [(hV j hj).2] at he;cases he
      · rw [hL j n hj] at he
        rcases h1 with ⟨es',rows,rfl,hn⟩|⟨row,row',rfl,hn,hr⟩
        · exact ⟨n,_,hj,hn,rfl,he⟩
        · exact ⟨n,_,hj,hn,rfl,he⟩
    obtain ⟨n,b0,g1,g2,g3,g4⟩:=f j b hb l1 e1
    obtain ⟨n',b0',k1,k2,k3,k4⟩:=f j' b' hb' l2 e2
    obtain rfl:=hs.inj n n' b0 b0' nm g2 k2 g3 k3 g4 k4
    exact renOk_inj hok j j' n g1 k1
end

section
variable {C : Ctx} {P : Program} {ops : Array Oper} {rest : List Oper} {tm tm2 : List TV} {hp hp2 : List TB} {Q : TS → Prop} {o : Oper}
variable {dst : Option Tmp} {ty : TypeId} {pos : String} {aft : Array Edge} {gd : Option (Nat × Bool)}
/-! ### the shallow side -/
def getI {α : Type} (xs : List α) (i : Int) : Option α:=if 0 ≤ i then xs[i.toNat]? else none
def appI {α : Type} (bytes : Nat) (xs ys : List α) : Option (List α):=if xs.length + ys.length ≤ 2 ^ 40 ∧ (xs.length + ys.length) * bytes ≤ 140737488355328 then some (xs ++ ys) else none
theorem getI_lt {α : Type} {xs : List α} {i : Int} {x : α} (h : getI xs i = some x) : 0 ≤ i ∧ i < xs.length:=by
  unfold getI at h
  split at h
  · have:=(List.getElem?_eq_some_iff.1 h).1;omega
  · cases h
theorem getI_at {α : Type} {xs : List α} {i : Int} {x : α} (h : getI xs i = some x) : xs[i.toNat]? = some x:=by
  unfold getI at h
  split at h
  · exact h
  · cases h
theorem tidx_map {α : Type} {xs : List α} {f : α → List TV} {i : Int} {x : α} (h : getI xs i = some x) : tidx (xs.map f) i = some (f x):=by
  unfold tidx
  rw [if_pos (getI_lt h).1,List.getElem?_map,getI_at h]
  rfl

/-! ### operations,with the state as it is -/
theorem TO.pop1 {p : TV} (hw : twant ops tm o = some true) (hv : tpop P hp tm o = some p) (ht : tput tm o.dst p = tm2) (hq : TO C P ops rest ⟨tm2,hp⟩ Q) : TO C P ops (o :: rest) ⟨tm,hp⟩ Q:=by
  subst ht;exact TO.p hw (OpP.of hv) hq
theorem TO.skip1 (hw : twant ops tm o = some false) (ht : tput tm o.dst (.tuple []) = tm2) (hq : TO C P ops rest ⟨tm2,hp⟩ Q) : TO C P ops (o :: rest) ⟨tm,hp⟩ Q:=by
  subst ht;exact TO.skip hw hq
variable {ms : List Nat} {i : Nat} {np : List Nat} {c : Nat}
theorem TD.pop1 {p : TV} (hw : twant ops tm o = some true) (hv : tpop P hp tm o = some p) (ht : tput tm o.dst p = tm2) (hq : TD C P ops ms rest (i + 1) np c ⟨tm2,hp⟩ Q) : TD C P ops ms (o :: rest) i np c ⟨tm,hp⟩ Q:=by
  subst ht;exact TD.p hw (OpP.of hv) hq
theorem TD.skip1 (hw : twant ops tm o = some false) (ht : tput tm o.dst (.tuple []) = tm2) (hq : TD C P ops ms rest (i + 1) np c ⟨tm2,hp⟩ Q) : TD C P ops ms (o :: rest) i np c ⟨tm,hp⟩ Q:=by
  subst ht;exact TD.skip hw hq
/-! ### loops,with all that follows -/
theorem TX.loopE {σ ε : Type} {b : Code} {step : σ → Option (σ ⊕ ε)} {x : σ} {e : ε} {Q : Exit → TS → Prop} (hr : run step x = some e) (I : σ → TS) (J : ε → Exit × TS)
    (hB : ∀ x y,step x = some y → TX C P b (I x) (fun ex st=>match y with|.inl x'=>ex = .normal ∧ Wk st (I x')|.inr e=>ex = (J e).1 ∧ Wk st (J e).2)) (hne : ∀ e,(J e).1 ≠ .normal) (hq : Q (J e).1 (J e).2) {s : TS} (hw : Wk s (I x)) : TX C P (.loop b) s Q:=by
  refine TX.weak hw (TX.post ((TX.loop hr I (fun e ex st=>ex = (J e).1 ∧ Wk st (J e).2) (fun x x' h=>hB x _ h) (fun x e h=>?_)).mono ?_))
  · exact (hB x _ h).mono fun ex st hh=>⟨by rw [hh.1];exact hne e,hh⟩
  · rintro ex st ⟨rfl,hh⟩
    exact ⟨_,hh,hq⟩
end
end Go.Rex

namespace Go.Rex
open Go.RowKit
section
variable {C : Ctx} {P : Program} {ops : Array Oper} {rest : List Oper} {tm tm2 : List TV} {hp hp2 : List TB} {Q : TS → Prop} {o : Oper}
variable {dst : Option Tmp} {ty : TypeId} {pos : String} {aft : Array Edge} {gd : Option (Nat × Bool)} {p q : TV} {ms : List Nat} {i : Nat} {np : List Nat} {c : Nat}

theorem TO.mv {x : Operand} (hw : twant ops tm { dst:=dst,op:=.move x,type:=ty,pos:=pos,after:=aft,guard:=gd } = some true) (hv : tev tm x = p) (ht : tput tm dst p = tm2) (hq : TO C P ops rest ⟨tm2,hp⟩ Q) : TO C P ops ({ dst:=dst,op:=.move x,type:=ty,pos:=pos,after:=aft,guard:=gd } :: rest) ⟨tm,hp⟩ Q :=
  TO.pop1 hw (by subst hv;rfl) ht hq
theorem TD.mv {x : Operand} (hw : twant ops tm { dst:=dst,op:=.move x,type:=ty,pos:=pos,after:=aft,guard:=gd } = some true) (hv : tev tm x = p) (ht : tput tm dst p = tm2) (hq : TD C P ops ms rest (i + 1) np c ⟨tm2,hp⟩ Q) : TD C P ops ms ({ dst:=dst,op:=.move x,type:=ty,pos:=pos,after:=aft,guard:=gd } :: rest) i np c ⟨tm,hp⟩ Q :=
  TD.pop1 hw (by subst hv;rfl) ht hq
theorem TO.asg {x : Operand} (hw : twant ops tm { dst:=dst,op:=.assign x,type:=ty,pos:=pos,after:=aft,guard:=gd } = some true) (hv : tev tm x = p) (ht : tput tm dst p = tm2) (hq : TO C P ops rest ⟨tm2,hp⟩ Q) : TO C P ops ({ dst:=dst,op:=.assign x,type:=ty,pos:=pos,after:=aft,guard:=gd } :: rest) ⟨tm,hp⟩ Q :=
  TO.pop1 hw (by subst hv;rfl) ht hq
theorem TD.asg {x : Operand} (hw : twant ops tm { dst:=dst,op:=.assign x,type:=ty,pos:=pos,after:=aft,guard:=gd } = some true) (hv : tev tm x = p) (ht : tput tm dst p = tm2) (hq : TD C P ops ms rest (i + 1) np c ⟨tm2,hp⟩ Q) : TD C P ops ms ({ dst:=dst,op:=.assign x,type:=ty,pos:=pos,after:=aft,guard:=gd } :: rest) i np c ⟨tm,hp⟩ Q :=
  TD.pop1 hw (by subst hv;rfl) ht hq
theorem TO.bin {b : BinOp} {t u : TypeId} {x y : Operand} {a d r : Value} (hw : twant ops tm { dst:=dst,op:=.binOp b t x y u,type:=ty,pos:=pos,after:=aft,guard:=gd } = some true) (hx : tev tm x = .v a) (hy : tev tm y = .v d) (hv : fastBin b a d = some r) (ht : tput tm dst (.v r) = tm2) (hq : TO C P ops rest ⟨tm2,hp⟩ Q) : TO C P ops ({ dst:=dst,op:=.binOp b t x y u,type:=ty,pos:=pos,after:=aft,guard:=gd } :: rest) ⟨tm,hp⟩ Q :=
  TO.pop1 hw (by simp only [tpop,hx,hy,tbin,hv,Option.map_some,orT]) ht hq
theorem TD.bin {b : BinOp} {t u : TypeId} {x y : Operand} {a d r : Value} (hw : twant ops tm { dst:=dst,op:=.binOp b t x y u,type:=ty,pos:=pos,after:=aft,guard:=gd } = some true) (hx : tev tm x = .v a) (hy : tev tm y = .v d) (hv : fastBin b a d = some r) (ht : tput tm dst (.v r) = tm2) (hq : TD C P ops ms rest (i + 1) np c ⟨tm2,hp⟩ Q) : TD C P ops ms ({ dst:=dst,op:=.binOp b t x y u,type:=ty,pos:=pos,after:=aft,guard:=gd } :: rest) i np c ⟨tm,hp⟩ Q :=
  TD.pop1 hw (by simp only [tpop,hx,hy,tbin,hv,Option.map_some,orT]) ht hq
theorem TD.ext {x : Operand} {n : Nat} {l : List TV} (hw : twant ops tm { dst:=dst,op:=.extract x n,type:=ty,pos:=pos,after:=aft,guard:=gd } = some true) (hx : tev tm x = .tuple l) (hv : l[n]? = some p) (ht : tput tm dst p = tm2) (hq : TD C P ops ms rest (i + 1) np c ⟨tm2,hp⟩ Q) : TD C P ops ms ({ dst:=dst,op:=.extract x n,type:=ty,pos:=pos,after:=aft,guard:=gd } :: rest) i np c ⟨tm,hp⟩ Q :=
  TD.pop1 hw (by simp only [tpop,hx,hv]) ht hq
theorem TO.fa {t : TypeId} {x : Operand} {f : Nat} (hw : twant ops tm { dst:=dst,op:=.fieldAddr t x f,type:=ty,pos:=pos,after:=aft,guard:=gd } = some true) (hx : tev tm x = q) (hv : tfieldAddr P t q f = some p) (ht : tput tm dst p = tm2) (hq : TO C P ops rest ⟨tm2,hp⟩ Q) : TO C P ops ({ dst:=dst,op:=.fieldAddr t x f,type:=ty,pos:=pos,after:=aft,guard:=gd } :: rest) ⟨tm,hp⟩ Q :=
  TO.pop1 hw (by simp only [tpop,hx,hv]) ht hq
theorem TD.fa {t : TypeId} {x : Operand} {f : Nat} (hw : twant ops tm { dst:=dst,op:=.fieldAddr t x f,type:=ty,pos:=pos,after:=aft,guard:=gd } = some true) (hx : tev tm x = q) (hv : tfieldAddr P t q f = some p) (ht : tput tm dst p = tm2) (hq : TD C P ops ms rest (i + 1) np c ⟨tm2,hp⟩ Q) : TD C P ops ms ({ dst:=dst,op:=.fieldAddr t x f,type:=ty,pos:=pos,after:=aft,guard:=gd } :: rest) i np c ⟨tm,hp⟩ Q :=
  TD.pop1 hw (by simp only [tpop,hx,hv]) ht hq
theorem TO.ia {t : TypeId} {x y : Operand} {q2 : TV} (hw : twant ops tm { dst:=dst,op:=.indexAddr t x y,type:=ty,pos:=pos,after:=aft,guard:=gd } = some true) (hx : tev tm x = q) (hy : tev tm y = q2) (hv : tindexAddr P hp t q q2 = some p) (ht : tput tm dst p = tm2) (hq : TO C P ops rest ⟨tm2,hp⟩ Q) : TO C P ops ({ dst:=dst,op:=.indexAddr t x y,type:=ty,pos:=pos,after:=aft,guard:=gd } :: rest) ⟨tm,hp⟩ Q :=
  TO.pop1 hw (by simp only [tpop,hx,hy,hv]) ht hq
theorem TD.ia {t : TypeId} {x y : Operand} {q2 : TV} (hw : twant ops tm { dst:=dst,op:=.indexAddr t x y,type:=ty,pos:=pos,after:=aft,guard:=gd } = some true) (hx : tev tm x = q) (hy : tev tm y = q2) (hv : tindexAddr P hp t q q2 = some p) (ht : tput tm dst p = tm2) (hq : TD C P ops ms rest (i + 1) np c ⟨tm2,hp⟩ Q) : TD C P ops ms ({ dst:=dst,op:=.indexAddr t x y,type:=ty,pos:=pos,after:=aft,guard:=gd } :: rest) i np c ⟨tm,hp⟩ Q :=
  TD.pop1 hw (by simp only [tpop,hx,hy,hv]) ht hq
theorem TO.pk {x y z : Operand} (hw : twant ops tm { dst:=dst,op:=.pick x y z,type:=ty,pos:=pos,after:=aft,guard:=gd } = some true) (hv : tpick (tev tm x) (tev tm y) (tev tm z) = some p) (ht : tput tm dst p = tm2) (hq : TO C P ops rest ⟨tm2,hp⟩ Q) : TO C P ops ({ dst:=dst,op:=.pick x y z,type:=ty,pos:=pos,after:=aft,guard:=gd } :: rest) ⟨tm,hp⟩ Q :=
  TO.pop1 hw (by simp only [tpop,hv]) ht hq
theorem TO.len {x : Operand} {t : TypeId} {ts : List TypeId} (hw : twant ops tm { dst:=dst,op:=.call { callee:=.builtin .len,args:=#[x],argTypes:=⟨t :: ts⟩ },type:=ty,pos:=pos,after:=aft,guard:=gd } = some true) (hx : tev tm x = q) (hv : tlen P (some t) q = some p) (ht : tput tm dst p = tm2) (hq : TO C P ops rest ⟨tm2,hp⟩ Q) : TO C P ops ({ dst:=dst,op:=.call { callee:=.builtin .len,args:=#[x],argTypes:=⟨t :: ts⟩ },type:=ty,pos:=pos,after:=aft,guard:=gd } :: rest) ⟨tm,hp⟩ Q :=
  TO.pop1 hw (by simp only [tpop,if_true,hx,List.getElem?_toArray,List.getElem?_cons_zero,hv,orT]) ht hq
theorem TD.len {x : Operand} {t : TypeId} {ts : List TypeId} (hw : twant ops tm { dst:=dst,op:=.call { callee:=.builtin .len,args:=#[x],argTypes:=⟨t :: ts⟩ },type:=ty,pos:=pos,after:=aft,guard:=gd } = some true) (hx : tev tm x = q) (hv : tlen P (some t) q = some p) (ht : tput tm dst p = tm2) (hq : TD C P ops ms rest (i + 1) np c ⟨tm2,hp⟩ Q) : TD C P ops ms ({ dst:=dst,op:=.call { callee:=.builtin .len,args:=#[x],argTypes:=⟨t :: ts⟩ },type:=ty,pos:=pos,after:=aft,guard:=gd } :: rest) i np c ⟨tm,hp⟩ Q :=
  TD.pop1 hw (by simp only [tpop,if_true,hx,List.getElem?_toArray,List.getElem?_cons_zero,hv,orT]) ht hq
theorem TD.bld {t : TypeId} {ps : Array (Nat × Operand)} {l : List (Nat × TV)} (hw : twant ops tm { dst:=dst,op:=.build t ps,type:=ty,pos:=pos,after:=aft,guard:=gd } = some true) (hx : ps.toList.map (fun q=>(q.1,tev tm q.2)) = l) (hv : tbuild P t l = some p) (ht : tput tm dst p = tm2) (hq : TD C P ops ms rest (i + 1) np c ⟨tm2,hp⟩ Q) : TD C P ops ms ({ dst:=dst,op:=.build t ps,type:=ty,pos:=pos,after:=aft,guard:=gd } :: rest) i np c ⟨tm,hp⟩ Q :=
  TD.pop1 hw (by simp only [tpop,hx,hv]) ht hq
theorem TO.mf {f : FuncId} {a b : Array Operand} {l1 l2 : List TV} (hw : twant ops tm { dst:=dst,op:=.makeFunc (.func f) a b,type:=ty,pos:=pos,after:=aft,guard:=gd } = some true) (hx : a.toList.map (tev tm) = l1) (hy : b.toList.map (tev tm) = l2) (hv : (l1.all (lf 4) && l2.all (lf 4)) = true) (ht : tput tm dst (.func f l1 l2) = tm2) (hq : TO C P ops rest ⟨tm2,hp⟩ Q) : TO C P ops ({ dst:=dst,op:=.makeFunc (.func f) a b,type:=ty,pos:=pos,after:=aft,guard:=gd } :: rest) ⟨tm,hp⟩ Q :=
  TO.pop1 hw (by subst hx hy;simp only [tpop];rw [if_pos];simpa only [List.all_map,Function.comp_def] using hv) ht hq
theorem TD.mf {f : FuncId} {a b : Array Operand} {l1 l2 : List TV} (hw : twant ops tm { dst:=dst,op:=.makeFunc (.func f) a b,type:=ty,pos:=pos,after:=aft,guard:=gd } = some true) (hx : a.toList.map (tev tm) = l1) (hy : b.toList.map (tev tm) = l2) (hv : (l1.all (lf 4) && l2.all (lf 4)) = true) (ht : tput tm dst (.func f l1 l2) = tm2) (hq : TD C P ops ms rest (i + 1) np c ⟨tm2,hp⟩ Q) : TD C P ops ms ({ dst:=dst,op:=.makeFunc (.func f) a b,type:=ty,pos:=pos,after:=aft,guard:=gd } :: rest) i np c ⟨tm,hp⟩ Q :=
  TD.pop1 hw (by subst hx hy;simp only [tpop];rw [if_pos];simpa only [List.all_map,Function.comp_def] using hv) ht hq
theorem TO.ld {t : TypeId} {a : Operand} (hw : twant ops tm { dst:=dst,op:=.load t a,type:=ty,pos:=pos,after:=aft,guard:=gd } = some true) (hx : tev tm a = p) (hv : tload P hp t p = some q) (ht : tput tm dst q = tm2) (hh2 : hp = hp2) (hq : TO C P ops rest ⟨tm2,hp2⟩ Q) : TO C P ops ({ dst:=dst,op:=.load t a,type:=ty,pos:=pos,after:=aft,guard:=gd } :: rest) ⟨tm,hp⟩ Q:=by
  subst ht hh2
  exact TO.g hw (OpG.load (by rw [show tev (TS.mk tm hp).tm a = p from hx];exact hv)) hq
theorem TD.ld {t : TypeId} {a : Operand} (hw : twant ops tm { dst:=dst,op:=.load t a,type:=ty,pos:=pos,after:=aft,guard:=gd } = some true) (hx : tev tm a = p) (hv : tload P hp t p = some q) (ht : tput tm dst q = tm2) (hh2 : hp = hp2) (hq : TD C P ops ms rest (i + 1) (i :: np) 0 ⟨tm2,hp2⟩ Q) : TD C P ops ms ({ dst:=dst,op:=.load t a,type:=ty,pos:=pos,after:=aft,guard:=gd } :: rest) i np 0 ⟨tm,hp⟩ Q:=by
  subst ht hh2
  exact TD.g hw (OpG.load (by rw [show tev (TS.mk tm hp).tm a = p from hx];exact hv)) hq
theorem TO.bf {e : TypeId} {x : Operand} {l : List TV} (hw : twant ops tm { dst:=dst,op:=.box e x,type:=ty,pos:=pos,after:=aft,guard:=gd } = some true) (hx : tev tm x = p) (hj : isJunk p = false) (hl : tcells p = l) (hlf : l.all (lf 4) = true) (ht : tput tm dst (.fptr true l 0) = tm2) (hh2 : hp = hp2) (hq : TO C P ops rest ⟨tm2,hp2⟩ Q) : TO C P ops ({ dst:=dst,op:=.box e x,type:=ty,pos:=pos,after:=aft,guard:=gd } :: rest) ⟨tm,hp⟩ Q:=by
  subst ht hh2
  exact TO.g hw (by subst hl;exact OpG.boxF hx hj hlf) hq
theorem TD.bs {t : TypeId} {n : Nat} {ps : Array (Nat × Operand)} {l : List (Nat × TV)} {es : Nat} {rows : List (List TV)} (hw : twant ops tm { dst:=dst,op:=.buildSlice t n ps,type:=ty,pos:=pos,after:=aft,guard:=gd } = some true) (hx : ps.toList.map (fun q=>(q.1,tev tm q.2)) = l) (hv : tslice P t n l = some (es,rows)) (ht : tput tm dst (.list es rows) = tm2) (hh2 : hp = hp2) (hq : TD C P ops ms rest (i + 1) (i :: np) 0 ⟨tm2,hp2⟩ Q) : TD C P ops ms ({ dst:=dst,op:=.buildSlice t n ps,type:=ty,pos:=pos,after:=aft,guard:=gd } :: rest) i np 0 ⟨tm,hp⟩ Q:=by
  subst ht hh2
  exact TD.g hw (OpG.buildSlice (s:=⟨tm,hp⟩) (by simp only [hx];exact hv)) hq
theorem appW (hsl0 : True) {α : Type} {x y : Operand} {t0 t1 e : TypeId} {tys : List TypeId} {n len es : Nat} {xs ys : List α} {f : α → List TV} {z : List Value} {new : List (List TV)} {xy : List α} (hx : tev tm x = .lsl n 0 len) (hb : hp[n]? = some (.rows es (xs.map f))) (hlen : len = xs.length) (hy : tev tm y = .list es new) (hnew : new = ys.map f) (hsl : sliceOf P t0 = some e) (hni : notInt P (some t1) = true) (hz : zeroC P e = some z) (hes : z.length = es) (hap : appI (bytesT P e) xs ys = some xy) (hff : ∀ a,(f a).length = es ∧ (f a).all tone = true ∧ (f a).all (lf 4) = true) : OpW C P { dst:=dst,op:=.call { callee:=.builtin .append,args:=#[x,y],argTypes:=⟨t0 :: t1 :: tys⟩ },type:=ty,pos:=pos,after:=aft,guard:=gd } ⟨tm,hp⟩ ⟨tput (tm.map (kill n 4)) dst (.lsl n 0 xy.length),(hp.map (killB n)).set n (.rows es (xy.map f))⟩:=by
  unfold appI at hap
  split at hap
  · rename_i hl
    obtain rfl:=Option.some.inj hap
    subst hnew
    have:=OpW.append (C:=C) (P:=P) (s:=⟨tm,hp⟩) (dst:=dst) (ty:=ty) (pos:=pos) (aft:=aft) (gd:=gd) (x:=x) (y:=y) (t0:=t0) (t1:=t1) (e:=e) (tys:=tys) (n:=n) (len:=len) (es:=es) (rows:=xs.map f) (new:=ys.map f) (z:=z) hx hb (by simp [hlen]) hy hsl hni hz hes (by simpa [limT] using hl)
      (fun r hr=>by obtain ⟨a,_,rfl⟩:=List.mem_map.1 hr;exact (hff a).1) (fun r hr=>by obtain ⟨a,_,rfl⟩:=List.mem_map.1 hr;exact (hff a).2.1) (fun r hr=>by obtain ⟨a,_,rfl⟩:=List.mem_map.1 hr;exact (hff a).2.2)
    simpa using this
  · cases hap
theorem TO.ap {α : Type} {x y : Operand} {t0 t1 e : TypeId} {tys : List TypeId} {n len es : Nat} {xs ys : List α} {f : α → List TV} {z : List Value} {new : List (List TV)} {xy : List α} (hw : twant ops tm { dst:=dst,op:=.call { callee:=.builtin .append,args:=#[x,y],argTypes:=⟨t0 :: t1 :: tys⟩ },type:=ty,pos:=pos,after:=aft,guard:=gd } = some true) (hx : tev tm x = .lsl n 0 len) (hb : hp[n]? = some (.rows es (xs.map f))) (hlen : len = xs.length) (hy : tev tm y = .list es new) (hnew : new = ys.map f) (hsl : sliceOf P t0 = some e) (hni : notInt P (some t1) = true) (hz : zeroC P e = some z) (hes : z.length = es) (hap : appI (bytesT P e) xs ys = some xy) (hff : ∀ a,(f a).length = es ∧ (f a).all tone = true ∧ (f a).all (lf 4) = true) (ht : tput (tm.map (kill n 4)) dst (.lsl n 0 xy.length) = tm2) (hh2 : (hp.map (killB n)).set n (.rows es (xy.map f)) = hp2) (hq : TO C P ops rest ⟨tm2,hp2⟩ Q) : TO C P ops ({ dst:=dst,op:=.call { callee:=.builtin .append,args:=#[x,y],argTypes:=⟨t0 :: t1 :: tys⟩ },type:=ty,pos:=pos,after:=aft,guard:=gd } :: rest) ⟨tm,hp⟩ Q:=by
  subst ht hh2
  exact TO.w hw (appW trivial hx hb hlen hy hnew hsl hni hz hes hap hff) hq
theorem TO.cal {fo : Operand} {g : FuncId} {args : Array Operand} {tys : Array TypeId} {first caps as : List TV} {th : List TB} (hw : twant ops tm { dst:=dst,op:=.call { callee:=.value fo,args:=args,argTypes:=tys },type:=ty,pos:=pos,after:=aft,guard:=gd } = some true) (hf : tev tm fo = .func g first caps) (hg : goFn P g = true) (hsp : Spec C g as ⟨[p],th⟩) (has : first ++ (args.toList.map (tev tm) ++ caps) = as) (hl : as.all (lf 4) = true) (hth : th.all resTB = true) (ht : tput tm dst (shift hp.length 4 p) = tm2) (hh2 : hp ++ th = hp2) (hq : TO C P ops rest ⟨tm2,hp2⟩ Q) : TO C P ops ({ dst:=dst,op:=.call { callee:=.value fo,args:=args,argTypes:=tys },type:=ty,pos:=pos,after:=aft,guard:=gd } :: rest) ⟨tm,hp⟩ Q:=by
  subst ht hh2
  exact TO.g hw (OpG.call (s:=⟨tm,hp⟩) hf hg has hl hsp hth) hq
theorem TD.cal {fo : Operand} {g : FuncId} {args : Array Operand} {tys : Array TypeId} {first caps as : List TV} {th : List TB} (hw : twant ops tm { dst:=dst,op:=.call { callee:=.value fo,args:=args,argTypes:=tys },type:=ty,pos:=pos,after:=aft,guard:=gd } = some true) (hf : tev tm fo = .func g first caps) (hg : goFn P g = true) (hsp : Spec C g as ⟨[p],th⟩) (has : first ++ (args.toList.map (tev tm) ++ caps) = as) (hl : as.all (lf 4) = true) (hth : th.all resTB = true) (ht : tput tm dst (shift hp.length 4 p) = tm2) (hh2 : hp ++ th = hp2) (hq : TD C P ops ms rest (i + 1) (i :: np) 0 ⟨tm2,hp2⟩ Q) : TD C P ops ms ({ dst:=dst,op:=.call { callee:=.value fo,args:=args,argTypes:=tys },type:=ty,pos:=pos,after:=aft,guard:=gd } :: rest) i np 0 ⟨tm,hp⟩ Q:=by
  subst ht hh2
  exact TD.g hw (OpG.call (s:=⟨tm,hp⟩) hf hg has hl hsp hth) hq
theorem TO.lok {fo : Operand} {g : FuncId} {args : Array Operand} {tys : Array TypeId} {first caps as : List TV} {th : List TB} (hw : twant ops tm { dst:=dst,op:=.call { callee:=.value fo,args:=args,argTypes:=tys },type:=ty,pos:=pos,after:=aft,guard:=gd } = some true) (hf : tev tm fo = .func g first caps) (hg : goFn P g = true) (hsp : Spec C g as ⟨[p],th⟩) (has : first ++ ((args.toList.map (tev tm)).map (view hp 4) ++ caps) = as) (hth : th.all resTB = true) (hcp : cl 4 p = true) (hcl : th.all clTB = true) (ht : tput tm dst (shift hp.length 4 p) = tm2) (hh2 : hp ++ th = hp2) (hq : TO C P ops rest ⟨tm2,hp2⟩ Q) : TO C P ops ({ dst:=dst,op:=.call { callee:=.value fo,args:=args,argTypes:=tys },type:=ty,pos:=pos,after:=aft,guard:=gd } :: rest) ⟨tm,hp⟩ Q:=by
  subst ht hh2
  exact TO.g hw (OpG.look (s:=⟨tm,hp⟩) hf hg has hsp hth hcp hcl) hq
theorem TD.lok {fo : Operand} {g : FuncId} {args : Array Operand} {tys : Array TypeId} {first caps as : List TV} {th : List TB} (hw : twant ops tm { dst:=dst,op:=.call { callee:=.value fo,args:=args,argTypes:=tys },type:=ty,pos:=pos,after:=aft,guard:=gd } = some true) (hf : tev tm fo = .func g first caps) (hg : goFn P g = true) (hsp : Spec C g as ⟨[p],th⟩) (has : first ++ ((args.toList.map (tev tm)).map (view hp 4) ++ caps) = as) (hth : th.all resTB = true) (hcp : cl 4 p = true) (hcl : th.all clTB = true) (ht : tput tm dst (shift hp.length 4 p) = tm2) (hh2 : hp ++ th = hp2) (hq : TD C P ops ms rest (i + 1) (i :: np) 0 ⟨tm2,hp2⟩ Q) : TD C P ops ms ({ dst:=dst,op:=.call { callee:=.value fo,args:=args,argTypes:=tys },type:=ty,pos:=pos,after:=aft,guard:=gd } :: rest) i np 0 ⟨tm,hp⟩ Q:=by
  subst ht hh2
  exact TD.g hw (OpG.look (s:=⟨tm,hp⟩) hf hg has hsp hth hcp hcl) hq
theorem TO.frz (n : Nat) {l : List Oper} {b : TB} (hb : hp[n]? = some b) (hl : lfB b = true) (ht : tm.map (frz n b 4) = tm2) (hh2 : (hp.map (frzB n b)).set n .dead = hp2) (hq : TO C P ops l ⟨tm2,hp2⟩ Q) : TO C P ops l ⟨tm,hp⟩ Q:=by
  subst ht hh2
  exact TO.weak (Wk.freeze n hb hl) hq
theorem TD.frz (n : Nat) {l : List Oper} {b : TB} (hb : hp[n]? = some b) (hl : lfB b = true) (ht : tm.map (frz n b 4) = tm2) (hh2 : (hp.map (frzB n b)).set n .dead = hp2) (hcb : Nat.ble c 1 = true) (hq : TD C P ops ms l i np c ⟨tm2,hp2⟩ Q) : TD C P ops ms l i np c ⟨tm,hp⟩ Q:=by
  subst ht hh2
  exact TD.weak hcb (Wk.freeze n hb hl) hq
end
end Go.Rex

namespace Go.Rex
open Go.RowKit
section
variable {P : Program} {tm : List TV} {hp : List TB}
variable {dst : Option Tmp} {ty : TypeId} {pos : String} {aft : Array Edge} {gd : Option (Nat × Bool)} {x y : Operand} {t u : TypeId} {tys : List TypeId}
/-! ### operations on values without names -/
theorem tgen_of {o : Oper} {v : Value} (ha : o.op.operands.toList.all (fun x=>(er 3 (tev tm x)).isSome) = true) (hv : Rex.pop P (erased tm) o = some v) (hi : injOk 3 v = true) : tgen P tm o = some (inj 3 v):=by
  unfold tgen
  rw [if_pos ha,hv]
  simp only
  rw [if_pos hi]
theorem erased_v {a : Value} (h : tev tm x = .v a) : erased tm x = a:=by unfold erased;rw [h];rfl
theorem some_v {a : Value} (h : tev tm x = .v a) : (er 3 (tev tm x)).isSome = true:=by rw [h];rfl
theorem pop_not {b : Bool} (h : tev tm x = .v (.bool b)) : tpop P hp tm { dst:=dst,op:=.unOp .not t x,type:=ty,pos:=pos,after:=aft,guard:=gd } = some (.v (.bool (!b))):=by
  have : tgen P tm { dst:=dst,op:=.unOp .not t x,type:=ty,pos:=pos,after:=aft,guard:=gd } = some (inj 3 (.bool (!b))) :=
    tgen_of (by simp [Op.operands,some_v h]) (by simp only [Rex.pop,genP_not,erased_v h]) rfl
  exact this
theorem pop_max {k k' : IntKind} {a b : Int} (h : tev tm x = .v (.int k a)) (g : tev tm y = .v (.int k' b)) : tpop P hp tm { dst:=dst,op:=.call { callee:=.builtin .max,args:=#[x,y],argTypes:=⟨tys⟩ },type:=ty,pos:=pos,after:=aft,guard:=gd } = some (.v (.int k (if b > a then b else a))):=by
  have : tgen P tm { dst:=dst,op:=.call { callee:=.builtin .max,args:=#[x,y],argTypes:=⟨tys⟩ },type:=ty,pos:=pos,after:=aft,guard:=gd } = some (inj 3 (.int k (if b > a then b else a))) :=
    tgen_of (by simpa [Op.operands,Call.operands] using ⟨some_v h,some_v g⟩) (by
      simp only [Rex.pop,bpop];rw [if_neg (by decide),genP_max,erased_v h,erased_v g]) rfl
  exact this
theorem pop_min {k k' : IntKind} {a b : Int} (h : tev tm x = .v (.int k a)) (g : tev tm y = .v (.int k' b)) : tpop P hp tm { dst:=dst,op:=.call { callee:=.builtin .min,args:=#[x,y],argTypes:=⟨tys⟩ },type:=ty,pos:=pos,after:=aft,guard:=gd } = some (.v (.int k (if b < a then b else a))):=by
  have : tgen P tm { dst:=dst,op:=.call { callee:=.builtin .min,args:=#[x,y],argTypes:=⟨tys⟩ },type:=ty,pos:=pos,after:=aft,guard:=gd } = some (inj 3 (.int k (if b < a then b else a))) :=
    tgen_of (by simpa [Op.operands,Call.operands] using ⟨some_v h,some_v g⟩) (by
      simp only [Rex.pop,bpop];rw [if_neg (by decide),genP_min,erased_v h,erased_v g]) rfl
  exact this
theorem prun_bind {α β : Type} {s : Sem α} {f : α → Sem β} : prun P (s >>= f) = (prun P s).bind fun a=>prun P (f a):=by
  induction s with
  | pure a=>rfl
  | program k ih=>exact ih _
  | mark m k ih=>exact ih
  | _=>rfl
theorem prun_under {t : TypeId} {d : TypeDesc} (h : P.underlying t = some d) : prun P (underlying t) = some d:=by
  unfold underlying
  rw [prun_bind]
  show prun P (match P.underlying t with | some d => pure d | none => stuck "no such type") = some d
  rw [h]
  rfl
end
end Go.Rex

namespace Go.Rex
open Go.RowKit
section
variable {C : Ctx} {P : Program} {Fz : Nat → Prop} {h h0 : List Blk} {L : Nat → LI} {s : TS} {tm : List Value}
variable {dst : Option Tmp} {ty : TypeId} {pos : String} {aft : Array Edge} {gd : Option (Nat × Bool)}
end
end Go.Rex

namespace Go.Rex
open Go.RowKit
section
variable {C : Ctx} {P : Program} {ops : Array Oper} {rest : List Oper} {tm tm2 : List TV} {hp hp2 : List TB} {Q : TS → Prop} {o : Oper}
variable {dst : Option Tmp} {ty : TypeId} {pos : String} {aft : Array Edge} {gd : Option (Nat × Bool)} {p q : TV} {ms : List Nat} {i : Nat} {np : List Nat} {c : Nat}
theorem stR {α : Type} {f : α → List TV} {xs : List α} {y : α} {u : α} {t : TypeId} {a x : Operand} {n r ob es : Nat} {l : List TV} (ha : tev tm a = .lptr n r ob) (hx : tev tm x = p) (hj : isJunk p = false) (hl : tcells p = l) (hb : hp[n]? = some (.rows es (xs.map f))) (hr : xs[r]? = some u) (ht : okT P t = true) (hlen : l.length = P.cellsOf t) (hone : l.all tone = true)
    (hlf : l.all (lf 4) = true) (hfit : Nat.ble (ob + l.length) (f u).length = true) (hv : tsplice (f u) ob l = f y) :
    OpW C P { dst:=none,op:=.store t a x,type:=ty,pos:=pos,after:=aft,guard:=gd } ⟨tm,hp⟩ ⟨tm,hp.set n (.rows es ((xs.set r y).map f))⟩:=by
  subst hl
  refine OpW.store (s:=⟨tm,hp⟩) ?_
  rw [show tev (TS.mk tm hp).tm a = _ from ha,show tev (TS.mk tm hp).tm x = p from hx]
  simp only [tstore]
  rw [if_pos ⟨hj,ht,hlen,hone⟩,hb]
  simp only [List.getElem?_map,hr,Option.map_some]
  rw [if_pos ⟨Nat.le_of_ble_eq_true hfit,hlf⟩,hv,List.map_set]
theorem TD.sr {α : Type} (f : α → List TV) (xs : List α) (u y : α) {t : TypeId} {a x : Operand} {n r ob es : Nat} {l : List TV} (hr : xs[r]? = some u) (hw : twant ops tm { dst := none, op := .store t a x, type := ty, pos := pos, after := aft, guard := gd } = some true) (ha : tev tm a = .lptr n r ob) (hx : tev tm x = p) (hj : isJunk p = false) (hl : tcells p = l) (hb : hp[n]? = some (.rows es (xs.map f))) (ht : okT P t = true) (hlen : l.length = P.cellsOf t) (hone : l.all tone = true)
    (hlf : l.all (lf 4) = true) (hfit : Nat.ble (ob + l.length) (f u).length = true) (hv : tsplice (f u) ob l = f y) (hnp : okW ops ms i ⟨tm,hp⟩ n np = true) (hh2 : hp.set n (.rows es ((xs.set r y).map f)) = hp2) (hq : TD C P ops ms rest (i + 1) (i :: np) 1 ⟨tm,hp2⟩ Q) : TD C P ops ms ({ dst:=none,op:=.store t a x,type:=ty,pos:=pos,after:=aft,guard:=gd } :: rest) i np c ⟨tm,hp⟩ Q:=by
  subst hh2;exact TD.wF (s:=⟨tm,hp⟩) hw ha (stR ha hx hj hl hb hr ht hlen hone hlf hfit hv) hnp hq
end
section
variable {C : Ctx} {P : Program} {ops : Array Oper} {rest : List Oper} {tm tm2 : List TV} {hp hp2 : List TB} {Q : TS → Prop} {o : Oper}
variable {dst : Option Tmp} {ty : TypeId} {pos : String} {aft : Array Edge} {gd : Option (Nat × Bool)} {p q : TV} {ms : List Nat} {i : Nat} {np : List Nat} {c : Nat}
/-! ### arrays at any index -/
end
/-- what slots and operands are -/
theorem z1 : (∀ tm t, tev tm (.tmp t) = tnth tm t) ∧ (∀ tm k n, tev tm (.const (.int k n)) = .v (.int k n)) ∧ (∀ tm b, tev tm (.const (.bool b)) = .v (.bool b)) ∧ (∀ tm s, tev tm (.const (.string s)) = .v (.string s)) ∧ (∀ tm k b, tev tm (.const (.float k b)) = .v (.float k b)) ∧
    (∀ tm k a b,tev tm (.const (.complex k a b)) = .v (.complex k a b)) ∧ (∀ tm,tev tm (.const (.slice none 0 0)) = .v (.slice none 0 0)) ∧ (∀ tm,tev tm (.const .nilFunc) = .v .nilFunc) ∧ (∀ tm,tev tm (.const .nilIface) = .v .nilIface) ∧ (∀ tm,tev tm (.const (.pointer none)) = .v (.pointer none)) ∧
    (∀ tm f,tev tm (.func f) = .func f [] []) ∧ (∀ a l,tnth (a :: l) 0 = a) ∧ (∀ a l n,tnth (a :: l) (n + 1) = tnth l n) ∧ (∀ tm p,tput tm none p = tm) ∧ (∀ tm d p,tput tm (some d) p = tm.set d p) :=
  ⟨fun _ _=>rfl,fun _ _ _=>rfl,fun _ _=>rfl,fun _ _=>rfl,fun _ _ _=>rfl,fun _ _ _ _=>rfl,fun _=>rfl,fun _=>rfl,fun _=>rfl,fun _=>rfl,fun _ _=>rfl,fun _ _=>rfl,fun _ _ _=>rfl,fun _ _=>rfl,fun _ _ _=>rfl⟩
/-- operators on integers -/
theorem z2 : (∀ k a b, fastBin .add (.int k a) (.int k b) = some (.int k (k.wrap (a + b)))) ∧ (∀ k a b, fastBin .sub (.int k a) (.int k b) = some (.int k (k.wrap (a - b)))) ∧ (∀ k a b, fastBin .mul (.int k a) (.int k b) = some (.int k (k.wrap (a * b)))) ∧
    (∀ k a b,fastBin .lss (.int k a) (.int k b) = some (.bool (decide (a < b)))) ∧ (∀ k a b,fastBin .leq (.int k a) (.int k b) = some (.bool (decide (a ≤ b)))) ∧ (∀ k a b,fastBin .gtr (.int k a) (.int k b) = some (.bool (decide (a > b)))) ∧ (∀ k a b,fastBin .geq (.int k a) (.int k b) = some (.bool (decide (a ≥ b)))) ∧
    (∀ k a b,fastBin .eql (.int k a) (.int k b) = some (.bool (decide (a = b)))) ∧ (∀ k a b,fastBin .neq (.int k a) (.int k b) = some (.bool (decide (a ≠ b)))) ∧ (∀ k a b,fastBin .quo (.int k a) (.int k b) = if b = 0 then none else some (.int k (k.wrap (a.tdiv b)))) ∧ (∀ k a b,fastBin .rem (.int k a) (.int k b) = if b = 0 then none else some (.int k (a.tmod b))):=by
  refine ⟨?_,?_,?_,?_,?_,?_,?_,?_,?_,?_,?_⟩<;>(intro k a b;simp only [fastBin,if_true])
end Go.Rex

namespace Go.Rex
open Go.RowKit
section
variable {C : Ctx} {P : Program} {ops : Array Oper} {rest : List Oper} {tm tm2 : List TV} {hp hp2 : List TB} {Q : TS → Prop} {o : Oper}
variable {dst : Option Tmp} {ty : TypeId} {pos : String} {aft : Array Edge} {gd : Option (Nat × Bool)} {p q : TV} {ms : List Nat} {i : Nat} {np : List Nat} {c : Nat}
theorem TO.here {l : List Oper} {s : TS} (h : TO C P ops l s Q) : TO C P ops l s Q:=h
theorem TD.here {l : List Oper} {s : TS} (h : TD C P ops ms l i np c s Q) : TD C P ops ms l i np c s Q:=h
/-- a literal of one's own -/
theorem boG {α : Type} {f : α → List TV} {xs : List α} {t : TypeId} {n es : Nat} {ps : Array (Nat × Operand)} {l : List (Nat × TV)} {rows : List (List TV)} (hx : ps.toList.map (fun q => (q.1, tev tm q.2)) = l) (hv : tslice P t n l = some (es, rows)) (hr : rows = xs.map f) (hn : n = xs.length) :
    OpG C P { dst:=dst,op:=.buildSlice t n ps,type:=ty,pos:=pos,after:=aft,guard:=gd } ⟨tm,hp⟩ ⟨tput tm dst (.lsl hp.length 0 xs.length),hp ++ [.rows es (xs.map f)]⟩:=by
  subst hr hn
  exact OpG.buildOwn (s:=⟨tm,hp⟩) (by simp only [hx];exact hv)
theorem TO.bl {α : Type} (f : α → List TV) (xs : List α) {t : TypeId} {n es : Nat} {ps : Array (Nat × Operand)} {l : List (Nat × TV)} {rows : List (List TV)} (hw : twant ops tm { dst := dst, op := .buildSlice t n ps, type := ty, pos := pos, after := aft, guard := gd } = some true) (hx : ps.toList.map (fun q => (q.1, tev tm q.2)) = l) (hv : tslice P t n l = some (es, rows)) (hr : rows = xs.map f) (hn : n = xs.length)
    (ht : tput tm dst (.lsl hp.length 0 xs.length) = tm2) (hh2 : hp ++ [.rows es (xs.map f)] = hp2) (hq : TO C P ops rest ⟨tm2,hp2⟩ Q) : TO C P ops ({ dst:=dst,op:=.buildSlice t n ps,type:=ty,pos:=pos,after:=aft,guard:=gd } :: rest) ⟨tm,hp⟩ Q:=by
  subst ht hh2;exact TO.g hw (boG hx hv hr hn) hq
end
end Go.Rex

namespace Go.Rex
open Go.RowKit
theorem z3 : (∀ (α : Type) (a b : α) (l : List α), (a :: l).set 0 b = b :: l) ∧ (∀ (α : Type) (a b : α) (l : List α) (n : Nat), (a :: l).set (n + 1) b = a :: l.set n b) ∧ (∀ (α : Type) (a : α) (l : List α), (a :: l)[0]? = some a) ∧ (∀ (α : Type) (a : α) (l : List α) (n : Nat), (a :: l)[n + 1]? = l[n]?) ∧
    (∀ (α β : Type) (f : α → β) (a : α) (l : List α),(a :: l).map f = f a :: l.map f) ∧ (∀ (α β : Type) (f : α → β),([] : List α).map f = []) ∧ (∀ (α : Type) (a : α) (l m : List α),(a :: l) ++ m = a :: (l ++ m)) ∧ (∀ (α : Type) (l : List α),[] ++ l = l) ∧ (∀ (α : Type) (a : α) (l : List α),(a :: l).length = l.length + 1) ∧ (∀ (α : Type),([] : List α).length = 0) ∧
    (∀ (α : Type) (l : List α),l.drop 0 = l) ∧ (∀ (α : Type) (a : α) (l : List α) (n : Nat),(a :: l).drop (n + 1) = l.drop n) ∧ (∀ (α : Type) (n : Nat),([] : List α).drop n = []) ∧ (∀ (α : Type) (l : List α),l.take 0 = []) ∧ (∀ (α : Type) (a : α) (l : List α) (n : Nat),(a :: l).take (n + 1) = a :: l.take n) ∧ (∀ (α : Type) (n : Nat),([] : List α).take n = []) ∧
    (∀ (α β : Type) (f : α → β) (a : α),(some a).map f = some (f a)) ∧ (∀ (α β : Type) (f : α → β) (l : List α),(l.map f).length = l.length) :=
  ⟨fun _ _ _ _=>rfl,fun _ _ _ _ _=>rfl,fun _ _ _=>rfl,fun _ _ _ _=>rfl,fun _ _ _ _ _=>rfl,fun _ _ _=>rfl,fun _ _ _ _=>rfl,fun _ _=>rfl,fun _ _ _=>rfl,fun _=>rfl,fun _ _=>rfl,fun _ _ _ _=>rfl,fun _ n=>by cases n<;>rfl,fun _ _=>rfl,fun _ _ _ _=>rfl,fun _ n=>by cases n<;>rfl,fun _ _ _ _=>rfl,fun _ _ _ _=>List.length_map _⟩
theorem z4 : (∀ l, tcells (.agg l) = l) ∧ (∀ x, tcells (.v x) = [.v x]) ∧ (∀ a b, tcells (.list a b) = [.list a b]) ∧ (∀ a b c, tcells (.func a b c) = [.func a b c]) ∧ (∀ v a b, tcells (.fptr v a b) = [.fptr v a b]) ∧ (∀ a b c, tcells (.lptr a b c) = [.lptr a b c]) ∧ (∀ a b c, tcells (.lsl a b c) = [.lsl a b c]) ∧
    (∀ l,isJunk (.agg l) = false) ∧ (∀ x,isJunk (.v x) = false) ∧ (∀ a b,isJunk (.list a b) = false) ∧ (∀ a b c,isJunk (.func a b c) = false) ∧ (∀ v a b,isJunk (.fptr v a b) = false) ∧ (∀ a b c,isJunk (.lptr a b c) = false) ∧ (∀ a b c,isJunk (.lsl a b c) = false) ∧
    (∀ a b,tpick (.v (.bool true)) a b = some a) ∧ (∀ a b,tpick (.v (.bool false)) a b = some b) ∧ (∀ ops tm dst op ty pos aft,twant ops tm { dst:=dst,op:=op,type:=ty,pos:=pos,after:=aft,guard:=none } = some true) ∧ (∀ (c : List TV) o l,tsplice c o l = c.take o ++ l ++ c.drop (o + l.length)) ∧
    (∀ tm,tput tm none = fun _=>tm) :=
  ⟨fun _=>rfl,fun _=>rfl,fun _ _=>rfl,fun _ _ _=>rfl,fun _ _ _=>rfl,fun _ _ _=>rfl,fun _ _ _=>rfl,fun _=>rfl,fun _=>rfl,fun _ _=>rfl,fun _ _ _=>rfl,fun _ _ _=>rfl,fun _ _ _=>rfl,fun _ _ _=>rfl,fun _ _=>rfl,fun _ _=>rfl,fun _ _ _ _ _ _ _=>rfl,fun _ _ _=>rfl,fun _=>rfl⟩
end Go.Rex
namespace Go.Rex
theorem z5 : (∀ r,tidx r 0 = r[0]?) ∧ (∀ r,tidx r 1 = r[1]?) ∧ (∀ r,tidx r 2 = r[2]?) ∧ (∀ r,tidx r 3 = r[3]?) ∧ (∀ r,tidx r 4 = r[4]?) ∧ (∀ r,tidx r 5 = r[5]?) ∧ (∀ r,tidx r 6 = r[6]?) ∧ (∀ r,tidx r 7 = r[7]?) ∧ (∀ r,tidx r 8 = r[8]?) ∧ (∀ r,tidx r 9 = r[9]?):=by
  refine ⟨?_,?_,?_,?_,?_,?_,?_,?_,?_,?_⟩<;>(intro r;rfl)
example : (0 : Int) < ((2 : Nat) : Int):=by simp only [Int.cast_ofNat_Int,Int.reduceLT]
end Go.Rex
namespace Go.Rex
theorem tml {α β : Type} {f : α → β} {xs : List α} : (xs.map f).take xs.length = xs.map f:=List.take_of_length_le (by simp)
end Go.Rex

namespace Go.Rex
open Go.RowKit
section
variable {C : Ctx} {P : Program} {ops : Array Oper} {rest : List Oper} {tm tm2 : List TV} {hp hp2 : List TB} {Q : TS → Prop} {o : Oper}
variable {dst : Option Tmp} {ty : TypeId} {pos : String} {aft : Array Edge} {gd : Option (Nat × Bool)} {p q : TV} {ms : List Nat} {i : Nat} {np : List Nat} {c : Nat}
theorem TX.unroll {b : Code} {s : TS} {Q : Exit → TS → Prop} (hx : TX C P b s (seqT (fun s=>TX C P (.loop b) s Q) Q)) : TX C P (.loop b) s Q:=by
  intro h0 Fz L tm h hs
  obtain ⟨K,e,⟨tm',df'⟩,h',w1,h1,h2,hd,s',F',L',q,g,hs'⟩:=hx h0 Fz L tm h hs
  obtain rfl : df' = []:=hd
  cases e with
  | normal =>
    obtain ⟨K2,e2,a2,h2',w2,k1,k2,kd,s3,F3,L3,q3,g3,hs3⟩:=q h0 F' L' tm' h' hs'
    refine ⟨max K K2 + 1,e2,a2,h2',wmin w1 w2,?_,wge_min h2 k2,kd,s3,F3,L3,q3,g.trans g3,hs3⟩
    simp only [exec]
    rw [exec_le (Nat.le_max_left K K2) h1]
    simp only
    rw [exec_le (Nat.le_max_right K K2) k1]
    rfl
  | _=>exact ⟨K + 1,_,_,h',w1,by simp only [exec,h1],h2,rfl,s',F',L',q,g,hs'⟩
theorem TX.vt {α : Type} (f : α → List TV) (t es : Nat) {b : Code} {Q : Exit → TS → Prop} (ht : tnth tm t = .v (.slice none 0 0)) (h1 : tm.set t (.lsl hp.length 0 ([] : List α).length) = tm2) (h2 : hp ++ [.rows es (([] : List α).map f)] = hp2) (hq : TX C P b ⟨tm2,hp2⟩ Q) : TX C P b ⟨tm,hp⟩ Q:=by
  subst h1 h2
  exact TX.weak (Wk.nil t es ht) hq
theorem TX.here {b : Code} {s : TS} {Q : Exit → TS → Prop} (h : TX C P b s Q) : TX C P b s Q:=h
theorem tmlc {α β : Type} {f : α → β} {xs : List α} {n : Nat} (h : xs.length = n) : (xs.map f).take n = xs.map f:=by subst h;exact tml
/-! ### functions of the runtime -/
/-! ### floats -/
variable {x y : Operand} {t u : TypeId}
end
end Go.Rex

namespace Go.Rex
open Go.RowKit
section
variable {P : Program} {tm : List TV} {hp : List TB}
variable {dst : Option Tmp} {ty : TypeId} {pos : String} {aft : Array Edge} {gd : Option (Nat × Bool)} {x y : Operand} {t u : TypeId}
/-! ### complex numbers -/
/-! ### structures that are equal -/
/-- field by field -/
inductive EqF (P : Program) (d : Nat) (X Y : Array Value) : List Field → List Bool → Prop
  | nil : EqF P d X Y [] []
  | cons {f : Field} {fs : List Field} {b : Bool} {bs : List Bool} {u v : Value} (hn : f.name ≠ "_") (hu : prun P (part f.type X f.offset) = some u) (hv : prun P (part f.type Y f.offset) = some v) (he : prun P (Op.equalIn d f.type u v) = some b) (hr : EqF P d X Y fs bs) : EqF P d X Y (f :: fs) (b :: bs)
end
end Go.Rex

namespace Go.Rex
open Go.RowKit
/-! ### short names for the walks -/
class Mv (p : Prop) (q : outParam Prop) : Prop where
  mv : q → p
theorem mv {p q : Prop} [i : Mv p q] (h : q) : p:=i.mv h
section
variable {C : Ctx} {P : Program} {s : TS} {Q : Exit → TS → Prop} {next : TS → Prop}
instance {x y : Code} : Mv (TX C P (.seq x y) s Q) (TX C P x s (seqT (fun s=>TX C P y s Q) Q)):=⟨TX.seq⟩
instance {id : Nat} {b : Code} : Mv (TX C P (.block id b) s Q) (TX C P b s (blockT id Q)):=⟨TX.block⟩
instance : Mv (TX C P .skip s Q) (Q .normal s):=⟨TX.skip⟩
instance {id : Nat} : Mv (TX C P (.exit id) s Q) (Q (.exit id) s):=⟨TX.exit⟩
instance : Mv (TX C P .ret s Q) (Q .ret s):=⟨TX.ret⟩
instance : Mv (seqT next Q .normal s) (next s):=⟨seqT_n⟩
instance {id : Nat} : Mv (seqT next Q (.exit id) s) (Q (.exit id) s):=⟨seqT_e⟩
instance : Mv (seqT next Q .ret s) (Q .ret s):=⟨seqT_r⟩
instance {id : Nat} : Mv (blockT id Q .normal s) (Q .normal s):=⟨blockT_n⟩
instance {id : Nat} : Mv (blockT id Q .ret s) (Q .ret s):=⟨blockT_r⟩
instance {id : Nat} : Mv (blockT id Q (.exit id) s) (Q .normal s):=⟨blockT_e⟩
end
theorem k1 {a : Bool} (h : a = true) : a = true:=h
theorem k2 {a : Option Bool} (h : a = some true) : a = some true:=h
def an {p q : Prop}:=@And.intro p q
def z6:=And.intro @List.toList_toArray.{0} <| And.intro @ite_true.{1} <| And.intro @ite_false.{1} <| And.intro @true_and <| And.intro @and_true <| And.intro @and_self <| And.intro @Bool.false_eq_true <| And.intro @decide_true @decide_false
def z7:=And.intro @List.getElem?_toArray.{0} <| And.intro @List.getElem?_cons_succ.{0} <| And.intro @List.getElem?_cons_zero.{0} @Option.bind_some.{0,0}
def zy:=And.intro z1 <| And.intro z2 z3
def zz:=And.intro z1 <| And.intro z2 <| And.intro z3 <| And.intro z4 z6
theorem wr {tm tm' : List TV} {hp hp' : List TB} (fl : List (Option Nat)) (hok : renOk fl = true) (hB : RB fl hp hp' fl) (hT : RNs fl tm tm':=by (repeat (first|exact RNs.nil|refine RNs.cons .junk ?_|refine RNs.cons (.keep rfl rfl) ?_|refine RNs.cons (.lsl rfl rfl) ?_|refine RNs.cons (.lsl rfl (by simp only [List.length_set])) ?_|refine RNs.cons (.lptr rfl) ?_|refine RNs.cons (.nil rfl) ?_|refine RNs.cons .nl ?_|refine RNs.cons (.tuple' ?_) ?_|refine RNs.cons (.agg' ?_) ?_))) : Wk ⟨tm,hp⟩ ⟨tm',hp'⟩:=Wk.ren fl hok hB hT
/-! ### a slice of a whole array that is not written again -/
section
variable {C : Ctx} {P : Program} {ops : Array Oper} {rest : List Oper} {tm tm2 : List TV} {hp : List TB} {Q : TS → Prop}
variable {dst : Option Tmp} {ty : TypeId} {pos : String} {aft : Array Edge} {gd : Option (Nat × Bool)} {ms : List Nat} {i : Nat} {np : List Nat} {c : Nat}
/-! ### a literal as a list;a place of an array value -/
theorem bmG {α : Type} {f : α → List TV} {xs : List α} {t : TypeId} {n es : Nat} {ps : Array (Nat × Operand)} {l : List (Nat × TV)} {rows : List (List TV)} (hx : ps.toList.map (fun q => (q.1, tev tm q.2)) = l) (hv : tslice P t n l = some (es, rows)) (hr : rows = xs.map f) :
    OpG C P { dst:=dst,op:=.buildSlice t n ps,type:=ty,pos:=pos,after:=aft,guard:=gd } ⟨tm,hp⟩ ⟨tput tm dst (.list es (xs.map f)),hp⟩:=by
  subst hr
  exact OpG.buildSlice (s:=⟨tm,hp⟩) (by simp only [hx];exact hv)
theorem TO.bm {α : Type} (f : α → List TV) (xs : List α) {t : TypeId} {n es : Nat} {ps : Array (Nat × Operand)} {l : List (Nat × TV)} {rows : List (List TV)} (hw : twant ops tm { dst := dst, op := .buildSlice t n ps, type := ty, pos := pos, after := aft, guard := gd } = some true) (hx : ps.toList.map (fun q => (q.1, tev tm q.2)) = l) (hv : tslice P t n l = some (es, rows)) (hr : rows = xs.map f)
    (ht : tput tm dst (.list es (xs.map f)) = tm2) (hq : TO C P ops rest ⟨tm2,hp⟩ Q) : TO C P ops ({ dst:=dst,op:=.buildSlice t n ps,type:=ty,pos:=pos,after:=aft,guard:=gd } :: rest) ⟨tm,hp⟩ Q:=by
  subst ht;exact TO.g hw (bmG hx hv hr) hq
end
end Go.Rex

namespace Go.Rex
open Go.RowKit
/-! ### a list of one's own is frozen at a loop's end;a store at any index of an array of ints -/
section
variable {C : Ctx} {P : Program} {ops : Array Oper} {rest : List Oper} {tm tm2 : List TV} {hp hp2 : List TB} {Q : TS → Prop} {o : Oper}
variable {dst : Option Tmp} {ty : TypeId} {pos : String} {aft : Array Edge} {gd : Option (Nat × Bool)} {p q : TV} {ms : List Nat} {i : Nat} {np : List Nat} {c : Nat}
end
/-! ### arrays that are compared -/
inductive EqI (P : Program) (d : Nat) (X Y : Array Value) (e n : Nat) : Nat → List Bool → Prop
  | nil (i : Nat) : EqI P d X Y e n i []
  | cons {i : Nat} {b : Bool} {bs : List Bool} {u v : Value} (hu : prun P (part e X (i * n)) = some u) (hv : prun P (part e Y (i * n)) = some v) (he : prun P (Op.equalIn d e u v) = some b) (hr : EqI P d X Y e n (i + 1) bs) : EqI P d X Y e n i (b :: bs)
/-! ### a byte of a text -/
section
variable {P : Program} {tm : List TV} {hp : List TB} {dst : Option Tmp} {ty : TypeId} {pos : String} {aft : Array Edge} {gd : Option (Nat × Bool)}
end
end Go.Rex

namespace Go.Rex
open Go.RowKit
/-! ### code without ranges over functions: neither the marks nor the range around it matter -/
end Go.Rex

namespace Go.Rex
open Go.RowKit
/-! ### marks are kept by all that runs above them -/
def Keeps (h h' : List Blk) : Prop:=h.length ≤ h'.length ∧ ∀ m : Nat,h[m]? = some Blk.dfr → h'[m]? = some Blk.dfr
section
variable {P : Program} {C : Ctx}
structure CKeeps (C : Ctx) : Prop where
  call : ∀ {f args h v h' w},C.call f args h = some (v,h',w) → Keeps h h'
  round : ∀ {l args h v h' w},C.round l args h = some (v,h',w) → Keeps h h'
end
end Go.Rex

namespace Go.Rex
open Go.RowKit
/-! ### code with marks: what stands behind a range over a function -/
section
variable {Fz Fz' : Nat → Prop} {h0 h h' : List Blk} {L : Nat → LI} {s s' : TS} {tm : List Value}
end
section
variable {C : Ctx} {P : Program} {s s' : TS} {Q Q' : Exit → TS → Prop}
end
end Go.Rex

namespace Go.Rex
open Go.RowKit
/-! ### bodies of iterators: code that calls back,and owns nothing while it does -/
/-- what stands outside: 'R x Fz h': the state is x, what is frozen is Fz -/
structure Out (X : Type) where
  lo : Nat
  base : Nat
  R : X → (Nat → Prop) → List Blk → Prop
  hlo : lo ≤ base
  stay : ∀ {x : X} {Fz Fz' : Nat → Prop} {h h' : List Blk},R x Fz h → Ext h h' → Grow h Fz Fz' h h' → (∀ n,Fz' n → n < h'.length) → R x Fz' h'
section
variable {E X : Type} {C : Ctx} {P : Program} {O : Out X}
variable {tm tm' : List TV} {s s' : TS} {x : X} {Q Q' : Exit → List TV → X → Prop} {c : Code}
/-! ### a region with a call back -/
/-- the operation that calls back -/
structure Back (o : Oper) (f : Operand) (args : List Operand) (dst : Option Tmp) : Prop where
  eq : ∃ (tys : Array TypeId) (ty : TypeId) (pos : String) (aft : Array Edge) (gd : Option (Nat × Bool)),o = { dst:=dst,op:=.call { callee:=.value f,args:=⟨args⟩,argTypes:=tys },type:=ty,pos:=pos,after:=aft,guard:=gd }
section
variable {nexty : List TV → X → Prop}
end
/-! ### the contract of an iterator's body -/
end
end Go.Rex

namespace Go.Rex
open Go.RowKit
/-! ### which slots code writes -/
def odsts : List Oper → List Nat
  | []=>[]
  | o :: l=>match o.dst with
    | some d=>d :: odsts l
    | none=>odsts l
def cdsts : Code → List Nat
  | .seq x y=>cdsts x ++ cdsts y
  | .cond _ x y=>cdsts x ++ cdsts y
  | .block _ b=>cdsts b
  | .loop b=>cdsts b
  | .region _ ops _=>odsts ops.toList
  | _=>[]
section
variable {P : Program} {C : Ctx}
end
end Go.Rex

namespace Go.Rex
open Go.RowKit
/-! ### a range over a function,from outside -/
section
variable {Fz Fz' : Nat → Prop} {h0 h h' : List Blk} {L : Nat → LI} {s s' : TS} {tm : List Value}
end
section
variable {P : Program}
variable {s : TS} {Q : Exit → TS → Prop}
end
end Go.Rex

namespace Go.Rex
open Go.RowKit
section
variable {C : Ctx} {P : Program} {tm tm2 : List TV} {hp : List TB} {ops : Array Oper} {rest : List Oper} {Q : TS → Prop}
variable {dst : Option Tmp} {ty : TypeId} {pos : String} {aft : Array Edge} {gd : Option (Nat × Bool)} {x y : Operand} {t u : TypeId}
/-! ### further operations -/
/-! ### == nil on a slice -/
open Classical in
noncomputable def nilq {α β : Type} (xs : List α) (a b : Option β) : Option β:=if xs = [] then (if a = b then b else none) else b
theorem nilq_l {α β : Type} {xs : List α} {a b : Option β} {r : β} {f : α → List TV} (h : nilq xs a b = some r) (hx : xs.map f = []) : a = some r:=by
  unfold nilq at h
  rw [if_pos (List.map_eq_nil_iff.1 hx)] at h
  split at h
  · rename_i e;rw [e];exact h
  · cases h
theorem nilq_r {α β : Type} {xs : List α} {a b : Option β} {r : β} (h : nilq xs a b = some r) : b = some r:=by
  unfold nilq at h
  split at h
  · split at h
    · exact h
    · cases h
  · exact h
theorem TO.nq {b : BinOp} {e : TypeId} {es : Nat} {rows : List (List TV)} (hw : twant ops tm { dst := dst, op := .binOp b t x y u, type := ty, pos := pos, after := aft, guard := gd } = some true) (hb : b = .eql ∨ b = .neq) (hx : tev tm x = .list es rows) (hy : tev tm y = .v (.slice none 0 0)) (hs : sliceOf P t = some e)
    (h1 : rows = [] → TO C P ops rest ⟨tput tm dst (.v (.bool (b == .eql))),hp⟩ Q) (h2 : TO C P ops rest ⟨tput tm dst (.v (.bool (b == .neq))),hp⟩ Q) : TO C P ops ({ dst:=dst,op:=.binOp b t x y u,type:=ty,pos:=pos,after:=aft,guard:=gd } :: rest) ⟨tm,hp⟩ Q:=by
  have hu : P.underlying t = some (.slice e):=by
    unfold sliceOf at hs
    split at hs
    · rename_i hu;rw [hu];exact congrArg some (congrArg TypeDesc.slice (Option.some.inj hs))
    · cases hs
  intro h0 Fz L vm h hst
  have hvx:=tev_vl hst.tmr x
  have hvy:=tev_vl hst.tmr y
  rw [show tev (TS.mk tm hp).tm x = _ from hx] at hvx
  rw [show tev (TS.mk tm hp).tm y = _ from hy] at hvy
  have ey : ev vm y = .slice none 0 0:=by generalize ev vm y = q at *;cases hvy;rfl
  generalize hex : ev vm x = vx at hvx
  cases hvx with
  | nillist =>
    obtain ⟨tm',h',wr,q1,q2,s2,F2,L2,q3,g2,s3⟩:=h1 rfl h0 Fz L _ h (hst.put dst (.v L (.bool (b == .eql)) rfl))
    refine RO.pop (v:=.bool (b == .eql)) (twant_ok hst.tmr hw) ?_ rfl ⟨tm',h',wr,q1,q2,s2,F2,L2,q3,g2,s3⟩
    show orGen P (ev vm) _ (fastBin b (ev vm x) (ev vm y)) = _
    rw [hex,ey]
    have hf : fastBin b (Value.slice none 0 0) (.slice none 0 0) = none:=rfl
    rw [hf]
    simp only [orGen]
    have he : prun P (Op.equal t (.slice none 0 0) (.slice none 0 0)) = some true:=by
      unfold Op.equal Op.maxDepth Op.equalIn
      rw [prun_bind,prun_under hu]
      rfl
    have h2' : prun P (execOp (ev vm) { dst:=dst,op:=.binOp b t x y u,type:=ty,pos:=pos,after:=aft,guard:=gd }) = some (.value (.bool (b == .eql))):=by
      show prun P ((eqGuard b t x y (ev vm x) (ev vm y) >>= fun _=>binOp b t (ev vm x) (ev vm y)) >>= fun r=>(pure (Next.value r) : Sem Next)) = _
      rw [prun_bind,prun_bind,hex,ey]
      rcases hb with rfl|rfl
      · rw [show prun P (eqGuard .eql t x y (.slice none 0 0) (.slice none 0 0)) = some () from rfl,Option.bind_some]
        show (prun P (do pure (Value.bool (← Op.equal t (.slice none 0 0) (.slice none 0 0))))).bind _ = _
        rw [prun_bind,he]
        rfl
      · rw [show prun P (eqGuard .neq t x y (.slice none 0 0) (.slice none 0 0)) = some () from rfl,Option.bind_some]
        show (prun P (do pure (Value.bool (!(← Op.equal t (.slice none 0 0) (.slice none 0 0)))))).bind _ = _
        rw [prun_bind,he]
        rfl
    unfold genP
    simp only
    rw [if_pos (by simp [Op.operands,hex,ey];rfl),h2']
    rfl
  | vague =>
    obtain ⟨tm',h',wr,q1,q2,s2,F2,L2,q3,g2,s3⟩:=h2 h0 Fz L _ h (hst.put dst (.v L (.bool (b == .neq)) rfl))
    refine RO.act (v:=.bool (b == .neq)) (w1:=none) (twant_ok hst.tmr hw) ?_ ?_ rfl rfl ⟨tm',h',wr,q1,q2,s2,F2,L2,q3,g2,s3⟩
    · show orGen P (ev vm) _ (fastBin b (ev vm x) (ev vm y)) = _
      rw [hex,ey]
      have hf : fastBin b vag (.slice none 0 0) = none:=rfl
      rw [hf]
      simp only [orGen]
      unfold genP
      simp only
      rw [if_neg]
      have hcl : isClean (ev vm x) = false:=by rw [hex];rfl
      simp [Op.operands,hcl]
    · simp only [xop,hop,hex,ey,nilBin,hu,vag]
      rcases hb with rfl|rfl<;>rfl
  | list _ es rows n o c cs eb hn hbb he hww hc hle ha =>
    obtain ⟨tm',h',wr,q1,q2,s2,F2,L2,q3,g2,s3⟩:=h2 h0 Fz L _ h (hst.put dst (.v L (.bool (b == .neq)) rfl))
    refine RO.act (v:=.bool (b == .neq)) (w1:=none) (twant_ok hst.tmr hw) ?_ ?_ rfl rfl ⟨tm',h',wr,q1,q2,s2,F2,L2,q3,g2,s3⟩
    · show orGen P (ev vm) _ (fastBin b (ev vm x) (ev vm y)) = _
      rw [hex,ey]
      have hf : fastBin b (Value.slice (some ⟨n,o,none⟩) rows.length c) (.slice none 0 0) = none:=rfl
      rw [hf]
      simp only [orGen]
      unfold genP
      simp only
      rw [if_neg]
      have hcl : isClean (ev vm x) = false:=by rw [hex];rfl
      simp [Op.operands,hcl]
    · simp only [xop,hop,hex,ey,nilBin,hu]
      rcases hb with rfl|rfl<;>rfl
end
end Go.Rex

namespace Go.Rex
open Go.RowKit
section
variable {C : Ctx} {P : Program} {Fz : Nat → Prop} {h h0 : List Blk} {L : Nat → LI} {s : TS} {tm : List Value}
variable {dst : Option Tmp} {ty : TypeId} {pos : String} {aft : Array Edge} {gd : Option (Nat × Bool)}

end

/-! ### as they are used -/
section
variable {C : Ctx} {P : Program} {ops : Array Oper} {rest : List Oper} {tm tm2 : List TV} {hp hp2 : List TB} {Q : TS → Prop} {o : Oper}
variable {dst : Option Tmp} {ty : TypeId} {pos : String} {aft : Array Edge} {gd : Option (Nat × Bool)} {p q : TV} {ms : List Nat} {i : Nat} {np : List Nat} {c : Nat}
end
section
variable {C : Ctx} {P : Program} {tm tm2 : List TV} {hp hp2 : List TB} {Q : Exit → TS → Prop} {c : Code}
theorem TX.frz (n : Nat) {b : TB} (hb : hp[n]? = some b) (hl : lfB b = true) (ht : tm.map (frz n b 4) = tm2) (hh2 : (hp.map (frzB n b)).set n .dead = hp2) (hq : TX C P c ⟨tm2,hp2⟩ Q) : TX C P c ⟨tm,hp⟩ Q:=by
  subst ht hh2
  exact TX.weak (Wk.freeze n hb hl) hq
end
end Go.Rex

namespace Go.Rex
open Go.RowKit

/-! ### an executor that knows what one function returns -/
def ctxO (P : Program) (g : FuncId) (res : List Blk → Value × List Blk) (k : Nat) : Nat → Ctx
  | 0=>⟨fun _ _ _=>none,fun _ _ _=>none⟩
  | d + 1=>⟨fun f args h=>if f = g then (match args with|[]=>some ((res h).1,(res h).2,none)|_=>none) else runCall (ctxO P g res k d) P k f args h,runRound (ctxO P g res k d) P k⟩
def ResOk (P : Program) (g : FuncId) (res : List Blk → Value × List Blk) : Prop :=
  ∀ (h : List Blk) (B lo : Nat) (D : Nat → Prop) (m : NMap) (w : World),Rel B lo D m h w → lo ≤ h.length → Calls P g ⟨[]⟩ w (Good B lo D m h w (res h).1 (res h).2)
theorem ctxO_ok {P : Program} (hm : P.follows .mixedOrders = true) {g : FuncId} {res : List Blk → Value × List Blk} (hres : ResOk P g res) (k : Nat) : ∀ d,CtxOk P (ctxO P g res k d)
  | 0=>⟨fun h=>by simp [ctxO] at h,fun h=>by simp [ctxO] at h⟩
  | d + 1 =>
    have hD : DrawSound P (ctxO P g res k d):=fun {_ _ _ _ _ _ _} hv {_ _ _ _ _ _ _ _ _} hr hlo hA hw hQ=>drawSound (ctxO_ok hm hres k d) hm hv hr hlo hA hw hQ
    ⟨fun {f args h v h' wr} hv {B lo D m w args'} hr hlo hw hargs=>by
      simp only [ctxO] at hv
      split at hv
      · rename_i hf
        subst hf
        split at hv
        · obtain ⟨rfl,rfl,rfl⟩ : (res h).1 = v ∧ (res h).2 = h' ∧ none = wr:=by simpa using hv
          obtain rfl : args' = []:=by have:=hargs.len;simpa using this
          exact hres _ _ _ _ _ _ hr hlo
        · cases hv
      · exact runCall_sound (ctxO_ok hm hres k d) hD hv hr hlo hw hargs,fun h=>runRound_sound (ctxO_ok hm hres k d) hD h⟩
def ecallO (P : Program) (g : FuncId) (res : List Blk → Value × List Blk) (k d : Nat) (f : FuncId) (args : List Value) (h : List Blk) : AOut:=(ctxO P g res k d).call f args h
theorem awT_of_ecallO {P : Program} (hm : P.follows .mixedOrders = true) {g : FuncId} {res : List Blk → Value × List Blk} (hres : ResOk P g res) {k d : Nat} {f : FuncId} (hv : isTrue (ecallO P g res k d f [] GH) = true) : AwT P f:=by
  intro w hgw hgs
  unfold isTrue at hv
  split at hv
  · rename_i h' hx
    refine ((ctxO_ok hm hres k d).call hx (Rel.start w hgw hgs) (Nat.le_refl _) (fun n h=>by cases h) VRs.nil).mono ?_
    rintro e w' ⟨v',m',rfl,hp,hvr⟩
    cases hvr
    exact ⟨rfl,hp.below⟩
  · cases hv
end Go.Rex

namespace Go.Rex
open Go.RowKit
/-! ### what an execution does not say to have written is as it was -/
def Olds (h h' : List Blk) (w : Option Nat) : Prop:=h.length ≤ h'.length ∧ ∀ m : Nat,m < h.length → wge w (m + 1) = true → h'[m]? = h[m]?
section
variable {P : Program} {C : Ctx}
structure COlds (C : Ctx) : Prop where
  call : ∀ {f args h v h' w},C.call f args h = some (v,h',w) → Olds h h' w
  round : ∀ {l args h v h' w},C.round l args h = some (v,h',w) → Olds h h' w
end
end Go.Rex

namespace Go.Rex
open Go.RowKit
section
variable {C : Ctx} {P : Program} {h0 h h' : List Blk} {Fz Fz' : Nat → Prop} {L L' : Nat → LI} {s s' : TS} {tm : List Value}
/-- own lists that no slot but those of the parameters need name: where the parameters stand -/
def stays (args : List TV) (c : Code) (tm : List TV) (n : Nat) : Bool:=(List.range args.length).any fun i=>match args[i]?,tm[i]? with
  | some (.lsl m 0 _),some (.lsl m' 0 _)=>m == n && m' == n && !(cdsts c).contains i
  | _,_=>false
end
end Go.Rex

namespace Go.Rex
open Go.RowKit
section
variable {C : Ctx} {P : Program} {h0 h h' : List Blk} {Fz Fz' : Nat → Prop} {L L' : Nat → LI} {s s' : TS} {tm : List Value} {dst : Option Tmp} {ty : TypeId} {pos : String} {aft : Array Edge} {gd : Option (Nat × Bool)}
variable {ops : Array Oper} {o : Oper} {rest : List Oper} {Q : TS → Prop} {ms : List Nat} {i : Nat} {np : List Nat} {c : Nat} {tv tv2 : List TV} {hp hp2 : List TB}
/-! ### a law: it may call f,which is true -/
end
end Go.Rex

namespace Go.Rex
open Go.RowKit
section
variable {C : Ctx} {P : Program} {s s' : TS} {dst : Option Tmp} {ty : TypeId} {pos : String} {aft : Array Edge} {gd : Option (Nat × Bool)}
/-- a list that was written has the length that it had -/
noncomputable def lenAs {α : Type} (a b : List α) : List α:=if b.length = a.length then b else a
/-- lists, in pairs: before and behind the call -/
inductive Pair : List TB → List TB → List TB → Prop
  | nil : Pair [] [] []
  | cons {es : Nat} {α : Type} {f : α → List TV} {a b : List α} {B B' B2 : List TB} (h : Pair B B' B2) : Pair (.rows es (a.map f) :: B) (.rows es (b.map f) :: B') (.rows es ((lenAs a b).map f) :: B2)
variable {ops : Array Oper} {o : Oper} {rest : List Oper} {Q : TS → Prop} {ms : List Nat} {i : Nat} {np : List Nat} {c : Nat} {tv tv2 : List TV} {hp hp2 : List TB}
end
end Go.Rex

namespace Go.Rex
/-! ### max and min of three -/
section
variable {P : Program} {tm : List TV} {hp : List TB} {dst : Option Tmp} {ty : TypeId} {pos : String} {aft : Array Edge} {gd : Option (Nat × Bool)} {x y z : Operand} {tys : List TypeId}
end
end Go.Rex

open Go Go.Rex Go.RowKit
namespace Go.Rex
/-! ### steps of a walk,as default arguments: what a printed proof says at each place is said once -/
theorem wA {A G H : Prop} (T : A) (h : A → H → G:=by (intro T g;(repeat (first|with_reducible refine mv ?_|with_reducible refine TO.nil ?_|((with_reducible first|apply TO.mv|apply TO.asg|apply TO.bin|apply TO.ld|apply TO.fa|apply TO.ia|apply TO.pk|apply TO.mf );(repeat (focus (show _ = _;first|exact k1 rfl|exact k2 rfl|(simp only [zz,T,Nat.reduceAdd,Nat.reduceMul,Nat.reduceLeDiff,Nat.reduceEqDiff,tload,rowOf,partT,List.getElem?_map,tfieldAddr,tindexAddr,Nat.zero_add,tlen,tbuild,tfill,tfield]<;>exact rfl)|exact rfl)));(with_reducible apply TO.here))|((with_reducible apply TO.skip1);(repeat (focus (show _ = _;first|exact k1 rfl|exact k2 rfl|(simp only [zz,T,Nat.reduceAdd,Nat.reduceMul,Nat.reduceLeDiff,Nat.reduceEqDiff,twant,List.getElem?_toArray,Option.bind_some]<;>exact rfl)|exact rfl)));(with_reducible apply TO.here))|with_reducible refine TD.nil ?_|((with_reducible first|apply TD.mv|apply TD.asg|apply TD.bin|apply TD.ld|apply TD.fa|apply TD.ia|apply TD.bld|apply TD.ext|apply TD.mf );(repeat (focus (show _ = _;first|exact k1 rfl|exact k2 rfl|(simp only [zz,T,Nat.reduceAdd,Nat.reduceMul,Nat.reduceLeDiff,Nat.reduceEqDiff,tload,rowOf,partT,List.getElem?_map,tfieldAddr,tindexAddr,Nat.zero_add,tlen,tbuild,tfill,tfield]<;>exact rfl)|exact rfl)));(with_reducible refine TD.here ?_))|((with_reducible apply TD.skip1);(repeat (focus (show _ = _;first|exact k1 rfl|exact k2 rfl|(simp only [zz,T,Nat.reduceAdd,Nat.reduceMul,Nat.reduceLeDiff,Nat.reduceEqDiff,twant,List.getElem?_toArray,Option.bind_some]<;>exact rfl)|exact rfl)));(with_reducible refine TD.here ?_))|((with_reducible apply TX.cond_true);(focus rfl);(focus (first|rfl|(simp only [z1,Bool.not_true,Bool.not_false,T];done))))|((with_reducible apply TX.cond_false);(focus rfl);(focus (first|rfl|(simp only [z1,Bool.not_true,Bool.not_false,T];done))))|((with_reducible apply TX.region);(focus (simp only [List.toList_toArray]<;>exact rfl));(focus rfl);(try dsimp only))|((with_reducible apply TX.drawn);(focus decide +kernel);(focus (simp only [List.toList_toArray]<;>exact rfl));(focus exact rfl);(try dsimp only))|fail));exact g)) (g : H) : G:=h T g
theorem wa_ {A G H : Prop} (T : A) (h : A → H → G:=by (intro T g;(repeat (first|with_reducible refine mv ?_|with_reducible refine TO.nil ?_|((with_reducible first|apply TO.mv|apply TO.asg|apply TO.bin|apply TO.fa|apply TO.ia|apply TO.pk|apply TO.mf );(repeat (focus (show _ = _;first|exact k1 rfl|exact k2 rfl|(simp only [zz,T,Nat.reduceAdd,Nat.reduceMul,Nat.reduceLeDiff,Nat.reduceEqDiff,tload,rowOf,partT,List.getElem?_map,tfieldAddr,tindexAddr,Nat.zero_add,tlen,tbuild,tfill,tfield]<;>exact rfl)|exact rfl)));(with_reducible apply TO.here))|((with_reducible apply TO.skip1);(repeat (focus (show _ = _;first|exact k1 rfl|exact k2 rfl|(simp only [zz,T,Nat.reduceAdd,Nat.reduceMul,Nat.reduceLeDiff,Nat.reduceEqDiff,twant,List.getElem?_toArray,Option.bind_some]<;>exact rfl)|exact rfl)));(with_reducible apply TO.here))|with_reducible refine TD.nil ?_|((with_reducible first|apply TD.mv|apply TD.asg|apply TD.bin|apply TD.fa|apply TD.ia|apply TD.bld|apply TD.ext|apply TD.mf );(repeat (focus (show _ = _;first|exact k1 rfl|exact k2 rfl|(simp only [zz,T,Nat.reduceAdd,Nat.reduceMul,Nat.reduceLeDiff,Nat.reduceEqDiff,tload,rowOf,partT,List.getElem?_map,tfieldAddr,tindexAddr,Nat.zero_add,tlen,tbuild,tfill,tfield]<;>exact rfl)|exact rfl)));(with_reducible refine TD.here ?_))|((with_reducible apply TD.skip1);(repeat (focus (show _ = _;first|exact k1 rfl|exact k2 rfl|(simp only [zz,T,Nat.reduceAdd,Nat.reduceMul,Nat.reduceLeDiff,Nat.reduceEqDiff,twant,List.getElem?_toArray,Option.bind_some]<;>exact rfl)|exact rfl)));(with_reducible refine TD.here ?_))|((with_reducible apply TX.cond_true);(focus rfl);(focus (first|rfl|(simp only [z1,Bool.not_true,Bool.not_false,T];done))))|((with_reducible apply TX.cond_false);(focus rfl);(focus (first|rfl|(simp only [z1,Bool.not_true,Bool.not_false,T];done))))|((with_reducible apply TX.region);(focus (simp only [List.toList_toArray]<;>exact rfl));(focus rfl);(try dsimp only))|((with_reducible apply TX.drawn);(focus decide +kernel);(focus (simp only [List.toList_toArray]<;>exact rfl));(focus exact rfl);(try dsimp only))|fail));exact g)) (g : H) : G:=h T g
theorem wB {A G H : Prop} (T : A) (h : A → H → G:=by (intro T g;(repeat (first|with_reducible refine mv ?_|with_reducible refine TO.nil ?_|((with_reducible first|apply TO.mv|apply TO.asg|apply TO.bin|apply TO.ld|apply TO.fa|apply TO.ia|apply TO.pk|apply TO.bf|apply TO.mf );(repeat (focus (show _ = _;first|exact k1 rfl|exact k2 rfl|(simp only [zz,T,Nat.reduceAdd,Nat.reduceMul,Nat.reduceLeDiff,Nat.reduceEqDiff,tload,rowOf,partT,List.getElem?_map,tfieldAddr,tindexAddr,Nat.zero_add,tlen,tbuild,tfill,tfield]<;>exact rfl)|exact rfl)));(with_reducible apply TO.here))|((with_reducible apply TO.skip1);(repeat (focus (show _ = _;first|exact k1 rfl|exact k2 rfl|(simp only [zz,T,Nat.reduceAdd,Nat.reduceMul,Nat.reduceLeDiff,Nat.reduceEqDiff,twant,List.getElem?_toArray,Option.bind_some]<;>exact rfl)|exact rfl)));(with_reducible apply TO.here))|with_reducible refine TD.nil ?_|((with_reducible first|apply TD.mv|apply TD.asg|apply TD.bin|apply TD.ld|apply TD.fa|apply TD.ia|apply TD.bld|apply TD.ext|apply TD.mf );(repeat (focus (show _ = _;first|exact k1 rfl|exact k2 rfl|(simp only [zz,T,Nat.reduceAdd,Nat.reduceMul,Nat.reduceLeDiff,Nat.reduceEqDiff,tload,rowOf,partT,List.getElem?_map,tfieldAddr,tindexAddr,Nat.zero_add,tlen,tbuild,tfill,tfield]<;>exact rfl)|exact rfl)));(with_reducible refine TD.here ?_))|((with_reducible apply TD.skip1);(repeat (focus (show _ = _;first|exact k1 rfl|exact k2 rfl|(simp only [zz,T,Nat.reduceAdd,Nat.reduceMul,Nat.reduceLeDiff,Nat.reduceEqDiff,twant,List.getElem?_toArray,Option.bind_some]<;>exact rfl)|exact rfl)));(with_reducible refine TD.here ?_))|((with_reducible apply TX.cond_true);(focus rfl);(focus (first|rfl|(simp only [z1,Bool.not_true,Bool.not_false,T];done))))|((with_reducible apply TX.cond_false);(focus rfl);(focus (first|rfl|(simp only [z1,Bool.not_true,Bool.not_false,T];done))))|((with_reducible apply TX.region);(focus (simp only [List.toList_toArray]<;>exact rfl));(focus rfl);(try dsimp only))|((with_reducible apply TX.drawn);(focus decide +kernel);(focus (simp only [List.toList_toArray]<;>exact rfl));(focus exact rfl);(try dsimp only))|fail));exact g)) (g : H) : G:=h T g
theorem wb_ {A G H : Prop} (T : A) (h : A → H → G:=by (intro T g;(repeat (first|with_reducible refine mv ?_|with_reducible refine TO.nil ?_|((with_reducible first|apply TO.mv|apply TO.asg|apply TO.bin|apply TO.fa|apply TO.ia|apply TO.pk|apply TO.bf|apply TO.mf );(repeat (focus (show _ = _;first|exact k1 rfl|exact k2 rfl|(simp only [zz,T,Nat.reduceAdd,Nat.reduceMul,Nat.reduceLeDiff,Nat.reduceEqDiff,tload,rowOf,partT,List.getElem?_map,tfieldAddr,tindexAddr,Nat.zero_add,tlen,tbuild,tfill,tfield]<;>exact rfl)|exact rfl)));(with_reducible apply TO.here))|((with_reducible apply TO.skip1);(repeat (focus (show _ = _;first|exact k1 rfl|exact k2 rfl|(simp only [zz,T,Nat.reduceAdd,Nat.reduceMul,Nat.reduceLeDiff,Nat.reduceEqDiff,twant,List.getElem?_toArray,Option.bind_some]<;>exact rfl)|exact rfl)));(with_reducible apply TO.here))|with_reducible refine TD.nil ?_|((with_reducible first|apply TD.mv|apply TD.asg|apply TD.bin|apply TD.fa|apply TD.ia|apply TD.bld|apply TD.ext|apply TD.mf );(repeat (focus (show _ = _;first|exact k1 rfl|exact k2 rfl|(simp only [zz,T,Nat.reduceAdd,Nat.reduceMul,Nat.reduceLeDiff,Nat.reduceEqDiff,tload,rowOf,partT,List.getElem?_map,tfieldAddr,tindexAddr,Nat.zero_add,tlen,tbuild,tfill,tfield]<;>exact rfl)|exact rfl)));(with_reducible refine TD.here ?_))|((with_reducible apply TD.skip1);(repeat (focus (show _ = _;first|exact k1 rfl|exact k2 rfl|(simp only [zz,T,Nat.reduceAdd,Nat.reduceMul,Nat.reduceLeDiff,Nat.reduceEqDiff,twant,List.getElem?_toArray,Option.bind_some]<;>exact rfl)|exact rfl)));(with_reducible refine TD.here ?_))|((with_reducible apply TX.cond_true);(focus rfl);(focus (first|rfl|(simp only [z1,Bool.not_true,Bool.not_false,T];done))))|((with_reducible apply TX.cond_false);(focus rfl);(focus (first|rfl|(simp only [z1,Bool.not_true,Bool.not_false,T];done))))|((with_reducible apply TX.region);(focus (simp only [List.toList_toArray]<;>exact rfl));(focus rfl);(try dsimp only))|((with_reducible apply TX.drawn);(focus decide +kernel);(focus (simp only [List.toList_toArray]<;>exact rfl));(focus exact rfl);(try dsimp only))|fail));exact g)) (g : H) : G:=h T g
theorem wC {A G H : Prop} (T : A) (h : A → H → G:=by (intro T g;(repeat (first|with_reducible refine mv ?_|with_reducible refine TO.nil ?_|((with_reducible first|apply TO.mv|apply TO.asg|apply TO.bin|apply TO.ld|apply TO.fa|apply TO.ia|apply TO.pk|apply TO.len|apply TO.mf );(repeat (focus (show _ = _;first|exact k1 rfl|exact k2 rfl|(simp only [zz,T,Nat.reduceAdd,Nat.reduceMul,Nat.reduceLeDiff,Nat.reduceEqDiff,tload,rowOf,partT,List.getElem?_map,tfieldAddr,tindexAddr,Nat.zero_add,tlen,tbuild,tfill,tfield]<;>exact rfl)|exact rfl)));(with_reducible apply TO.here))|((with_reducible apply TO.skip1);(repeat (focus (show _ = _;first|exact k1 rfl|exact k2 rfl|(simp only [zz,T,Nat.reduceAdd,Nat.reduceMul,Nat.reduceLeDiff,Nat.reduceEqDiff,twant,List.getElem?_toArray,Option.bind_some]<;>exact rfl)|exact rfl)));(with_reducible apply TO.here))|with_reducible refine TD.nil ?_|((with_reducible first|apply TD.mv|apply TD.asg|apply TD.bin|apply TD.ld|apply TD.fa|apply TD.ia|apply TD.len|apply TD.bld|apply TD.ext|apply TD.mf );(repeat (focus (show _ = _;first|exact k1 rfl|exact k2 rfl|(simp only [zz,T,Nat.reduceAdd,Nat.reduceMul,Nat.reduceLeDiff,Nat.reduceEqDiff,tload,rowOf,partT,List.getElem?_map,tfieldAddr,tindexAddr,Nat.zero_add,tlen,tbuild,tfill,tfield]<;>exact rfl)|exact rfl)));(with_reducible refine TD.here ?_))|((with_reducible apply TD.skip1);(repeat (focus (show _ = _;first|exact k1 rfl|exact k2 rfl|(simp only [zz,T,Nat.reduceAdd,Nat.reduceMul,Nat.reduceLeDiff,Nat.reduceEqDiff,twant,List.getElem?_toArray,Option.bind_some]<;>exact rfl)|exact rfl)));(with_reducible refine TD.here ?_))|((with_reducible apply TX.cond_true);(focus rfl);(focus (first|rfl|(simp only [z1,Bool.not_true,Bool.not_false,T];done))))|((with_reducible apply TX.cond_false);(focus rfl);(focus (first|rfl|(simp only [z1,Bool.not_true,Bool.not_false,T];done))))|((with_reducible apply TX.region);(focus (simp only [List.toList_toArray]<;>exact rfl));(focus rfl);(try dsimp only))|((with_reducible apply TX.drawn);(focus decide +kernel);(focus (simp only [List.toList_toArray]<;>exact rfl));(focus exact rfl);(try dsimp only))|fail));exact g)) (g : H) : G:=h T g
theorem wc_ {A G H : Prop} (T : A) (h : A → H → G:=by (intro T g;(repeat (first|with_reducible refine mv ?_|with_reducible refine TO.nil ?_|((with_reducible first|apply TO.mv|apply TO.asg|apply TO.bin|apply TO.fa|apply TO.ia|apply TO.pk|apply TO.len|apply TO.mf );(repeat (focus (show _ = _;first|exact k1 rfl|exact k2 rfl|(simp only [zz,T,Nat.reduceAdd,Nat.reduceMul,Nat.reduceLeDiff,Nat.reduceEqDiff,tload,rowOf,partT,List.getElem?_map,tfieldAddr,tindexAddr,Nat.zero_add,tlen,tbuild,tfill,tfield]<;>exact rfl)|exact rfl)));(with_reducible apply TO.here))|((with_reducible apply TO.skip1);(repeat (focus (show _ = _;first|exact k1 rfl|exact k2 rfl|(simp only [zz,T,Nat.reduceAdd,Nat.reduceMul,Nat.reduceLeDiff,Nat.reduceEqDiff,twant,List.getElem?_toArray,Option.bind_some]<;>exact rfl)|exact rfl)));(with_reducible apply TO.here))|with_reducible refine TD.nil ?_|((with_reducible first|apply TD.mv|apply TD.asg|apply TD.bin|apply TD.fa|apply TD.ia|apply TD.len|apply TD.bld|apply TD.ext|apply TD.mf );(repeat (focus (show _ = _;first|exact k1 rfl|exact k2 rfl|(simp only [zz,T,Nat.reduceAdd,Nat.reduceMul,Nat.reduceLeDiff,Nat.reduceEqDiff,tload,rowOf,partT,List.getElem?_map,tfieldAddr,tindexAddr,Nat.zero_add,tlen,tbuild,tfill,tfield]<;>exact rfl)|exact rfl)));(with_reducible refine TD.here ?_))|((with_reducible apply TD.skip1);(repeat (focus (show _ = _;first|exact k1 rfl|exact k2 rfl|(simp only [zz,T,Nat.reduceAdd,Nat.reduceMul,Nat.reduceLeDiff,Nat.reduceEqDiff,twant,List.getElem?_toArray,Option.bind_some]<;>exact rfl)|exact rfl)));(with_reducible refine TD.here ?_))|((with_reducible apply TX.cond_true);(focus rfl);(focus (first|rfl|(simp only [z1,Bool.not_true,Bool.not_false,T];done))))|((with_reducible apply TX.cond_false);(focus rfl);(focus (first|rfl|(simp only [z1,Bool.not_true,Bool.not_false,T];done))))|((with_reducible apply TX.region);(focus (simp only [List.toList_toArray]<;>exact rfl));(focus rfl);(try dsimp only))|((with_reducible apply TX.drawn);(focus decide +kernel);(focus (simp only [List.toList_toArray]<;>exact rfl));(focus exact rfl);(try dsimp only))|fail));exact g)) (g : H) : G:=h T g
theorem we_ {A G H : Prop} (T : A) (h : A → H → G:=by (intro T g;(repeat (first|with_reducible refine mv ?_|with_reducible refine TO.nil ?_|((with_reducible first|apply TO.mv|apply TO.asg|apply TO.bin|apply TO.fa|apply TO.ia|apply TO.pk|apply TO.mf );(repeat (focus (show _ = _;first|exact k1 rfl|exact k2 rfl|(simp only [zz,T,Nat.reduceAdd,Nat.reduceMul,Nat.reduceLeDiff,Nat.reduceEqDiff,tload,rowOf,partT,List.getElem?_map,tfieldAddr,tindexAddr,Nat.zero_add,tlen,tbuild,tfill,tfield,tslice,tparts]<;>exact rfl)|exact rfl)));(with_reducible apply TO.here))|((with_reducible apply TO.skip1);(repeat (focus (show _ = _;first|exact k1 rfl|exact k2 rfl|(simp only [zz,T,Nat.reduceAdd,Nat.reduceMul,Nat.reduceLeDiff,Nat.reduceEqDiff,twant,List.getElem?_toArray,Option.bind_some]<;>exact rfl)|exact rfl)));(with_reducible apply TO.here))|with_reducible refine TD.nil ?_|((with_reducible first|apply TD.mv|apply TD.asg|apply TD.bin|apply TD.fa|apply TD.ia|apply TD.bld|apply TD.ext|apply TD.bs|apply TD.mf );(repeat (focus (show _ = _;first|exact k1 rfl|exact k2 rfl|(simp only [zz,T,Nat.reduceAdd,Nat.reduceMul,Nat.reduceLeDiff,Nat.reduceEqDiff,tload,rowOf,partT,List.getElem?_map,tfieldAddr,tindexAddr,Nat.zero_add,tlen,tbuild,tfill,tfield,tslice,tparts]<;>exact rfl)|exact rfl)));(with_reducible refine TD.here ?_))|((with_reducible apply TD.skip1);(repeat (focus (show _ = _;first|exact k1 rfl|exact k2 rfl|(simp only [zz,T,Nat.reduceAdd,Nat.reduceMul,Nat.reduceLeDiff,Nat.reduceEqDiff,twant,List.getElem?_toArray,Option.bind_some]<;>exact rfl)|exact rfl)));(with_reducible refine TD.here ?_))|((with_reducible apply TX.cond_true);(focus rfl);(focus (first|rfl|(simp only [z1,Bool.not_true,Bool.not_false,T];done))))|((with_reducible apply TX.cond_false);(focus rfl);(focus (first|rfl|(simp only [z1,Bool.not_true,Bool.not_false,T];done))))|((with_reducible apply TX.region);(focus (simp only [List.toList_toArray]<;>exact rfl));(focus rfl);(try dsimp only))|((with_reducible apply TX.drawn);(focus decide +kernel);(focus (simp only [List.toList_toArray]<;>exact rfl));(focus exact rfl);(try dsimp only))|fail));exact g)) (g : H) : G:=h T g
theorem wF {A G H : Prop} (T : A) (h : A → H → G:=by (intro T g;(repeat (first|with_reducible refine mv ?_|with_reducible refine TO.nil ?_|((with_reducible first|apply TO.mv|apply TO.asg|apply TO.bin|apply TO.ld|apply TO.fa|apply TO.ia|apply TO.pk|apply TO.bf|apply TO.mf );(repeat (focus (show _ = _;first|exact k1 rfl|exact k2 rfl|(simp only [zz,T,Nat.reduceAdd,Nat.reduceMul,Nat.reduceLeDiff,Nat.reduceEqDiff,tload,rowOf,partT,List.getElem?_map,tfieldAddr,tindexAddr,Nat.zero_add,tlen,tbuild,tfill,tfield,tslice,tparts]<;>exact rfl)|exact rfl)));(with_reducible apply TO.here))|((with_reducible apply TO.skip1);(repeat (focus (show _ = _;first|exact k1 rfl|exact k2 rfl|(simp only [zz,T,Nat.reduceAdd,Nat.reduceMul,Nat.reduceLeDiff,Nat.reduceEqDiff,twant,List.getElem?_toArray,Option.bind_some]<;>exact rfl)|exact rfl)));(with_reducible apply TO.here))|with_reducible refine TD.nil ?_|((with_reducible first|apply TD.mv|apply TD.asg|apply TD.bin|apply TD.ld|apply TD.fa|apply TD.ia|apply TD.bld|apply TD.ext|apply TD.bs|apply TD.mf );(repeat (focus (show _ = _;first|exact k1 rfl|exact k2 rfl|(simp only [zz,T,Nat.reduceAdd,Nat.reduceMul,Nat.reduceLeDiff,Nat.reduceEqDiff,tload,rowOf,partT,List.getElem?_map,tfieldAddr,tindexAddr,Nat.zero_add,tlen,tbuild,tfill,tfield,tslice,tparts]<;>exact rfl)|exact rfl)));(with_reducible refine TD.here ?_))|((with_reducible apply TD.skip1);(repeat (focus (show _ = _;first|exact k1 rfl|exact k2 rfl|(simp only [zz,T,Nat.reduceAdd,Nat.reduceMul,Nat.reduceLeDiff,Nat.reduceEqDiff,twant,List.getElem?_toArray,Option.bind_some]<;>exact rfl)|exact rfl)));(with_reducible refine TD.here ?_))|((with_reducible apply TX.cond_true);(focus rfl);(focus (first|rfl|(simp only [z1,Bool.not_true,Bool.not_false,T];done))))|((with_reducible apply TX.cond_false);(focus rfl);(focus (first|rfl|(simp only [z1,Bool.not_true,Bool.not_false,T];done))))|((with_reducible apply TX.region);(focus (simp only [List.toList_toArray]<;>exact rfl));(focus rfl);(try dsimp only))|((with_reducible apply TX.drawn);(focus decide +kernel);(focus (simp only [List.toList_toArray]<;>exact rfl));(focus exact rfl);(try dsimp only))|fail));exact g)) (g : H) : G:=h T g
theorem sd {A : Prop} {α : Type} {a b : α} (T : A) (h : A → a = b:=by (intro T;first|exact k1 rfl|exact k2 rfl|(simp only [zz,T,Nat.reduceAdd,Nat.reduceMul,Nat.reduceLeDiff,Nat.reduceEqDiff,shift,kill,killB,frz,frzB,view,tml,tmlc,List.length_set,tlen,tslice,tparts]<;>exact rfl)|exact rfl)) : a = b:=h T
theorem wn {A : Prop} {α : Type} {a b : α} (T : A) (h : A → a = b:=by (intro T;first|rfl|(simp only [twant,z1,z7,T]<;>rfl))) : a = b:=h T
theorem ry {A : Prop} {α : Type} {a b : α} (T : A) (h : A → a = b:=by (intro T;simp only [zy,T,tresAll,tres,tload,rowOf,partT];exact rfl)) : a = b:=h T
theorem wk_ {A : Prop} (T : A) {tm tm' : List TV} {hp hp' : List TB} (fl : List (Option Nat)) (hok : renOk fl = true) (hB : RB fl hp hp' fl) (hT : A → RNs fl tm tm':=by (intro T;(repeat (first|exact RNs.nil|refine RNs.cons .junk ?_|refine RNs.cons (.keep rfl rfl) ?_|refine RNs.cons (.lsl rfl rfl) ?_|refine RNs.cons (.lsl rfl (by simp only [List.length_set])) ?_|refine RNs.cons (.lptr rfl) ?_|refine RNs.cons (.nil rfl) ?_|refine RNs.cons .nl ?_|refine RNs.cons (.keep (by simp only [T]) rfl) ?_|refine RNs.cons (.tuple' ?_) ?_|refine RNs.cons (.agg' ?_) ?_)))) : Wk ⟨tm,hp⟩ ⟨tm',hp'⟩:=Wk.ren fl hok hB (hT T)
theorem ifs {α : Type} {b : Bool} {x y r : Option α} (h : (if b = true then x else y) = r) : (b = true ∧ x = r) ∨ (b = false ∧ y = r):=by cases b<;>simp_all
theorem bs {α β : Type} {x : Option α} {f : α → Option β} {r : β} (h : x.bind f = some r) : ∃ a,x = some a ∧ f a = some r:=Option.bind_eq_some_iff.1 h
theorem gx {α : Type} {xs : List α} {i : Int} {a : α} (f : α → List TV) (h : getI xs i = some a) : tidx (xs.map f) i = some (f a) ∧ (0 ≤ i ∧ i < xs.length) ∧ xs[i.toNat]? = some a:=And.intro (tidx_map (f:=f) h) (And.intro (getI_lt h) (getI_at h))
theorem lv {A : Prop} (T : A) {b : Bool} {G : Prop} (hr : some b = some true) (h : A → b = true → G:=by (intro T hb;first|(cases hb;done)|((first|refine ⟨.inl rfl,?_⟩|refine ⟨.inr rfl,?_⟩);first|(simp only [tresAll,tres,z1,hb,Option.map_some]<;>exact rfl)|(simp only [T] at hb;simp only [tresAll,tres,z1,hb,Option.map_some]<;>exact rfl)))) : G:=h T (Option.some.inj hr)
theorem vw {A : Prop} {α : Type} {a b : α} (T : A) (h : A → a = b:=by (intro T;simp only [view,z1,z3,List.toList_toArray,tml,tmlc,List.length_set,Nat.reduceEqDiff,if_false]<;>rfl)) : a = b:=h T
end Go.Rex

namespace Go.Rex
open Go.RowKit
/-! ### calls that are known: what they return is told by what they can reach -/
def al2 {α β : Type} (p : α → β → Bool) : List α → List β → Bool
  | [],[]=>true
  | a :: s,b :: t=>p a b && al2 p s t
  | _,_=>false
theorem al2_at {α β : Type} {p : α → β → Bool} : ∀ {s : List α} {t : List β},al2 p s t = true → t.length = s.length ∧ ∀ (i : Nat) a b,s[i]? = some a → t[i]? = some b → p a b = true
  | [],[],_=>⟨rfl,fun i a b h=>by simp at h⟩
  | [],_ :: _,hh=>by simp [al2] at hh
  | _ :: _,[],hh=>by simp [al2] at hh
  | a :: s,b :: t,hh=>by
    simp only [al2,Bool.and_eq_true] at hh
    obtain ⟨h1,h2⟩:=al2_at hh.2
    refine ⟨by simp [h1],fun i x y hx hy=>?_⟩
    cases i with
    | zero=>simp at hx hy;subst hx hy;exact hh.1
    | succ i=>exact h2 i x y (by simpa using hx) (by simpa using hy)
theorem al2_eq {α : Type} {p : α → α → Bool} (h : ∀ a b,p a b = true → a = b) {s t : List α} (hh : al2 p s t = true) : s = t:=by
  obtain ⟨h1,h2⟩:=al2_at hh
  apply List.ext_getElem?
  intro i
  cases hs : s[i]? with
  | none=>rw [List.getElem?_eq_none_iff] at hs;rw [eq_comm,List.getElem?_eq_none_iff];omega
  | some a =>
    have hi:=(List.getElem?_eq_some_iff.1 hs).1
    have ht : t[i]? = some t[i]:=List.getElem?_eq_getElem (by omega)
    rw [ht,h a _ (h2 i a _ hs ht)]
def addrM (σ : List Nat) : Addr → Addr → Bool
  | ⟨n,o,none⟩,⟨n',o',none⟩=>(match σ[n]? with|some k=>Nat.beq k n'|none=>false) && Nat.beq o o'
  | _,_=>false
/-- b is a with its names as σ has them -/
def mV (σ : List Nat) : Nat → Value → Value → Bool
  | 0,_,_=>false
  | d + 1,a,b=>match a,b with
    | .bool x,.bool y=>x == y
    | .int k x,.int k' y=>decide (k = k') && decide (x = y)
    | .float k x,.float k' y=>decide (k = k') && Nat.beq x y
    | .complex k x z,.complex k' y u=>decide (k = k') && (Nat.beq x y && Nat.beq z u)
    | .string ⟨⟨s⟩⟩,.string ⟨⟨t⟩⟩=>decide (s = t)
    | .pointer none,.pointer none=>true
    | .pointer (some x),.pointer (some y)=>addrM σ x y
    | .slice none l c,.slice none l' c'=>Nat.beq l l' && Nat.beq c c'
    | .slice (some x) l c,.slice (some y) l' c'=>addrM σ x y && (Nat.beq l l' && Nat.beq c c')
    | .map none,.map none=>true
    | .func (.func f) ⟨a⟩ ⟨b⟩,.func (.func g) ⟨a'⟩ ⟨b'⟩=>Nat.beq f g && (al2 (mV σ d) a a' && al2 (mV σ d) b b')
    | .nilFunc,.nilFunc=>true
    | .nilIface,.nilIface=>true
    | .iface t v,.iface t' v'=>Nat.beq t t' && mV σ d v v'
    | .agg ⟨a⟩,.agg ⟨a'⟩=>al2 (mV σ d) a a'
    | .tuple ⟨a⟩,.tuple ⟨a'⟩=>al2 (mV σ d) a a'
    | _,_=>false
def dS (σ : List Nat) (D : Nat → Prop) : Nat → Prop:=fun n=>∃ k,σ[n]? = some k ∧ D k
def mS (σ : List Nat) (m : NMap) : NMap:=fun n=>m (σ[n]?.getD 0)
theorem mV_vr {σ : List Nat} {D : Nat → Prop} {m : NMap} : ∀ (d : Nat) (a b b' : Value),mV σ d a b = true → VR D m b b' → VR (dS σ D) (mS σ m) a b':=by
  intro d
  induction d with
  | zero=>intro a b b' h;cases h
  | succ d ih =>
    intro a b b' h hr
    have hl : ∀ {s t t' : List Value},al2 (mV σ d) s t = true → VRs D m t t' → VRs (dS σ D) (mS σ m) s t':=by
      intro s t t' hh hs
      obtain ⟨h1,h2⟩:=al2_at hh
      refine ⟨hs.len.trans h1,fun i v v' hv hv'=>?_⟩
      have hi:=(List.getElem?_eq_some_iff.1 hv).1
      have ht : t[i]? = some t[i]:=List.getElem?_eq_getElem (by omega)
      exact ih v _ v' (h2 i v _ hv ht) (hs.at' i _ v' ht hv')
    have ha : ∀ {x y : Addr},addrM σ x y = true → ∃ n o k,x = ⟨n,o,none⟩ ∧ y = ⟨k,o,none⟩ ∧ σ[n]? = some k:=by
      intro x y hh
      obtain ⟨n,o,s⟩:=x
      obtain ⟨n',o',s'⟩:=y
      cases s<;>cases s'<;>simp only [addrM] at hh<;>try (cases hh;done)
      simp only [Bool.and_eq_true] at hh
      obtain ⟨h1,h2⟩:=hh
      have h2:=Nat.eq_of_beq_eq_true h2
      subst h2
      split at h1
      · rename_i k hk
        have h1:=Nat.eq_of_beq_eq_true h1
        subst h1
        exact ⟨n,o,k,rfl,rfl,hk⟩
      · cases h1
    have hms : ∀ {n k : Nat},σ[n]? = some k → mS σ m n = m k:=fun hk=>by unfold mS;rw [hk];rfl
    unfold mV at h
    split at h
    · cases hr;rw [eq_of_beq h];exact .bool _
    · simp only [Bool.and_eq_true,decide_eq_true_eq] at h;cases hr;rw [h.1,h.2];exact .int _ _
    · simp only [Bool.and_eq_true,decide_eq_true_eq] at h;cases hr;rw [h.1,Nat.eq_of_beq_eq_true h.2];exact .float _ _
    · simp only [Bool.and_eq_true,decide_eq_true_eq] at h;cases hr;rw [h.1,Nat.eq_of_beq_eq_true h.2.1,Nat.eq_of_beq_eq_true h.2.2];exact .complex _ _ _
    · simp only [decide_eq_true_eq] at h;cases hr;rw [h];exact .string _
    · cases hr;exact .nilPtr
    · obtain ⟨n,o,k,rfl,rfl,hk⟩:=ha h
      cases hr
      rename_i hD
      have:=VR.ptr (D:=dS σ D) (m:=mS σ m) n o ⟨k,hk,hD⟩
      rwa [hms hk] at this
    · simp only [Bool.and_eq_true] at h;cases hr;rw [Nat.eq_of_beq_eq_true h.1,Nat.eq_of_beq_eq_true h.2];exact .nilSlice _ _
    · simp only [Bool.and_eq_true] at h
      obtain ⟨n,o,k,rfl,rfl,hk⟩:=ha h.1
      have e1:=Nat.eq_of_beq_eq_true h.2.1
      have e2:=Nat.eq_of_beq_eq_true h.2.2
      subst e1 e2
      cases hr with
      | slice _ _ _ _ c' hD hlc hcc he =>
        have:=VR.slice (D:=dS σ D) (m:=mS σ m) n o _ _ c' ⟨k,hk,hD⟩ hlc hcc (by rw [hms hk];exact he)
        rwa [hms hk] at this
    · cases hr;exact .nilMap
    · simp only [Bool.and_eq_true] at h
      cases hr with
      | func _ _ _ a' b' la ha' lb hb' =>
        rw [Nat.eq_of_beq_eq_true h.1]
        have h1:=hl h.2.1 ⟨la,ha'⟩
        have h2:=hl h.2.2 ⟨lb,hb'⟩
        exact .func _ _ _ _ _ h1.len h1.at' h2.len h2.at'
    · cases hr;exact .nilFunc
    · cases hr;exact .nilIface
    · simp only [Bool.and_eq_true] at h
      cases hr with
      | iface _ _ v' hv=>rw [Nat.eq_of_beq_eq_true h.1];exact .iface _ _ _ (ih _ _ _ h.2 hv)
    · cases hr with
      | agg _ a' la ha'=>exact .agg' (hl h ⟨la,ha'⟩)
    · cases hr with
      | tuple _ a' la ha'=>exact .tuple' (hl h ⟨la,ha'⟩)
    · cases h
/-- a block with its names as σ has them -/
def mB (σ : List Nat) : Blk → Option Blk → Bool
  | .cells es c,some (.cells es' c')=>Nat.beq es es' && al2 (mV σ 60) c c'
  | _,_=>false
def mH (σ : List Nat) (h : List Blk) : List Nat → List Blk → Bool
  | [],[]=>true
  | n :: t,b :: s=>mB σ b h[n]? && mH σ h t s
  | _,_=>false
theorem mH_at {σ : List Nat} {h : List Blk} : ∀ {t : List Nat} {s : List Blk},mH σ h t s = true → s.length = t.length ∧ ∀ (i : Nat) b,s[i]? = some b → ∃ n,t[i]? = some n ∧ mB σ b h[n]? = true
  | [],[],_=>⟨rfl,fun i b h=>by simp at h⟩
  | [],_ :: _,hh=>by simp [mH] at hh
  | _ :: _,[],hh=>by simp [mH] at hh
  | n :: t,b :: s,hh=>by
    simp only [mH,Bool.and_eq_true] at hh
    obtain ⟨h1,h2⟩:=mH_at hh.2
    refine ⟨by simp [h1],fun i x hx=>?_⟩
    cases i with
    | zero=>simp at hx;subst hx;exact ⟨n,rfl,hh.1⟩
    | succ i=>exact h2 i x (by simpa using hx)
/-! the names,in the order in which they are met -/
def addN (σ : List Nat) : Option Addr → List Nat
  | some ⟨n,_,none⟩=>if σ.contains n then σ else σ ++ [n]
  | _=>σ
def namesV : Nat → List Nat → Value → List Nat
  | 0,σ,_=>σ
  | d + 1,σ,v=>match v with
    | .pointer a=>addN σ a
    | .slice a _ _=>addN σ a
    | .func _ ⟨a⟩ ⟨b⟩=>b.foldl (namesV d) (a.foldl (namesV d) σ)
    | .iface _ v=>namesV d σ v
    | .agg ⟨a⟩=>a.foldl (namesV d) σ
    | .tuple ⟨a⟩=>a.foldl (namesV d) σ
    | _=>σ
def reach (h : List Blk) : Nat → Nat → List Nat → List Nat
  | 0,_,σ=>σ
  | k + 1,i,σ=>match σ[i]? with
    | none=>σ
    | some n=>match h[n]? with
      | some (.cells _ c)=>reach h k (i + 1) (c.foldl (namesV 60) σ)
      | _=>reach h k (i + 1) σ
def namesOf (args : List Value) (h : List Blk) : List Nat:=reach h 1000 0 (args.foldl (namesV 60) (List.range NG))
structure Piece where
  f : FuncId
  args : List Value
  h : List Blk
  v : Value
def fits (p : Piece) (args : List Value) (h : List Blk) (σ : List Nat) : Bool:=al2 Nat.beq (List.range NG) (σ.take NG) && (al2 (mV σ 60) p.args args && mH σ h σ p.h)
def look : List Piece → FuncId → List Value → List Blk → Option Value
  | [],_,_,_=>none
  | p :: t,f,args,h=>match Nat.beq p.f f with
    | true=>(match fits p args h (namesOf args h) with
      | true=>some p.v
      | false=>look t f args h)
    | false=>look t f args h
def ctxT (P : Program) (tab : List Piece) (k : Nat) : Nat → Ctx
  | 0=>⟨fun _ _ _=>none,fun _ _ _=>none⟩
  | d + 1 => ⟨fun f args h => match look tab f args h with
      | some v=>some (v,h,none)
      | none=>runCall (ctxT P tab k d) P k f args h,runRound (ctxT P tab k d) P k⟩
/-- one call more is known: the function itself is run, what it calls may be known -/
def pieceRun (P : Program) (tab : List Piece) (k d : Nat) (p : Piece) : AOut:=runCall (ctxT P tab k d) P k p.f p.args p.h
end Go.Rex
