/- An executor of the program's functions on trees of values, proved sound. -/
import Derived.Test.YtpjccpokiaefjaaGreatDoorRexG2
import Derived.RangeFuncNested
set_option linter.unusedSimpArgs false
set_option linter.unusedVariables false
set_option linter.defProp false
namespace Go.Rex
open Go.RowKit

/-- the marks -/
structure DRs (D : Nat → Prop) (m : NMap) (df : List Nat) (ds : List Deferred) : Prop where
  eq : ds = df.map fun n=>{ target:=.collected (m n).block,args:=#[] }
  dom : ∀ n ∈ df,D n
structure AR (D : Nat → Prop) (m : NMap) (a : AS) (a' : Act) : Prop where
  tm : VRs D m a.tm a'.tmps.toList
  df : DRs D m a.df a'.defers
theorem DRs.mono {D D' : Nat → Prop} {m m' : NMap} {df : List Nat} {ds : List Deferred} (h : DRs D m df ds) (hD : ∀ n,D n → D' n) (hm : ∀ n,D n → m' n = m n) : DRs D' m' df ds :=
  ⟨by rw [h.eq];exact List.map_congr_left fun n hn=>by rw [hm n (h.dom n hn)],fun n hn=>hD n (h.dom n hn)⟩
theorem Post.drs {B lo : Nat} {D : Nat → Prop} {m m₁ : NMap} {h h₁ : List Blk} {w w₁ : World} (p : Post B lo D m h w m₁ h₁ w₁) {df : List Nat} {ds : List Deferred} (hd : DRs D m df ds) : DRs (Dx D h.length h₁.length) m₁ df ds :=
  hd.mono (fun _ h=>.inl h) p.agree

/-- in which round one is -/
def RoR (D : Nat → Prop) (m : NMap) (ro ro' : Option Nat) : Prop :=
  match ro with
  | none=>ro' = none
  | some l=>D l ∧ ro' = some (m l).block
theorem Post.ror {B lo : Nat} {D : Nat → Prop} {m m₁ : NMap} {h h₁ : List Blk} {w w₁ : World} (p : Post B lo D m h w m₁ h₁ w₁) {ro ro' : Option Nat} (hr : RoR D m ro ro') : RoR (Dx D h.length h₁.length) m₁ ro ro':=by
  cases ro with
  | none=>exact hr
  | some l=>exact ⟨.inl hr.1,by rw [p.agree l hr.1];exact hr.2⟩

def ExQ (B lo : Nat) (D : Nat → Prop) (m : NMap) (h : List Blk) (w : World) (e : Exit) (a : AS) (h' : List Blk) : Exit → Act → World → Prop:=fun e' a' w' =>
  e' = e ∧ ∃ m',Post B lo D m h w m' h' w' ∧ AR (Dx D h.length h'.length) m' a a'

/-- a new block of another kind -/
theorem Rel.pushDfr {B lo : Nat} {D : Nat → Prop} {m : NMap} {h : List Blk} {w : World} (hr : Rel B lo D m h w) (hlo : lo ≤ h.length) :
    Post B lo D m h w (upd m h.length ⟨w.heap.size,0,0,0⟩) (h ++ [.dfr]) (w.alloc (.deferred (some []))) :=
  hr.push _ _ _ rfl hlo (by show (w.alloc _).heap[_]? = _;rw [upd_same];exact World.alloc_heap_new w _) trivial

section
variable {P : Program} {C : Ctx} {ro ro' : Option Nat} {n : Nat}

theorem runRange_sound (hC : CtxOk P C) {B lo : Nat} {D : Nat → Prop} {m : NMap} {h h' : List Blk} {w : World} {g : Operand} {ps : Array Tmp} {assign body : Code} {a a' : AS} {act : Act} {e : Exit} {wr : Option Nat}
    (hr : Rel B lo D m h w) (hlo : lo ≤ h.length) (hA : AR D m a act) (hro : RoR D m ro ro') (hv : runRange C P ro g ps assign body a h = some (e,a',h',wr)) (hw : WrOk lo wr) :
    (Code.rangeFunc g ps assign body).wpIn (Fw ro') n P (ExQ B lo D m h w e a' h') act w:=by
  unfold runRange at hv
  split at hv
  · rename_i hg
    split at hv
    · rename_i fn first captured hfv
      split at hv
      · rename_i gf
        split at hv
        · rename_i fd hfd
          split at hv
          · rename_i hcond
            obtain ⟨hbody,hname⟩:=hcond
            have h1:=ev_vr hr.gl hA.tm hg
            rw [hfv] at h1
            obtain ⟨first',captured',hfi,hca,e1⟩ : ∃ first' captured',VRs D m first first' ∧ VRs D m captured captured' ∧ act.eval g = .func (.func gf) ⟨first'⟩ ⟨captured'⟩:=by
              generalize act.eval g = y at *
              cases h1
              exact ⟨_,_,⟨by assumption,by assumption⟩,⟨by assumption,by assumption⟩,rfl⟩
            split at hv
            · cases hv
            · rename_i h1 d mark hst
              split at hv
              · rename_i v0 h2 w2 hcall
                refine wpIn_rangeFunc fun fn _=>?_
                -- the start
                obtain ⟨m1, w1, wfin, realMark, hp1, hD1, hent, hreal, hhn, hmk⟩ : ∃ (m1 : NMap) (w1 wfin : World) (realMark : List Deferred), Post B lo D m h w m1 h1 w1 ∧ Dx D h.length h1.length d ∧
                    (Instr.enterLoop fn act.tmps ps assign body ro').run P w = .ok (w1.heap.size,realMark) wfin ∧
                    wfin = w1.alloc (.loop { state:=.ready,pending:=none,fn,tmps:=act.tmps,params:=ps,assign,body,defers:=(m1 d).block }) ∧ h.length ≤ h1.length ∧ DRs (Dx D h.length h1.length) m1 mark realMark:=by
                  unfold rangeStart at hst
                  cases ro with
                  | none =>
                    obtain ⟨rfl,rfl,rfl⟩ : h ++ [Blk.dfr] = h1 ∧ h.length = d ∧ [h.length] = mark:=by simpa using hst
                    have hro' : ro' = none:=hro
                    subst hro'
                    refine ⟨_,_,_,[{ target:=.collected w.heap.size,args:=#[] }],hr.pushDfr hlo,.inr (by simp),?_,rfl,by simp,⟨?_,fun k hk=>?_⟩⟩
                    · rw [run_enterLoop_outer,upd_same]
                      simp only [World.size_alloc]
                    · rw [List.map_singleton,upd_same]
                    · obtain rfl : k = h.length:=by simpa using hk
                      exact .inr (by simp)
                  | some l =>
                    obtain ⟨hDl,hro'⟩:=hro
                    subst hro'
                    simp only at hst
                    split at hst
                    · rename_i st pend tmps0 ps0 as0 bd0 d0 hl
                      obtain ⟨rfl,rfl,rfl⟩ : h = h1 ∧ d0 = d ∧ [] = mark:=by simpa using hst
                      obtain ⟨hd,fn0,tmps',hh,_⟩:=hr.ok l _ hDl hl
                      refine ⟨m,w,_,[],Post.refl hr,.inl hd,?_,rfl,Nat.le_refl _,⟨rfl,fun k hk=>by simp at hk⟩⟩
                      rw [run_enterLoop_inner hh]
                    · cases hst
                have hr1:=hp1.rel
                -- the record
                have hp2:=hr1.push (.loop { state:=.ready,pending:=none,fn,tmps:=act.tmps,params:=ps,assign,body,defers:=(m1 d).block }) (.loop .ready none a.tm ps assign body d) ⟨w1.heap.size,0,0,0⟩ rfl (Nat.le_trans hlo hhn)
                  ⟨.inl hD1,fn,act.tmps.toList,by
                    rw [upd_same,upd_other (by have:=hr1.dom d hD1;omega)]
                    exact World.alloc_heap_new w1 _,((hp1.vrs hA.tm).mono (fun _ h=>.inl h) fun k hk=>upd_other (by have:=hr1.dom k hk;omega))⟩ trivial
                rw [← hreal] at hp2
                have hr2:=hp2.rel
                have hp12:=hp1.trans hp2
                have hlen : (h1 ++ [Blk.loop LoopState.ready none a.tm ps assign body d]).length = h1.length + 1:=by simp
                have hDl : Dx (Dx D h.length h1.length) h1.length (h1 ++ [Blk.loop LoopState.ready none a.tm ps assign body d]).length h1.length:=.inr (by simp)
                have hlb : (upd m1 h1.length ⟨w1.heap.size,0,0,0⟩ h1.length).block = w1.heap.size:=by rw [upd_same]
                have hargs : VRs (Dx (Dx D h.length h1.length) h1.length (h1 ++ [Blk.loop LoopState.ready none a.tm ps assign body d]).length) (upd m1 h1.length ⟨w1.heap.size, 0, 0, 0⟩)
                    (first ++ ([.func (.yield h1.length) #[] #[]] ++ captured)) (first' ++ ([.func (.yield w1.heap.size) #[] #[]] ++ captured')):=by
                  refine (hp2.vrs (hp1.vrs hfi)).append (VRs.append (VRs.cons ?_ VRs.nil) (hp2.vrs (hp1.vrs hca)))
                  have:=VR.yield (D:=Dx (Dx D h.length h1.length) h1.length (h1 ++ [Blk.loop LoopState.ready none a.tm ps assign body d]).length) (m:=upd m1 h1.length ⟨w1.heap.size,0,0,0⟩) h1.length hDl
                  rwa [hlb] at this
                have harr : (⟨first'⟩ ++ #[.func (.yield w1.heap.size) #[] #[]] ++ ⟨captured'⟩ : Array Value) = ⟨first' ++ ([.func (.yield w1.heap.size) #[] #[]] ++ captured')⟩:=Array.ext' (by simp)
                refine ⟨w1.heap.size,realMark,wfin,{ target:=.fn (.func gf) ⟨captured'⟩,args:=⟨first'⟩ ++ #[.func (.yield w1.heap.size) #[] #[]] },wfin,gf,⟨first' ++ ([.func (.yield w1.heap.size) #[] #[]] ++ captured')⟩,wfin,hent,?_,fun _ _=>trivial,?_,(fun h=>(by cases h)),?_⟩
                · have evc : ∀ v,act.eval (.const v) = v:=fun _=>rfl
                  simp only [resolve,rangeCall,e1,Deferred.ofValue,List.map_toArray,List.map_cons,List.map_nil,evc,Sem.run_pure]
                · simp only [invoke]
                  rw [harr]
                  unfold callFunc
                  obtain ⟨bd,hbd⟩:=Option.isSome_iff_exists.1 hbody
                  simp only [Sem.run_bind,run_program,Result.andThen_ok,hfd,hname,Bool.false_eq_true,if_false,hbd]
                  rfl
                · have hwr2 : WrOk lo w2 := by
                    unfold rangeEnd at hv
                    repeat' split at hv
                    all_goals first
                      | (cases hv;done)
                      | (have : w2 = wr := by (injection hv with hv; injection hv with _ hv; injection hv with _ hv; injection hv with _ hv)
                         rw [this];exact hw)
                  have hc:=callsIn_wide (n:=n - 1).2 (hC.call hcall hr2 (by rw [hlen];omega) hwr2 hargs)
                  refine CallsIn.mono (F:=Fw ro') (by exact hc) ?_
                  rintro e3 w3 ⟨v3,m3,rfl,hp3,_⟩
                  have hr3:=hp3.rel
                  unfold rangeEnd at hv
                  split at hv
                  · rename_i st pend t3 p3 as3 b3 d3 hl3
                    have hDl3 : Dx (Dx (Dx D h.length h1.length) h1.length (h1 ++ [Blk.loop LoopState.ready none a.tm ps assign body d]).length) (h1 ++ [Blk.loop LoopState.ready none a.tm ps assign body d]).length h2.length h1.length:=.inl hDl
                    have hm3 : (m3 h1.length).block = w1.heap.size:=by rw [hp3.agree _ hDl,hlb]
                    obtain ⟨_,fn3,tmps3,hh3,_⟩:=hr3.ok h1.length _ hDl3 hl3
                    rw [hm3] at hh3
                    split at hv
                    · cases hv
                    · rename_i hbusy
                      have hend:=run_endLoop (P:=P) hh3 (by simpa using hbusy)
                      have hp4:=hr3.put hDl3 (by omega) hl3 (by simp) (.loop { state:=.exhausted,pending:=pend,fn:=fn3,tmps:=⟨tmps3⟩,params:=p3,assign:=as3,body:=b3,defers:=(m3 d3).block }) .dead trivial trivial
                      rw [hm3] at hp4
                      have hpost:=(hp12.trans (by rw [← Dx.trans hp1.grow hp2.grow];exact hp3)).trans (by rw [← Dx.trans (Nat.le_trans hp1.grow hp2.grow) hp3.grow,← Dx.trans hp1.grow hp2.grow];exact hp4)
                      have hAR : ∀ ds,act.defers = ds → AR (Dx D h.length (h2.set h1.length .dead).length) m3 ⟨a.tm,mark ++ a.df⟩ { tmps:=act.tmps,defers:=realMark ++ ds }:=by
                        rintro ds rfl
                        have hmark:=(hp4.drs (hp3.drs (hp2.drs hmk)))
                        have hold:=hpost.drs hA.df
                        have hsub : ∀ k,Dx (Dx (Dx (Dx D h.length h1.length) h1.length (h1 ++ [Blk.loop LoopState.ready none a.tm ps assign body d]).length) (h1 ++ [Blk.loop LoopState.ready none a.tm ps assign body d]).length h2.length) h2.length (h2.set h1.length .dead).length k → Dx D h.length (h2.set h1.length .dead).length k:=by
                          intro k hk
                          rwa [Dx.trans hp1.grow hp2.grow,Dx.trans (Nat.le_trans hp1.grow hp2.grow) hp3.grow,Dx.trans (Nat.le_trans (Nat.le_trans hp1.grow hp2.grow) hp3.grow) hp4.grow] at hk
                        have hmark:=hmark.mono hsub (fun _ _=>rfl)
                        refine ⟨hpost.vrs hA.tm,⟨by rw [hmark.eq,hold.eq,List.map_append],fun k hk=>?_⟩⟩
                        rcases List.mem_append.1 hk with hk|hk
                        · exact hmark.dom k hk
                        · exact hold.dom k hk
                      refine ⟨pend,_,hend,?_⟩
                      split at hv
                      · obtain ⟨rfl,rfl,rfl,rfl⟩ : Exit.normal = e ∧ _ = a' ∧ _ = h' ∧ w2 = wr:=by simpa using hv
                        exact ⟨rfl,m3,hpost,hAR _ rfl⟩
                      · rename_i c
                        split at hv
                        · obtain ⟨rfl,rfl,rfl,rfl⟩ : Exit.ret = e ∧ _ = a' ∧ _ = h' ∧ w2 = wr:=by simpa using hv
                          exact wpIn_ret ⟨rfl,m3,hpost,hAR _ rfl⟩
                        · rename_i id
                          obtain ⟨rfl,rfl,rfl,rfl⟩ : Exit.exit id = e ∧ _ = a' ∧ _ = h' ∧ w2 = wr:=by simpa using hv
                          exact wpIn_exit ⟨rfl,m3,hpost,hAR _ rfl⟩
                        · cases hv
                  · cases hv
              · cases hv
          · cases hv
        · cases hv
      · cases hv
    · cases hv
  · cases hv
end
end Go.Rex

namespace Go.Rex
open Go.RowKit

/-- the word on regions that draw their order -/
def DrawSound (P : Program) (C : Ctx) : Prop :=
  ∀ {id : Nat} {ops : Array Oper} {tm tm' : List Value} {h h' : List Blk} {wr : Option Nat},runDraw C P ops tm h = some (tm',h',wr) →
    ∀ {ro' : Option Nat} {n B lo : Nat} {D : Nat → Prop} {m : NMap} {w : World} {a : Act} {Q : Exit → Act → World → Prop},Rel B lo D m h w → lo ≤ h.length → VRs D m tm a.tmps.toList → WrOk lo wr →
      (∀ a' w' m',Post B lo D m h w m' h' w' → VRs (Dx D h.length h'.length) m' tm' a'.tmps.toList → a'.defers = a.defers → Q .normal a' w') → (Code.region id ops true).wpIn (Fw ro') n P Q a w

section
variable {P : Program} {C : Ctx} {ro : Option Nat}

theorem rounds_mono {F : Fence} {n : Nat} {P : Program} {c : Code} {Q Q' : Exit → Act → World → Prop} (hq : ∀ e a w,Q e a w → Q' e a w) : ∀ {m : Nat} {a : Act} {w : World},Code.roundsIn F n P c Q m a w → Code.roundsIn F n P c Q' m a w:=by
  intro m
  induction m with
  | zero=>intro a w h;exact h
  | succ m ih =>
    intro a w h
    rw [roundsIn_succ] at h ⊢
    refine wpIn_mono h fun e a w h=>?_
    cases e<;>first|exact ih h|exact hq _ _ _ h

theorem ExQ.then {B lo : Nat} {D : Nat → Prop} {m m1 : NMap} {h h1 h2 : List Blk} {w w1 : World} {e : Exit} {a2 : AS} (hp : Post B lo D m h w m1 h1 w1) {e' : Exit} {a' : Act} {w' : World}
    (hq : ExQ B lo (Dx D h.length h1.length) m1 h1 w1 e a2 h2 e' a' w') : ExQ B lo D m h w e a2 h2 e' a' w':=by
  obtain ⟨he,m2,hp2,hA2⟩:=hq
  rw [Dx.trans hp.grow hp2.grow] at hA2
  exact ⟨he,m2,hp.trans hp2,hA2⟩

theorem exec_sound (hC : CtxOk P C) (hDraw : DrawSound P C) : ∀ (k : Nat) (c : Code) (a : AS) (h : List Blk) (e : Exit) (a' : AS) (h' : List Blk) (wr : Option Nat), exec C P ro k c a h = some (e, a', h', wr) →
    ∀ {ro' : Option Nat} {n B lo : Nat} {D : Nat → Prop} {m : NMap} {w : World} {act : Act},Rel B lo D m h w → lo ≤ h.length → WrOk lo wr → AR D m a act → RoR D m ro ro' → c.wpIn (Fw ro') n P (ExQ B lo D m h w e a' h') act w:=by
  intro k
  induction k using Nat.strongRecOn with
  | _ k ih =>
  cases k with
  | zero=>intro c a h e a' h' wr hv;simp [exec] at hv
  | succ k =>
  intro c a h e a' h' wr hv ro' n B lo D m w act hr hlo hw hA hro
  have refl : ExQ B lo D m h w .normal a h .normal act w:=⟨rfl,m,Post.refl hr,by rw [Dx.refl];exact hA⟩
  cases c with
  | skip =>
    obtain ⟨rfl,rfl,rfl,rfl⟩ : Exit.normal = e ∧ a = a' ∧ h = h' ∧ none = wr:=by simpa [exec] using hv
    exact wpIn_skip refl
  | label l =>
    obtain ⟨rfl,rfl,rfl,rfl⟩ : Exit.normal = e ∧ a = a' ∧ h = h' ∧ none = wr:=by simpa [exec] using hv
    exact wpIn_label refl
  | exit id =>
    obtain ⟨rfl,rfl,rfl,rfl⟩ : Exit.exit id = e ∧ a = a' ∧ h = h' ∧ none = wr:=by simpa [exec] using hv
    exact wpIn_exit ⟨rfl,m,Post.refl hr,by rw [Dx.refl];exact hA⟩
  | ret =>
    obtain ⟨rfl,rfl,rfl,rfl⟩ : Exit.ret = e ∧ a = a' ∧ h = h' ∧ none = wr:=by simpa [exec] using hv
    exact wpIn_ret ⟨rfl,m,Post.refl hr,by rw [Dx.refl];exact hA⟩
  | seq x y =>
    simp only [exec] at hv
    cases hx : exec C P ro k x a h with
    | none=>rw [hx] at hv;cases hv
    | some r =>
      obtain ⟨e1,a1,h1,w1⟩:=r
      rw [hx] at hv
      have hother : e1 ≠ .normal → e1 = e ∧ a1 = a' ∧ h1 = h' ∧ w1 = wr:=by
        intro hne
        cases e1<;>first|(exact absurd rfl hne)|simpa using hv
      cases e1 with
      | normal =>
        simp only at hv
        cases hy : exec C P ro k y a1 h1 with
        | none=>rw [hy] at hv;cases hv
        | some r =>
          obtain ⟨e2,a2,h2,w2⟩:=r
          rw [hy] at hv
          obtain ⟨rfl,rfl,rfl,rfl⟩ : e2 = e ∧ a2 = a' ∧ h2 = h' ∧ wmin w1 w2 = wr:=by simpa using hv
          obtain ⟨hw1,hw2⟩:=hw.min
          refine wpIn_seq (wpIn_mono (ih k (by omega) x a h _ a1 h1 w1 hx hr hlo hw1 hA hro) ?_)
          rintro e' act' w' ⟨rfl,m1,hp1,hA1⟩
          exact wpIn_mono (ih k (by omega) y a1 h1 _ a2 h2 w2 hy hp1.rel (Nat.le_trans hlo hp1.grow) hw2 hA1 (hp1.ror hro)) fun e'' a'' w'' hq=>hq.then hp1
      | _ =>
        obtain ⟨rfl,rfl,rfl,rfl⟩:=hother (by simp)
        refine wpIn_seq (wpIn_mono (ih k (by omega) x a h _ _ _ _ hx hr hlo hw hA hro) ?_)
        rintro e' act' w' hq
        obtain ⟨rfl,hq'⟩:=hq
        exact ⟨rfl,hq'⟩
  | cond c x y =>
    simp only [exec] at hv
    split at hv
    · rename_i hc
      split at hv
      · rename_i t ht
        have h1:=ev_vr hr.gl hA.tm hc
        rw [ht] at h1
        have h2 : act.eval c = .bool t:=by
          generalize act.eval c = z at *
          cases h1;rfl
        refine wpIn_cond h2 ?_
        cases t with
        | true=>exact ih k (by omega) x a h _ _ _ _ hv hr hlo hw hA hro
        | false=>exact ih k (by omega) y a h _ _ _ _ hv hr hlo hw hA hro
      · cases hv
    · cases hv
  | block id b =>
    simp only [exec] at hv
    cases hx : exec C P ro k b a h with
    | none=>rw [hx] at hv;cases hv
    | some r =>
      obtain ⟨e1,a1,h1,w1⟩:=r
      rw [hx] at hv
      refine wpIn_block ?_
      cases e1 with
      | exit id' =>
        simp only at hv
        split at hv
        · rename_i hid
          obtain ⟨rfl,rfl,rfl,rfl⟩ : Exit.normal = e ∧ a1 = a' ∧ h1 = h' ∧ w1 = wr:=by simpa using hv
          refine wpIn_mono (ih k (by omega) b a h _ _ _ _ hx hr hlo hw hA hro) ?_
          rintro e' act' w' ⟨rfl,hq'⟩
          simp only [Exit.inBlock,hid,if_true]
          exact ⟨rfl,hq'⟩
        · rename_i hid
          obtain ⟨rfl,rfl,rfl,rfl⟩ : Exit.exit id' = e ∧ a1 = a' ∧ h1 = h' ∧ w1 = wr:=by simpa using hv
          refine wpIn_mono (ih k (by omega) b a h _ _ _ _ hx hr hlo hw hA hro) ?_
          rintro e' act' w' ⟨rfl,hq'⟩
          simp only [Exit.inBlock,hid,if_false]
          exact ⟨rfl,hq'⟩
      | _ =>
        obtain ⟨rfl,rfl,rfl,rfl⟩ : _ = e ∧ a1 = a' ∧ h1 = h' ∧ w1 = wr:=by simpa using hv
        refine wpIn_mono (ih k (by omega) b a h _ _ _ _ hx hr hlo hw hA hro) ?_
        rintro e' act' w' ⟨rfl,hq'⟩
        exact ⟨rfl,hq'⟩
  | loop b =>
    refine wpIn_loop_rounds (k + 1) ?_
    have key : ∀ j, j ≤ k + 1 → ∀ (a : AS) (h : List Blk) (wr : Option Nat), exec C P ro j (.loop b) a h = some (e, a', h', wr) → ∀ {D : Nat → Prop} {m : NMap} {w : World} {act : Act}, Rel B lo D m h w → lo ≤ h.length → WrOk lo wr → AR D m a act → RoR D m ro ro' →
        Code.roundsIn (Fw ro') n P b (ExQ B lo D m h w e a' h') j act w:=by
      intro j
      induction j with
      | zero=>intro _ a h wr hv;simp [exec] at hv
      | succ j ihj =>
        intro hj a h wr hv D m w act hr hlo hw hA hro
        rw [roundsIn_succ]
        simp only [exec] at hv
        cases hx : exec C P ro j b a h with
        | none=>rw [hx] at hv;cases hv
        | some r =>
          obtain ⟨e1,a1,h1,w1⟩:=r
          rw [hx] at hv
          have hother : e1 ≠ .normal → e1 = e ∧ a1 = a' ∧ h1 = h' ∧ w1 = wr:=by
            intro hne
            cases e1<;>first|(exact absurd rfl hne)|simpa using hv
          cases e1 with
          | normal =>
            simp only at hv
            cases hy : exec C P ro j (.loop b) a1 h1 with
            | none=>rw [hy] at hv;cases hv
            | some r =>
              obtain ⟨e2,a2,h2,w2⟩:=r
              rw [hy] at hv
              obtain ⟨rfl,rfl,rfl,rfl⟩ : e2 = e ∧ a2 = a' ∧ h2 = h' ∧ wmin w1 w2 = wr:=by simpa using hv
              obtain ⟨hw1,hw2⟩:=hw.min
              refine wpIn_mono (ih j (by omega) b a h _ a1 h1 w1 hx hr hlo hw1 hA hro) ?_
              rintro e' act' w' ⟨rfl,m1,hp1,hA1⟩
              have:=ihj (by omega) a1 h1 w2 hy hp1.rel (Nat.le_trans hlo hp1.grow) hw2 hA1 (hp1.ror hro)
              exact rounds_mono (fun e'' a'' w'' hq=>hq.then hp1) this
          | _ =>
            obtain ⟨rfl,rfl,rfl,rfl⟩:=hother (by simp)
            refine wpIn_mono (ih j (by omega) b a h _ _ _ _ hx hr hlo hw hA hro) ?_
            rintro e' act' w' hq
            obtain ⟨rfl,hq'⟩:=hq
            exact ⟨rfl,hq'⟩
    exact key (k + 1) (Nat.le_refl _) a h wr hv hr hlo hw hA hro
  | region id ops draw =>
    cases draw with
    | true =>
      simp only [exec] at hv
      cases hx : runDraw C P ops a.tm h with
      | none=>rw [hx] at hv;cases hv
      | some r =>
        obtain ⟨tm1,h1,w1⟩:=r
        rw [hx] at hv
        obtain ⟨rfl,rfl,rfl,rfl⟩ : Exit.normal = e ∧ (⟨tm1,a.df⟩ : AS) = a' ∧ h1 = h' ∧ w1 = wr:=by simpa [liftE] using hv
        exact hDraw hx hr hlo hA.tm hw fun act' w' m' hp hA' hd=>⟨rfl,m',hp,hA',by rw [hd];exact hp.drs hA.df⟩
    | false =>
      simp only [exec] at hv
      split at hv
      · rename_i hreg
        cases hx : runOps C P ops ops.toList a.tm h with
        | none=>rw [hx] at hv;cases hv
        | some r =>
          obtain ⟨tm1,h1,w1⟩:=r
          rw [hx] at hv
          obtain ⟨rfl,rfl,rfl,rfl⟩ : Exit.normal = e ∧ (⟨tm1,a.df⟩ : AS) = a' ∧ h1 = h' ∧ w1 = wr:=by simpa [liftE] using hv
          refine wpIn_region ?_
          have:=runOps_sound (ro:=ro') (n:=n) (Q:=ExQ B lo D m h w .normal ⟨tm1,a.df⟩ h1) hC ops.toList 0 rfl hreg hr hlo hA.tm hx hw fun act' w' m' hp hA' hd=>⟨rfl,m',hp,hA',by rw [hd];exact hp.drs hA.df⟩
          rwa [Array.length_toList,← List.range_eq_range'] at this
      · cases hv
  | rangeFunc g ps assign body =>
    simp only [exec] at hv
    exact runRange_sound hC hr hlo hA hro hv hw
  | _=>simp [exec] at hv
end
end Go.Rex

namespace Go.Rex
open Go.RowKit

section
variable {P : Program} {C : Ctx}

theorem resV_sound {B lo : Nat} {D : Nat → Prop} {m : NMap} {h : List Blk} {w : World} {tm : List Value} {a : Act} {r : ResultVar} {v : Value} (hr : Rel B lo D m h w) (hA : VRs D m tm a.tmps.toList) (hv : resV P h tm r = some v) :
    ∃ v',(match r with|.tmp t=>pure (a.tmps.getD t undef)|.cell x t=>do loadVar t (← asAddr (a.tmps.getD x undef)) : Sem Value).run P w = .ok v' w ∧ VR D m v v':=by
  have getv : ∀ t,VR D m (nth tm t) (a.tmps.getD t undef):=fun t=>ev_vr (x:=.tmp t) hr.gl hA rfl
  cases r with
  | tmp t =>
    obtain rfl:=Option.some.inj hv
    exact ⟨_,rfl,getv t⟩
  | cell x t =>
    simp only [resV] at hv
    split at hv
    · rename_i n o hx
      have h1:=getv x
      rw [hx] at h1
      obtain ⟨hD,h2⟩ : D n ∧ a.tmps.getD x undef = .pointer (some ⟨(m n).block,(m n).off + o,none⟩):=by
        generalize a.tmps.getD x undef = y at *
        cases h1;exact ⟨by assumption,rfl⟩
      obtain ⟨v',h3,h4⟩:=loadV_sound (P:=P) hr hD hv
      refine ⟨v',?_,h4⟩
      simp only [h2,asAddr,Sem.run_bind,Sem.run_pure,Result.andThen_ok,h3]
    · cases hv

theorem resAll_sound {B lo : Nat} {D : Nat → Prop} {m : NMap} {h : List Blk} {w : World} {tm : List Value} {a : Act} (hr : Rel B lo D m h w) (hA : VRs D m tm a.tmps.toList) : ∀ (rs : List ResultVar) (vs : List Value), resAll P h tm rs = some vs → ∀ acc,
    ∃ vs',(List.mapM.loop (fun r : ResultVar=>(match r with|.tmp t=>pure (a.tmps.getD t undef)|.cell x t=>do loadVar t (← asAddr (a.tmps.getD x undef)) : Sem Value)) rs acc).run P w = .ok (acc.reverse ++ vs') w ∧ VRs D m vs vs'
  | [],vs,hv,acc=>by
    obtain rfl : [] = vs:=by simpa [resAll] using hv
    exact ⟨[],by simp [List.mapM.loop],VRs.nil⟩
  | r :: rs,vs,hv,acc=>by
    simp only [resAll] at hv
    split at hv
    · rename_i v h1
      cases h2 : resAll P h tm rs with
      | none=>rw [h2] at hv;cases hv
      | some vs0 =>
        rw [h2] at hv
        obtain rfl : v :: vs0 = vs:=by simpa using hv
        obtain ⟨v',h3,h4⟩:=resV_sound hr hA h1
        obtain ⟨vs',h5,h6⟩:=resAll_sound hr hA rs vs0 h2 (v' :: acc)
        refine ⟨v' :: vs',?_,VRs.cons h4 h6⟩
        simp only [List.mapM.loop,Sem.run_bind,h3,Result.andThen_ok,h5]
        simp
    · cases hv

theorem results_sound {B lo : Nat} {D : Nat → Prop} {m : NMap} {h : List Blk} {w : World} {tm : List Value} {a : Act} {fd : Func} {vs : List Value} (hr : Rel B lo D m h w) (hA : VRs D m tm a.tmps.toList) (hv : resAll P h tm fd.results.toList = some vs) :
    ∃ v',(results fd a.tmps).run P w = .ok v' w ∧ VR D m (oneOf vs) v':=by
  obtain ⟨vs',h1,h2⟩:=resAll_sound hr hA _ _ hv []
  have hm : (fd.results.mapM fun r : ResultVar=>(match r with|.tmp t=>pure (a.tmps.getD t undef)|.cell x t=>do loadVar t (← asAddr (a.tmps.getD x undef)) : Sem Value)).run P w = .ok ⟨vs'⟩ w:=by
    rw [Array.mapM_eq_mapM_toList]
    simp only [List.mapM,Sem.run_map,h1,Result.andThen_ok,List.reverse_nil,List.nil_append]
  refine ⟨if h : (⟨vs'⟩ : Array Value).size = 1 then (⟨vs'⟩ : Array Value)[0] else .tuple ⟨vs'⟩,?_,?_⟩
  · have he : results fd a.tmps = (do
        let vs ← (fd.results.mapM fun r : ResultVar=>(match r with|.tmp t=>pure (a.tmps.getD t undef)|.cell x t=>do loadVar t (← asAddr (a.tmps.getD x undef)) : Sem Value))
        pure (if h : vs.size = 1 then vs[0] else .tuple vs)):=rfl
    rw [he]
    simp only [Sem.run_bind]
    rw [hm]
    rfl
  · cases vs with
    | nil =>
      obtain rfl : vs' = []:=by have:=h2.len;simpa using this
      exact .tuple' h2
    | cons x xs =>
      cases xs with
      | nil =>
        obtain ⟨x',rfl⟩ : ∃ x',vs' = [x']:=by
          have:=h2.len
          match vs',this with
          | [y],_=>exact ⟨y,rfl⟩
        exact h2.at' 0 _ _ rfl rfl
      | cons y ys =>
        rw [dif_neg (by have:=h2.len;simp at this ⊢;omega)]
        exact .tuple' h2

theorem leaves_sound {F : Fence} {n : Nat} {fd : Func} {R : Ending → World → Prop} : ∀ (df : List Nat) {B lo : Nat} {D : Nat → Prop} {m : NMap} {h h' : List Blk} {w : World} {tm : List Value} {a : Act} {wr : Option Nat} {vs : List Value},
    Rel B lo D m h w → VRs D m tm a.tmps.toList → DRs D m df a.defers → takeDefers df h = some (h',wr) → WrOk lo wr → resAll P h' tm fd.results.toList = some vs →
    (∀ v' w',Post B lo D m h w m h' w' → VR D m (oneOf vs) v' → R (.returned v') w') → LeavesInM F n P fd a.tmps R a.defers .returning w
  | [],B,lo,D,m,h,h',w,tm,a,wr,vs,hr,hA,hd,ht,hw,hres,hR=>by
    obtain ⟨rfl,rfl⟩ : h = h' ∧ none = wr:=by simpa [takeDefers] using ht
    rw [hd.eq]
    obtain ⟨v',h1,h2⟩:=results_sound hr hA hres
    exact ⟨v',h1,hR v' w (Post.refl hr) h2⟩
  | x :: df,B,lo,D,m,h,h',w,tm,a,wr,vs,hr,hA,hd,ht,hw,hres,hR=>by
    simp only [takeDefers] at ht
    split at ht
    · rename_i hx
      cases h2 : takeDefers df (h.set x .dead) with
      | none=>rw [h2] at ht;cases ht
      | some r =>
        obtain ⟨h3,w3⟩:=r
        rw [h2] at ht
        obtain ⟨rfl,rfl⟩ : h3 = h' ∧ wmin (some x) w3 = wr:=by simpa using ht
        obtain ⟨hw1,hw2⟩:=hw.min
        have hD:=hd.dom x (by simp)
        have hblk : w.heap[(m x).block]? = some (.deferred (some [])):=hr.ok x _ hD hx
        have hp:=hr.put hD (hw1 x rfl) hx (by simp) (.deferred none) .dead trivial trivial
        have hrel:=hp.rel
        have e : Dx D h.length (h.set x Blk.dead).length = D:=by rw [List.length_set];exact Dx.refl
        rw [e] at hrel
        have hdrest : DRs D m df (df.map fun n=>{ target:=.collected (m n).block,args:=#[] }):=⟨rfl,fun n hn=>hd.dom n (List.mem_cons_of_mem _ hn)⟩
        rw [hd.eq,List.map_cons]
        refine ⟨by simp,.inl ⟨(m x).block,w.putObj (m x).block (.deferred none),rfl,run_takeDeferred hblk,?_⟩⟩
        refine leaves_sound (a:={ tmps:=a.tmps,defers:=df.map fun n=>{ target:=.collected (m n).block,args:=#[] } }) df hrel hA hdrest h2 hw2 hres fun v' w' hp' hv'=>hR v' w' ?_ hv'
        exact hp.trans (by rw [e];exact hp')
    · cases ht

theorem takeDefers_len : ∀ (df : List Nat) (h h' : List Blk) (wr : Option Nat),takeDefers df h = some (h',wr) → h'.length = h.length
  | [],h,h',wr,ht=>by
    obtain ⟨rfl,rfl⟩ : h = h' ∧ none = wr:=by simpa [takeDefers] using ht
    rfl
  | x :: df,h,h',wr,ht=>by
    simp only [takeDefers] at ht
    split at ht
    · cases h2 : takeDefers df (h.set x .dead) with
      | none=>rw [h2] at ht;cases ht
      | some r =>
        obtain ⟨h3,w3⟩:=r
        rw [h2] at ht
        obtain ⟨rfl,rfl⟩ : h3 = h' ∧ wmin (some x) w3 = wr:=by simpa using ht
        rw [takeDefers_len df _ _ _ h2];simp
    · cases ht

/-- a call's end, whatever is forgotten -/
theorem runEnd_sound {F : Fence} {n : Nat} {fd : Func} {B lo : Nat} {D : Nat → Prop} {m m1 : NMap} {h h1 h2 : List Blk} {w w1 : World} {a1 : AS} {act : Act} {w2 : Option Nat} {vs : List Value} {R : Ending → World → Prop}
    (hp : Post B lo D m h w m1 h1 w1) (hA : AR (Dx D h.length h1.length) m1 a1 act) (ht : takeDefers a1.df h1 = some (h2,w2)) (hw : WrOk lo w2) (hres : resAll P h2 a1.tm fd.results.toList = some vs)
    (hR : ∀ v' m' w',Post B lo D m h w m' h2 w' → VR (Dx D h.length h2.length) m' (oneOf vs) v' → R (.returned v') w') : LeavesInM F n P fd act.tmps R act.defers .returning w1:=by
  have hl:=takeDefers_len _ _ _ _ ht
  refine leaves_sound a1.df hp.rel hA.tm hA.df ht hw hres fun v' w' hp2 hv=>hR v' m1 w' (hp.trans hp2) ?_
  rw [hl];exact hv

theorem runCall_sound (hC : CtxOk P C) (hDraw : DrawSound P C) {k : Nat} {f : FuncId} {args : List Value} {h : List Blk} {v : Value} {h' : List Blk} {wr : Option Nat} (hv : runCall C P k f args h = some (v, h', wr)) {B lo : Nat} {D : Nat → Prop} {m : NMap} {w : World} {args' : List Value}
    (hr : Rel B lo D m h w) (hlo : lo ≤ h.length) (hw : WrOk lo wr) (hargs : VRs D m args args') : Calls P f ⟨args'⟩ w (Good B lo D m h w v h'):=by
  unfold runCall at hv
  split at hv
  · cases hv
  · rename_i fd hfd
    split at hv
    · cases hv
    · rename_i c hc
      split at hv
      · rename_i e a1 h1 w1 hx
        have hA0 : ∀ {B lo : Nat},AR D m ⟨args ++ List.replicate (fd.ntmps - args.length) undef,[]⟩ { tmps:=⟨args'⟩ ++ Array.replicate (fd.ntmps - (⟨args'⟩ : Array Value).size) undef,defers:=[] }:=fun {_ _}=>by
          refine ⟨?_,⟨rfl,fun n hn=>by simp at hn⟩⟩
          have : (⟨args'⟩ : Array Value).size = args.length:=hargs.len
          rw [this]
          simp only [Array.toList_append,Array.toList_replicate]
          exact hargs.append (VRs.replicate VR.undef _)
        -- both ends alike
        have main : (e = .normal ∨ e = .ret) → runEnd P fd h.length h a1 h1 w1 = some (v,h',wr) → Calls P f ⟨args'⟩ w (Good B lo D m h w v h'):=by
          intro he hend
          unfold runEnd at hend
          split at hend
          · rename_i h2 w2 ht
            split at hend
            · rename_i vs hres
              -- run with a base and a bound
              have go : ∀ (B' lo' : Nat),Rel B' lo' D m h w → lo' ≤ h.length → WrOk lo' (wmin w1 w2) → Calls P f ⟨args'⟩ w (fun e w'=>∃ v' m',e = .returned v' ∧ Post B' lo' D m h w m' h2 w' ∧ VR (Dx D h.length h2.length) m' (oneOf vs) v'):=by
                intro B' lo' hr' hlo' hw'
                obtain ⟨hw1,hw2⟩:=hw'.min
                refine (callsIn_wide (n:=10)).1 (callsIn_of_wp_marks hfd hc trivial ?_ rfl)
                refine wpIn_mono (F:=Fence.wide) (exec_sound (ro':=none) hC hDraw k c _ h e a1 h1 w1 hx hr' hlo' hw1 (hA0 (B:=B') (lo:=lo')) rfl) ?_
                rintro e' act' w' ⟨rfl,m1,hp,hA1⟩
                have:=runEnd_sound (P:=P) (F:=Fence.wide) (n:=10) (fd:=fd) (R:=fun e w'=>∃ v' m',e = .returned v' ∧ Post B' lo' D m h w m' h2 w' ∧ VR (Dx D h.length h2.length) m' (oneOf vs) v') hp hA1 ht hw2 hres fun v' m' w' hp2 hv2=>⟨v',m',rfl,hp2,hv2⟩
                rcases he with rfl|rfl<;>exact this
              split at hend
              · rename_i hcl
                split at hend
                · rename_i hge
                  obtain ⟨rfl,rfl,rfl⟩ : oneOf vs = v ∧ h = h' ∧ none = wr:=by simpa using hend
                  refine (go w.heap.size h.length (hr.still h.length (Nat.le_refl _)) (Nat.le_refl _) (wge_ok hge)).mono ?_
                  rintro e' w' ⟨v',m',rfl,hp,hvr⟩
                  have hcv:=hvr.eq_of_clean depth _ _ hcl
                  refine ⟨v',m,rfl,Post.frame hr hp.below,?_⟩
                  rw [hcv]
                  exact VR.of_clean depth _ hcl
                · obtain ⟨rfl,rfl,rfl⟩ : oneOf vs = v ∧ h2 = h' ∧ wmin w1 w2 = wr:=by simpa using hend
                  exact go B lo hr hlo hw
              · split at hend
                · rename_i hge
                  obtain ⟨rfl,rfl,rfl⟩ : oneOf vs = v ∧ h2 = h' ∧ none = wr:=by simpa using hend
                  exact go B lo hr hlo fun n hn=>Nat.le_trans hlo (wge_ok hge n hn)
                · obtain ⟨rfl,rfl,rfl⟩ : oneOf vs = v ∧ h2 = h' ∧ wmin w1 w2 = wr:=by simpa using hend
                  exact go B lo hr hlo hw
            · cases hend
          · cases hend
        split at hv
        · exact main (.inl rfl) hv
        · exact main (.inr rfl) hv
        · cases hv
      · cases hv

theorem setArgs_vr {D : Nat → Prop} {m : NMap} : ∀ (ps : List Tmp) (vs vs' tm : List Value) (tm' : Array Value), VRs D m vs vs' → VRs D m tm tm'.toList →
    VRs D m (setArgs ps vs tm) ((ps.zip vs').foldl (fun tmps (x : Tmp × Value)=>tmps.setIfInBounds x.1 x.2) tm').toList
  | [],vs,vs',tm,tm',hv,ht=>by cases vs<;>exact ht
  | p :: ps,[],vs',tm,tm',hv,ht=>by
    obtain rfl : vs' = []:=by have:=hv.len;simpa using this
    exact ht
  | p :: ps,v :: vs,vs',tm,tm',hv,ht=>by
    obtain ⟨v',rest,rfl⟩ : ∃ v' rest,vs' = v' :: rest:=by
      have h1:=hv.len
      cases vs' with
      | nil=>simp at h1
      | cons a b=>exact ⟨a,b,rfl⟩
    have hx : VR D m v v':=hv.at' 0 _ _ rfl rfl
    have hs : VRs D m vs rest:=⟨by have:=hv.len;simpa using this,fun i x x' h h'=>hv.at' (i + 1) _ _ (by simpa using h) (by simpa using h')⟩
    simp only [setArgs,List.zip_cons_cons,List.foldl_cons]
    refine setArgs_vr ps vs rest _ _ hs ?_
    simp only [Array.toList_setIfInBounds]
    exact ht.set p hx

theorem runRound_sound (hC : CtxOk P C) (hDraw : DrawSound P C) {k : Nat} {l : Nat} {args : List Value} {h : List Blk} {v : Value} {h' : List Blk} {wr : Option Nat} (hv : runRound C P k l args h = some (v, h', wr)) {B lo : Nat} {D : Nat → Prop} {m : NMap} {w : World} {args' : List Value}
    (hr : Rel B lo D m h w) (hlo : lo ≤ h.length) (hw : WrOk lo wr) (hD : D l) (hargs : VRs D m args args') :
    ∃ fn tmps assign body,(Instr.yield (m l).block ⟨args'⟩).run P w = .ok (.round (m l).block fn tmps assign body) w ∧ ∀ n,RoundIn Fence.wide n P (m l).block fn tmps assign body w (Good B lo D m h w v h'):=by
  unfold runRound at hv
  split at hv
  · rename_i st pend tmps ps assign body d hl
    split at hv
    · rename_i hcond
      obtain ⟨rfl,hlen⟩:=hcond
      obtain ⟨hDd,fn,tmps',hh,htm⟩:=hr.ok l _ hD hl
      have hy:=run_yield (P:=P) (args:=⟨args'⟩) hh (by show args'.length = ps.size;rw [hargs.len,hlen])
      refine ⟨fn,_,assign,body,hy,fun n=>?_⟩
      split at hv
      · rename_i e a1 h1 w1 hx
        split at hv
        · split at hv
          · rename_i st1 pend1 t1 p1 as1 bd1 d1 hl1
            split at hv
            · rename_i hst1
              subst hst1
              split at hv
              · rename_i e2 a2 h2 w2 hx2
                have hv2 : ∃ jump,roundEnd l jump h2 (wmin w1 w2) = some (v,h',wr) ∧ ((e2 = .normal ∧ jump = none) ∨ (e2 = .ret ∧ jump = some .ret) ∨ (∃ id,e2 = .exit id ∧ jump = some (.exit id))):=by
                  split at hv
                  · exact ⟨_,hv,.inl ⟨rfl,rfl⟩⟩
                  · exact ⟨_,hv,.inr (.inl ⟨rfl,rfl⟩)⟩
                  · exact ⟨_,hv,.inr (.inr ⟨_,rfl,rfl⟩)⟩
                  · cases hv
                clear hv
                obtain ⟨jump,hend,hjump⟩:=hv2
                unfold roundEnd at hend
                split at hend
                · rename_i st3 pend3 t3 p3 as3 b3 d3 hl3
                  obtain ⟨rfl,rfl,rfl⟩ : Value.bool jump.isNone = v ∧ _ = h' ∧ wmin (some l) (wmin w1 w2) = wr:=by simpa using hend
                  obtain ⟨hwl,hw12⟩:=hw.min
                  obtain ⟨hw1,hw2⟩:=hw12.min
                  have hlol:=hwl l rfl
                  have hA0 : AR D m ⟨setArgs ps.toList args tmps,[]⟩ { tmps:=(ps.zip ⟨args'⟩).foldl (fun tmps (x : Tmp × Value)=>tmps.setIfInBounds x.1 x.2) ⟨tmps'⟩,defers:=[] }:=by
                    refine ⟨?_,⟨rfl,fun n hn=>by simp at hn⟩⟩
                    have:=setArgs_vr (D:=D) (m:=m) ps.toList args args' tmps ⟨tmps'⟩ hargs htm
                    have e : (ps.zip (⟨args'⟩ : Array Value)).foldl (fun tmps (x : Tmp × Value)=>tmps.setIfInBounds x.1 x.2) (⟨tmps'⟩ : Array Value) = (ps.toList.zip args').foldl (fun tmps (x : Tmp × Value)=>tmps.setIfInBounds x.1 x.2) ⟨tmps'⟩:=by
                      rw [← Array.foldl_toList];simp
                    rw [e];exact this
                  refine roundIn_of_wpIn (F:=Fence.wide) trivial ?_
                  have hro : RoR D m (some l) (some (m l).block):=⟨hD,rfl⟩
                  refine wpIn_mono (F:=Fence.wide.inRound (m l).block) (exec_sound (ro':=some (m l).block) hC hDraw k assign _ h _ a1 h1 w1 hx hr hlo hw1 hA0 hro) ?_
                  rintro e' act1 W1 ⟨rfl,m1,hp1,hA1⟩
                  have hr1:=hp1.rel
                  have hD1 : Dx D h.length h1.length l:=.inl hD
                  have hm1:=hp1.agree l hD
                  obtain ⟨hDd1,fn1,tmps1,hh1,htm1⟩:=hr1.ok l _ hD1 hl1
                  have hb:=run_beginRound (P:=P) hh1 rfl
                  rw [hm1] at hb hh1
                  refine ⟨_,hb,?_⟩
                  have hput:=hr1.put hD1 hlol hl1 (by simp) (.loop { state:=.busy,pending:=pend1,fn:=fn1,tmps:=⟨tmps1⟩,params:=p1,assign:=as1,body:=bd1,defers:=(m1 d1).block }) (.loop .busy pend1 t1 p1 as1 bd1 d1)
                    ⟨hDd1,fn1,tmps1,World.putObj_heap_same (by rw [hm1];exact (Array.getElem?_eq_some_iff.1 hh1).1),htm1⟩ trivial
                  rw [hm1] at hput
                  have hp2:=hp1.trans hput
                  have hA2 : AR (Dx (Dx D h.length h1.length) h1.length (h1.set l (.loop .busy pend1 t1 p1 as1 bd1 d1)).length) m1 a1 act1:=⟨hput.vrs hA1.tm,hput.drs hA1.df⟩
                  have hro2:=hput.ror (hp1.ror hro)
                  refine wpIn_mono (F:=Fence.wide.inRound (m l).block) (exec_sound (ro':=some (m l).block) hC hDraw k body a1 _ e2 a2 h2 w2 hx2 hput.rel (by simp;exact Nat.le_trans hlo hp1.grow) hw2 hA2 hro2) ?_
                  rintro e3 act3 W3 ⟨rfl,m3,hp3,hA3⟩
                  have hp4:=hp2.trans (by rw [← Dx.trans hp1.grow hput.grow];exact hp3)
                  have hr3:=hp4.rel
                  have hD3 : Dx D h.length h2.length l:=.inl hD
                  have hm3:=hp4.agree l hD
                  obtain ⟨hDd3,fn3,tmps3,hh3,htm3⟩:=hr3.ok l _ hD3 hl3
                  rw [hm3] at hh3
                  have hfin : ∃ v' w',(Instr.endRound (m l).block jump).run P W3 = .ok v' w' ∧ Good B lo D m h w (.bool jump.isNone) (h2.set l (.loop (if jump.isNone then .ready else .done) jump t3 p3 as3 b3 d3)) (.returned v') w':=by
                    have he:=run_endRound (P:=P) jump hh3
                    have hput3:=hr3.put hD3 hlol hl3 (by simp) (.loop { state:=if jump.isNone then .ready else .done,pending:=jump,fn:=fn3,tmps:=⟨tmps3⟩,params:=p3,assign:=as3,body:=b3,defers:=(m3 d3).block })
                      (.loop (if jump.isNone then .ready else .done) jump t3 p3 as3 b3 d3) ⟨hDd3,fn3,tmps3,World.putObj_heap_same (by rw [hm3];exact (Array.getElem?_eq_some_iff.1 hh3).1),htm3⟩ trivial
                    rw [hm3] at hput3
                    exact ⟨_,_,he,_,m3,rfl,hp4.trans hput3,.bool _⟩
                  rcases hjump with ⟨rfl,rfl⟩|⟨rfl,rfl⟩|⟨id,rfl,rfl⟩<;>exact hfin
                · cases hend
              · cases hv
            · cases hv
          · cases hv
        · cases hv
      · cases hv
    · cases hv
  · cases hv

/-- with each depth more -/
theorem ctx_ok (hDraw : ∀ C,CtxOk P C → DrawSound P C) (k : Nat) : ∀ d,CtxOk P (ctx P k d)
  | 0=>⟨fun h=>by simp [ctx] at h,fun h=>by simp [ctx] at h⟩
  | d + 1=>⟨fun h=>runCall_sound (ctx_ok hDraw k d) (hDraw _ (ctx_ok hDraw k d)) h,fun h=>runRound_sound (ctx_ok hDraw k d) (hDraw _ (ctx_ok hDraw k d)) h⟩
end
end Go.Rex

namespace Go.Rex
open Go.RowKit

/-! ### what the checks of a region say -/
theorem nthN_eq : ∀ (l : List Nat) (n : Nat),nthN l n = l[n]?.getD 0
  | [],n=>by simp [nthN]
  | v :: l,0=>by simp [nthN]
  | v :: l,n + 1=>by simp [nthN,nthN_eq l n]

theorem masks_spec : ∀ (l : List Oper) (acc : List Nat),∃ r,masks l acc = acc ++ r ∧ r.length = l.length ∧ ∀ j o,l[j]? = some o → r[j]? = some (waits (acc ++ r.take j) o.after.toList)
  | [],acc=>⟨[],by simp [masks],rfl,fun j o h=>by simp at h⟩
  | o :: l,acc=>by
    obtain ⟨r,h1,h2,h3⟩:=masks_spec l (acc ++ [waits acc o.after.toList])
    refine ⟨waits acc o.after.toList :: r,?_,by simp [h2],fun j o' hj=>?_⟩
    · simp only [masks];rw [h1];simp
    · cases j with
      | zero=>simp at hj;subst hj;simp
      | succ j =>
        simp only [List.getElem?_cons_succ] at hj
        have:=h3 j o' hj
        simp only [List.getElem?_cons_succ,this,List.take_succ_cons]
        simp

theorem waits_testBit {ms : List Nat} : ∀ (es : List Edge) (j : Nat),(waits ms es).testBit j = true ↔ ∃ e ∈ es,Region.binds .any e = true ∧ (e.on = j ∨ (nthN ms e.on).testBit j = true)
  | [],j=>by simp [waits]
  | e :: es,j=>by
    simp only [waits]
    split
    · rename_i hb
      simp only [Nat.testBit_or,Bool.or_eq_true,waits_testBit es j,Nat.testBit_two_pow,decide_eq_true_eq,List.mem_cons]
      constructor
      · rintro (⟨x,hx,h1,h2⟩|h)
        · exact ⟨x,.inr hx,h1,h2⟩
        · exact ⟨e,.inl rfl,hb,h⟩
      · rintro ⟨x,rfl|hx,h1,h2⟩
        · exact .inr h2
        · exact .inl ⟨x,hx,h1,h2⟩
    · rename_i hb
      rw [waits_testBit es j]
      constructor
      · rintro ⟨x,hx,h1,h2⟩;exact ⟨x,List.mem_cons_of_mem _ hx,h1,h2⟩
      · rintro ⟨x,hx,h1,h2⟩
        rcases List.mem_cons.1 hx with rfl|hx
        · exact absurd h1 hb
        · exact ⟨x,hx,h1,h2⟩

theorem mem_dsts : ∀ (l : List Oper) (k d i : Nat),(d,i) ∈ dsts l k ↔ ∃ j o,i = k + j ∧ l[j]? = some o ∧ o.dst = some d
  | [],k,d,i=>by simp [dsts]
  | o :: l,k,d,i=>by
    have ih:=mem_dsts l (k + 1) d i
    have shift : (∃ j o',i = k + j ∧ (o :: l)[j]? = some o' ∧ o'.dst = some d) ↔ (i = k ∧ o.dst = some d) ∨ ∃ j o',i = k + 1 + j ∧ l[j]? = some o' ∧ o'.dst = some d:=by
      constructor
      · rintro ⟨j,o',h1,h2,h3⟩
        cases j with
        | zero=>simp at h2;subst h2;exact .inl ⟨h1,h3⟩
        | succ j=>exact .inr ⟨j,o',by omega,by simpa using h2,h3⟩
      · rintro (⟨h1,h2⟩|⟨j,o',h1,h2,h3⟩)
        · exact ⟨0,o,h1,by simp,h2⟩
        · exact ⟨j + 1,o',by omega,by simpa using h2,h3⟩
    rw [shift]
    simp only [dsts]
    split
    · rename_i d' hd
      rw [List.mem_cons,ih,hd]
      simp only [Prod.mk.injEq,Option.some.injEq]
      constructor
      · rintro (⟨rfl,rfl⟩|h)
        · exact .inl ⟨rfl,rfl⟩
        · exact .inr h
      · rintro (⟨rfl,rfl⟩|h)
        · exact .inl ⟨rfl,rfl⟩
        · exact .inr h
    · rename_i hd
      rw [ih,hd]
      simp
theorem nodupD_spec : ∀ (l : List (Nat × Nat)),nodupD l = true → ∀ d i j,(d,i) ∈ l → (d,j) ∈ l → i = j
  | [],_,d,i,j,h,_=>by simp at h
  | (d',k) :: l,hn,d,i,j,hi,hj=>by
    simp only [nodupD,Bool.and_eq_true,List.all_eq_true] at hn
    obtain ⟨h1,h2⟩:=hn
    rcases List.mem_cons.1 hi with h3|h3<;>rcases List.mem_cons.1 hj with h4|h4
    · cases h3;cases h4;rfl
    · cases h3;have:=h1 _ h4;simp at this
    · cases h4;have:=h1 _ h3;simp at this
    · exact nodupD_spec l h2 d i j h3 h4

theorem eachOk_spec {ops : Array Oper} {ms : List Nat} {ds : List (Nat × Nat)} : ∀ (l : List Oper) (k : Nat),eachOk ops ms ds l k = true → ∀ j o,l[j]? = some o → opsOk o = true ∧ nthN ms (k + j) < 2 ^ (k + j) ∧ ∀ t ∈ o.looksAt ops,lookOk ms (nthN ms (k + j)) (k + j) t ds = true
  | [],k,_,j,o,h=>by simp at h
  | x :: l,k,hk,j,o,h=>by
    simp only [eachOk,Bool.and_eq_true,decide_eq_true_eq,List.all_eq_true] at hk
    obtain ⟨h1,h2,h3,h4⟩:=hk
    cases j with
    | zero=>simp at h;subst h;exact ⟨h1,h2,h3⟩
    | succ j =>
      have:=eachOk_spec l (k + 1) h4 j o (by simpa using h)
      rwa [show k + (j + 1) = k + 1 + j by omega]

/-- the region's facts -/
structure RegF (ops : Array Oper) (ms : List Nat) : Prop where
  ok : ∀ (i : Nat) (o : Oper),ops[i]? = some o → opsOk o = true
  lt : ∀ i j,(nthN ms i).testBit j = true → j < i
  wait : ∀ (i : Nat) (o : Oper),ops[i]? = some o → ∀ j,(nthN ms i).testBit j = true ↔ ∃ e ∈ o.after,Region.binds .any e = true ∧ (e.on = j ∨ (nthN ms e.on).testBit j = true)
  uniq : ∀ (i j : Nat) (o p : Oper) (d : Tmp),ops[i]? = some o → ops[j]? = some p → o.dst = some d → p.dst = some d → i = j
  look : ∀ (i : Nat) (o : Oper) (t : Tmp),ops[i]? = some o → t ∈ o.looksAt ops → ∀ (j : Nat) (p : Oper),ops[j]? = some p → p.dst = some t → j = i ∨ (nthN ms i).testBit j = true ∨ (nthN ms j).testBit i = true
  none : ∀ (i : Nat),ops[i]? = none → nthN ms i = 0

theorem drawOk0_facts {ops : Array Oper} (h : drawOk0 ops = true) : RegF ops (masks ops.toList []):=by
  simp only [drawOk0,Bool.and_eq_true] at h
  obtain ⟨h1,h2⟩:=h
  obtain ⟨r,e1,e2,e3⟩:=masks_spec ops.toList []
  simp only [List.nil_append] at e1 e3
  rw [e1] at h2 ⊢
  have each:=eachOk_spec _ _ h2
  have nth_lt : ∀ i j,(nthN r i).testBit j = true → j < i:=by
    intro i j hj
    cases ho : ops.toList[i]? with
    | none =>
      have : r[i]? = none:=by
        rw [List.getElem?_eq_none_iff] at ho ⊢
        omega
      rw [nthN_eq,this] at hj
      simp at hj
    | some o =>
      have h3:=(each i o ho).2.1
      rw [Nat.zero_add] at h3
      rcases Nat.lt_or_ge j i with h'|h'
      · exact h'
      · have : (nthN r i).testBit j = false:=Nat.testBit_lt_two_pow (Nat.lt_of_lt_of_le h3 (Nat.pow_le_pow_right (by omega) h'))
        rw [this] at hj;cases hj
  have wait : ∀ (i : Nat) (o : Oper),ops[i]? = some o → ∀ j,(nthN r i).testBit j = true ↔ ∃ e ∈ o.after,Region.binds .any e = true ∧ (e.on = j ∨ (nthN r e.on).testBit j = true):=by
    intro i o ho j
    have h3:=e3 i o (by simpa using ho)
    have h4 : nthN r i = waits (r.take i) o.after.toList:=by rw [nthN_eq,h3];rfl
    have hon : ∀ e ∈ o.after,Region.binds .any e = true → e.on < i:=fun e he hb=>by
      refine nth_lt i e.on ?_
      rw [h4,waits_testBit]
      exact ⟨e,by simpa using he,hb,.inl rfl⟩
    have htk : ∀ k,k < i → nthN (r.take i) k = nthN r k:=fun k hk=>by rw [nthN_eq,nthN_eq,List.getElem?_take,if_pos hk]
    rw [h4,waits_testBit]
    constructor
    · rintro ⟨e,he,hb,hx⟩
      have he' : e ∈ o.after:=by simpa using he
      exact ⟨e,he',hb,by rwa [htk _ (hon e he' hb)] at hx⟩
    · rintro ⟨e,he,hb,hx⟩
      exact ⟨e,by simpa using he,hb,by rwa [htk _ (hon e he hb)]⟩
  refine ⟨fun i o ho=>(each i o (by simpa using ho)).1,nth_lt,wait,?_,?_,?_⟩
  · intro i j o p d ho hp hd hd'
    refine nodupD_spec _ h1 d i j ?_ ?_
    · rw [mem_dsts];exact ⟨i,o,by simp,by simpa using ho,hd⟩
    · rw [mem_dsts];exact ⟨j,p,by simp,by simpa using hp,hd'⟩
  · intro i o t ho ht j p hp hd
    have h3:=(each i o (by simpa using ho)).2.2 t ht
    rw [Nat.zero_add] at h3
    unfold lookOk at h3
    have:=List.all_eq_true.1 h3 (t,j) (by rw [mem_dsts];exact ⟨j,p,by simp,by simpa using hp,hd⟩)
    simp only [bne_self_eq_false,Bool.false_or,Bool.or_eq_true,beq_iff_eq] at this
    rcases this with (h|h)|h
    · exact .inl h
    · exact .inr (.inl h)
    · exact .inr (.inr h)
  · intro i hi
    have : r[i]? = none:=by
      have : ops.toList[i]? = none:=by simpa using hi
      rw [List.getElem?_eq_none_iff] at this ⊢
      omega
    rw [nthN_eq,this];rfl

theorem drawOk_facts {ops : Array Oper} (h : drawOk ops = true) : RegF ops (masks ops.toList []):=by
  simp only [drawOk,Bool.and_eq_true] at h
  exact drawOk0_facts h.1
theorem freeOk_facts {ops : Array Oper} (h : freeOk ops = true) : RegF ops (masks ops.toList []):=by
  simp only [freeOk,Bool.and_eq_true] at h
  exact drawOk0_facts h.1

/-- waiting is transitive -/
theorem RegF.trans {ops : Array Oper} {ms : List Nat} (F : RegF ops ms) : ∀ (i j k : Nat),(nthN ms i).testBit j = true → (nthN ms j).testBit k = true → (nthN ms i).testBit k = true:=by
  intro i
  induction i using Nat.strongRecOn with
  | _ i ih =>
  intro j k hj hk
  cases ho : ops[i]? with
  | none=>rw [F.none i ho] at hj;simp at hj
  | some o =>
    obtain ⟨e,he,hb,hx⟩:=(F.wait i o ho j).1 hj
    refine (F.wait i o ho k).2 ⟨e,he,hb,.inr ?_⟩
    rcases hx with rfl|hx
    · exact hk
    · have : e.on < i:=F.lt i e.on ((F.wait i o ho e.on).2 ⟨e,he,hb,.inl rfl⟩)
      exact ih e.on this j k hx hk
end Go.Rex

namespace Go.Rex
open Go.RowKit

/-! ### what an operation touches -/
theorem newH_some' {r : Option (Value × List Blk)} {v : Value} {h1 : List Blk} {w1 : Option Nat} (h : newH r = some (v,h1,w1)) : r = some (v,h1) ∧ w1 = none:=by
  unfold newH at h
  cases r with
  | none=>cases h
  | some p=>obtain ⟨a,b⟩:=p;simp at h;obtain ⟨rfl,rfl,rfl⟩:=h;exact ⟨rfl,rfl⟩

theorem hop_mk {P : Program} {ρ : Operand → Value} {o : Oper} {h h1 : List Blk} {v : Value} {w1 : Option Nat} (ht : touch ρ o = some .mk) (hv : hop P ρ o h = some (v, h1, w1)) :
    w1 = none ∧ ∃ nb,h1 = h ++ nb ∧ ∀ h2 : List Blk,h2.length = h.length → hop P ρ o h2 = some (v,h2 ++ nb,none):=by
  obtain ⟨dst,op,ty,pos,after,guard⟩:=o
  cases op<;>simp only [touch] at ht<;>simp only [hop] at hv ⊢
  case alloc e =>
    split at hv
    · rename_i i hi
      split at hv
      · rename_i z hz
        split at hv
        · rename_i hc
          obtain ⟨rfl,rfl,rfl⟩ : _ = v ∧ _ = h1 ∧ none = w1:=by simpa using hv
          exact ⟨rfl,_,rfl,fun h2 hl=>by simp [hc,hl]⟩
        · cases hv
      · cases hv
    · cases hv
  case box e x =>
    obtain ⟨rfl,rfl,rfl⟩ : _ = v ∧ _ = h1 ∧ none = w1:=by simpa using hv
    exact ⟨rfl,_,rfl,fun h2 hl=>by simp [hl]⟩
  case buildSlice t n ps =>
    obtain ⟨hv2,rfl⟩:=newH_some' hv
    clear hv
    have hv:=hv2
    refine ⟨rfl,?_⟩
    unfold buildSliceV at hv ⊢
    split at hv
    · rename_i e he
      split at hv
      · rename_i hc
        split at hv
        · rename_i z hz
          cases hf : Instr.fill (fun i=>some (i * P.cellsOf e,P.cellsOf e)) (zeroRow z (n * P.cellsOf e)) (mapParts ρ ps).toList with
          | none=>rw [hf] at hv;cases hv
          | some c =>
            rw [hf] at hv
            simp only [Option.bind_some] at hv
            split at hv
            · rename_i hsz
              obtain ⟨rfl,rfl⟩ : _ = v ∧ _ = h1:=by simpa using hv
              refine ⟨_,rfl,fun h2 hl=>?_⟩
              simp [hc,hsz,hl,newH]
            · cases hv
        · cases hv
      · cases hv
    · cases hv
  case makeSlice t l c =>
    obtain ⟨hv2,rfl⟩:=newH_some' hv
    clear hv
    have hv:=hv2
    refine ⟨rfl,?_⟩
    unfold makeSliceV at hv ⊢
    split at hv
    · split at hv
      · split at hv
        · rename_i hc
          split at hv
          · obtain ⟨rfl,rfl⟩ : _ = v ∧ _ = h1:=by simpa using hv
            refine ⟨_,rfl,fun h2 hl=>?_⟩
            clear hv hv2
            simp_all [newH]
          · cases hv
        · cases hv
      · cases hv
    · cases hv
  case makeMap t r =>
    cases r with
    | some _=>cases hv
    | none =>
      obtain ⟨rfl,rfl,rfl⟩ : _ = v ∧ _ = h1 ∧ none = w1:=by simpa using hv
      exact ⟨rfl,_,rfl,fun h2 hl=>by simp [hl]⟩
  case binOp op t x y u =>
    cases hl : nilBin P op t (ρ x) (ρ y) with
    | none=>rw [hl] at hv;cases hv
    | some v0 =>
      rw [hl] at hv
      obtain ⟨rfl,rfl,rfl⟩ : v0 = v ∧ h = h1 ∧ none = w1:=by simpa using hv
      exact ⟨rfl,[],by simp,fun h2 _=>by simp⟩
  case lookup t x k ok =>
    split at ht
    · cases ht
    · rename_i hp
      cases hl : lookupV P t (ρ x) (ρ k) ok h with
      | none=>rw [hl] at hv;cases hv
      | some v0 =>
        rw [hl] at hv
        obtain ⟨rfl,rfl,rfl⟩ : v0 = v ∧ h = h1 ∧ none = w1:=by simpa using hv
        refine ⟨rfl,[],by simp,fun h2 _=>?_⟩
        have : entriesOf h2 (ρ x) = entriesOf h (ρ x):=by
          unfold entriesOf
          split
          · rfl
          · rename_i n hx;rw [hx] at hp;cases hp
          · rfl
        have e : lookupV P t (ρ x) (ρ k) ok h2 = lookupV P t (ρ x) (ρ k) ok h:=by unfold lookupV;rw [this]
        rw [e,hl];simp
  case load t a=>cases hp : ptrName (ρ a)<;>rw [hp] at ht<;>cases ht
  case slice t x lo hi mx=>cases hp : ptrName (ρ x)<;>rw [hp] at ht<;>cases ht
  case store t a x=>cases hp : ptrName (ρ a)<;>rw [hp] at ht<;>cases ht
  case mapUpdate t x k u=>cases hp : ptrName (ρ x)<;>rw [hp] at ht<;>cases ht
  case insert t x k u=>cases hp : ptrName (ρ x)<;>rw [hp] at ht<;>cases ht
  case call c => exfalso; repeat' (split at ht)
                 all_goals (cases ht;done)
  all_goals (cases ht;done)

theorem readCells_at {h h2 : List Blk} {n o k : Nat} (he : h2[n]? = h[n]?) : readCells h2 n o k = readCells h n o k:=by unfold readCells;rw [he]
theorem loadV_at {P : Program} {t : TypeId} {h h2 : List Blk} {n o : Nat} (he : h2[n]? = h[n]?) : loadV P t h2 n o = loadV P t h n o:=by unfold loadV;simp only [readCells_at he]

theorem hop_rd {P : Program} {ρ : Operand → Value} {o : Oper} {h h1 : List Blk} {v : Value} {w1 : Option Nat} {n : Nat} (ht : touch ρ o = some (.rd n)) (hv : hop P ρ o h = some (v, h1, w1)) :
    ∃ nb,h1 = h ++ nb ∧ w1 = none ∧ (∀ h2 : List Blk,h2.length = h.length → h2[n]? = h[n]? → hop P ρ o h2 = some (v,h2 ++ nb,none)) ∧ ∃ x ∈ o.op.operands,ptrName (ρ x) = some n:=by
  obtain ⟨dst,op,ty,pos,after,guard⟩:=o
  cases op<;>simp only [touch] at ht<;>simp only [hop,Op.operands] at hv ⊢
  case load t a =>
    split at hv
    · rename_i n0 o0 ha
      rw [ha] at ht
      obtain rfl : n0 = n:=by simpa [ptrName] using ht
      cases hl : loadV P t h n0 o0 with
      | none=>rw [hl] at hv;cases hv
      | some v0 =>
        rw [hl] at hv
        obtain ⟨rfl,rfl,rfl⟩ : v0 = v ∧ h = h1 ∧ none = w1:=by simpa using hv
        refine ⟨[],by simp,rfl,fun h2 _ he=>?_,a,by simp,by rw [ha];rfl⟩
        rw [loadV_at he,hl];simp
    · cases hv
  case slice t x lo hi mx =>
    cases mx with
    | some q =>
      cases hi with
      | none=>cases hv
      | some k =>
        simp only at hv ⊢
        cases hp : ptrName (ρ x) with
        | none=>rw [hp] at ht;cases ht
        | some n0 =>
        rw [hp] at ht
        obtain rfl : n0 = n:=by simpa using ht
        cases hl : slice3V P t (ρ x) (lo.map ρ) (ρ k) (ρ q) h with
        | none=>rw [hl] at hv;cases hv
        | some v0 =>
          rw [hl] at hv
          obtain ⟨rfl,rfl,rfl⟩ : v0 = v ∧ h = h1 ∧ none = w1:=by simpa using hv
          refine ⟨[],by simp,rfl,fun h2 _ he=>?_,x,by simp,hp⟩
          have : slice3V P t (ρ x) (lo.map ρ) (ρ k) (ρ q) h2 = slice3V P t (ρ x) (lo.map ρ) (ρ k) (ρ q) h:=by
            unfold slice3V
            split
            · rename_i hx
              rw [hx] at hp
              simp only [ptrName,Option.some.injEq] at hp
              subst hp
              rw [he]
            · rfl
          rw [this,hl];simp
    | none =>
      simp only at hv ⊢
      cases hp : ptrName (ρ x) with
      | none=>rw [hp] at ht;cases ht
      | some n0 =>
      rw [hp] at ht
      obtain rfl : n0 = n:=by simpa using ht
      cases hl : sliceV P t (ρ x) (lo.map ρ) (hi.map ρ) h with
      | none=>rw [hl] at hv;cases hv
      | some v0 =>
        rw [hl] at hv
        obtain ⟨rfl,rfl,rfl⟩ : v0 = v ∧ h = h1 ∧ none = w1:=by simpa using hv
        refine ⟨[],by simp,rfl,fun h2 _ he=>?_,x,by simp,hp⟩
        have : sliceV P t (ρ x) (lo.map ρ) (hi.map ρ) h2 = sliceV P t (ρ x) (lo.map ρ) (hi.map ρ) h:=by
          unfold sliceV
          split
          · rfl
          · rename_i hx
            rw [hx] at hp
            simp only [ptrName,Option.some.injEq] at hp
            subst hp
            rw [he]
          · rename_i hx
            rw [hx] at hp
            simp only [ptrName,Option.some.injEq] at hp
            subst hp
            rw [he]
          · rfl
        rw [this,hl];simp
  case lookup t x k ok =>
    split at ht
    · rename_i n0 hp
      obtain rfl : n0 = n:=by simpa using ht
      cases hl : lookupV P t (ρ x) (ρ k) ok h with
      | none=>rw [hl] at hv;cases hv
      | some v0 =>
        rw [hl] at hv
        obtain ⟨rfl,rfl,rfl⟩ : v0 = v ∧ h = h1 ∧ none = w1:=by simpa using hv
        refine ⟨[],by simp,rfl,fun h2 _ he=>?_,x,by simp,hp⟩
        have : entriesOf h2 (ρ x) = entriesOf h (ρ x):=by
          unfold entriesOf
          split
          · rfl
          · rename_i n hx
            rw [hx] at hp
            simp only [ptrName,Option.some.injEq] at hp
            subst hp
            rw [he]
          · rfl
        have e : lookupV P t (ρ x) (ρ k) ok h2 = lookupV P t (ρ x) (ρ k) ok h:=by unfold lookupV;rw [this]
        rw [e,hl];simp
    · cases ht
  case store t a x=>cases hp : ptrName (ρ a)<;>rw [hp] at ht<;>cases ht
  case mapUpdate t x k u=>cases hp : ptrName (ρ x)<;>rw [hp] at ht<;>cases ht
  case insert t x k u=>cases hp : ptrName (ρ x)<;>rw [hp] at ht<;>cases ht
  case call c =>
    cases hc : c.callee with
    | value f=>rw [hc] at ht;cases ht
    | invoke x k=>rw [hc] at ht;cases ht
    | builtin b =>
      rw [hc] at ht
      simp only at ht
      by_cases hb : b = .append
      · rw [if_pos hb] at ht
        split at ht
        · rename_i x y hxy
          split at ht
          · rename_i n2 off l c2 hy
            split at ht
            · rename_i hx
              obtain rfl : n2 = n:=by simpa using ht
              simp only [bhop,hc,if_pos hb,hxy,hx,hy] at hv ⊢
              unfold appendV at hv ⊢
              split at hv
              · cases hv
              rename_i st h0
              split at hv
              · rename_i e hu
                split at hv
                · cases hv
                rename_i i hi
                split at hv
                · rename_i hn
                  simp only [srcCells] at hv ⊢
                  cases hr : readCells h n2 off ((l + 1) * i.size) with
                  | none=>rw [hr] at hv;cases hv
                  | some cs =>
                    rw [hr] at hv
                    simp only [Option.map_some] at hv
                    rw [if_neg (by omega)] at hv
                    split at hv
                    · rename_i hcond
                      obtain ⟨rfl,rfl,rfl⟩ : _ = v ∧ _ = h1 ∧ none = w1:=by simpa using hv
                      refine ⟨_,rfl,rfl,fun h2 hl he=>?_,y,by (have hm : y ∈ c.args:=(by rw [← Array.mem_toList_iff,hxy];simp));simp [Call.operands,hm],by rw [hy];rfl⟩
                      rw [readCells_at he,hr]
                      simp only [Option.map_some,hn,if_true]
                      rw [if_neg (by omega),if_pos hcond,hl]
                    · cases hv
                · simp [appendZ] at hv
              · cases hv
            · split at ht<;>cases ht
            · cases ht
          · cases ht
        · cases ht
      · rw [if_neg hb] at ht;cases ht
  all_goals (cases ht;done)

theorem mapSetV_form {P : Program} {t : TypeId} {x k v : Value} {h h' : List Blk} {n : Nat} (hv : mapSetV P t x k v h = some (h', n)) :
    x = .map (some n) ∧ (∃ b0,h[n]? = some b0 ∧ b0 ≠ .dead) ∧ ∃ b,h' = h.set n b ∧ ∀ h2 : List Blk,h2[n]? = h[n]? → mapSetV P t x k v h2 = some (h2.set n b,n):=by
  unfold mapSetV at hv
  split at hv
  · rename_i kt et hm
    split at hv
    · rename_i hc
      split at hv
      · rename_i n0
        split at hv
        · rename_i es clock hn
          split at hv
          · rename_i hchk
            split at hv
            · rename_i i v0 hf
              split at hv
              · rename_i k2 hst
                obtain ⟨rfl,rfl⟩ : _ = h' ∧ n0 = n:=by simpa using hv
                refine ⟨rfl,⟨_,hn,by simp⟩,_,rfl,fun h2 he=>?_⟩
                simp only [mapSetV,hm,hc,he,hn,hchk,hf,hst,and_self,if_true]
              · cases hv
            · rename_i hf
              obtain ⟨rfl,rfl⟩ : _ = h' ∧ n0 = n:=by simpa using hv
              refine ⟨rfl,⟨_,hn,by simp⟩,_,rfl,fun h2 he=>?_⟩
              simp only [mapSetV,hm,hc,he,hn,hchk,hf,and_self,if_true]
            · cases hv
          · cases hv
        · cases hv
      · cases hv
    · cases hv
  · cases hv
theorem storeV_form {P : Program} {t : TypeId} {v : Value} {h h' : List Blk} {n o : Nat} (hv : storeV P t h n o v = some h') :
    (∃ b0,h[n]? = some b0 ∧ b0 ≠ .dead) ∧ ∃ b,h' = h.set n b ∧ ∀ h2 : List Blk,h2[n]? = h[n]? → storeV P t h2 n o v = some (h2.set n b):=by
  unfold storeV at hv
  split at hv
  · rename_i i hi
    split at hv
    · rename_i hs
      unfold writeBlk at hv
      split at hv
      · rename_i es c hn
        split at hv
        · rename_i hc
          obtain rfl:=Option.some.inj hv
          refine ⟨⟨_,hn,by simp⟩,_,rfl,fun h2 he=>?_⟩
          simp only [storeV,hi,hs,if_true,writeBlk,he,hn,hc]
          simp
        · cases hv
      · cases hv
    · cases hv
  · cases hv
theorem hop_wr {P : Program} {ρ : Operand → Value} {o : Oper} {h h1 : List Blk} {v : Value} {w1 : Option Nat} {n : Nat} (ht : touch ρ o = some (.wr n)) (hv : hop P ρ o h = some (v, h1, w1)) :
    w1 = some n ∧ v = undef ∧ (∃ b0,h[n]? = some b0 ∧ b0 ≠ .dead) ∧ (∃ b,h1 = h.set n b ∧ ∀ h2 : List Blk,h2[n]? = h[n]? → hop P ρ o h2 = some (undef,h2.set n b,some n)) ∧ ∃ x ∈ o.op.operands,ptrName (ρ x) = some n:=by
  obtain ⟨dst,op,ty,pos,after,guard⟩:=o
  cases op<;>simp only [touch] at ht<;>simp only [hop,Op.operands] at hv ⊢
  case store t a x =>
    split at hv
    · rename_i n0 o0 ha
      rw [ha] at ht
      obtain rfl : n0 = n:=by simpa [ptrName] using ht
      cases hst : storeV P t h n0 o0 (ρ x) with
      | none=>rw [hst] at hv;cases hv
      | some h' =>
        rw [hst] at hv
        obtain ⟨rfl,rfl,rfl⟩ : undef = v ∧ h' = h1 ∧ some n0 = w1:=by simpa using hv
        obtain ⟨hb,b,rfl,hh⟩:=storeV_form hst
        refine ⟨rfl,rfl,hb,⟨b,rfl,fun h2 he=>?_⟩,a,by simp,by rw [ha];rfl⟩
        rw [hh h2 he];rfl
    · cases hv
  case mapUpdate t x k u =>
    cases hl : mapSetV P t (ρ x) (ρ k) (ρ u) h with
    | none=>rw [hl] at hv;cases hv
    | some q =>
      obtain ⟨h',n0⟩:=q
      rw [hl] at hv
      obtain ⟨rfl,rfl,rfl⟩ : undef = v ∧ h' = h1 ∧ some n0 = w1:=by simpa using hv
      obtain ⟨hx,hb,b,rfl,hh⟩:=mapSetV_form hl
      rw [hx] at ht
      obtain rfl : n0 = n:=by simpa [ptrName] using ht
      refine ⟨rfl,rfl,hb,⟨b,rfl,fun h2 he=>?_⟩,x,by simp,by rw [hx];rfl⟩
      rw [hh h2 he];rfl
  case insert t x k u =>
    cases hl : mapSetV P t (ρ x) (ρ k) (ρ u) h with
    | none=>rw [hl] at hv;cases hv
    | some q =>
      obtain ⟨h',n0⟩:=q
      rw [hl] at hv
      obtain ⟨rfl,rfl,rfl⟩ : undef = v ∧ h' = h1 ∧ some n0 = w1:=by simpa using hv
      obtain ⟨hx,hb,b,rfl,hh⟩:=mapSetV_form hl
      rw [hx] at ht
      obtain rfl : n0 = n:=by simpa [ptrName] using ht
      refine ⟨rfl,rfl,hb,⟨b,rfl,fun h2 he=>?_⟩,x,by simp,by rw [hx];rfl⟩
      rw [hh h2 he];rfl
  case load t a=>cases hp : ptrName (ρ a)<;>rw [hp] at ht<;>cases ht
  case slice t x lo hi mx=>cases hp : ptrName (ρ x)<;>rw [hp] at ht<;>cases ht
  case lookup t x k ok=>split at ht<;>cases ht
  case call c => exfalso; repeat' (split at ht)
                 all_goals (cases ht;done)
  all_goals (cases ht;done)
/-- an append to a name that was there -/
theorem hop_ap {P : Program} {ρ : Operand → Value} {o : Oper} {h h1 : List Blk} {v : Value} {w1 : Option Nat} {n n2 : Nat} (ht : touch ρ o = some (.ap n n2)) (hv : hop P ρ o h = some (v, h1, w1)) :
    w1 = some n ∧ n ≠ n2 ∧ (∃ b0,h[n]? = some b0 ∧ b0 ≠ .dead) ∧ (∃ b nb,h1 = h.set n b ++ nb ∧ (∀ h2 : List Blk,h2.length = h.length → h2[n]? = h[n]? → h2[n2]? = h[n2]? → hop P ρ o h2 = some (v,h2.set n b ++ nb,some n))) ∧
      (∃ x y at_ dst ty pos after guard,o = { dst:=dst,op:=.call { callee:=.builtin .append,args:=#[x,y],argTypes:=at_ },type:=ty,pos:=pos,after:=after,guard:=guard } ∧ ptrName (ρ x) = some n ∧ ptrName (ρ y) = some n2):=by
  obtain ⟨dst,op,ty,pos,after,guard⟩:=o
  cases op<;>simp only [touch] at ht<;>simp only [hop] at hv ⊢
  case call c =>
    obtain ⟨callee,args,argTypes⟩:=c
    cases callee with
    | value f=>cases ht
    | invoke x k=>cases ht
    | builtin b =>
      simp only at ht
      by_cases hb : b = .append
      · subst hb
        rw [if_pos rfl] at ht
        split at ht
        · rename_i x y hxy
          have hargs : args = #[x,y]:=by cases args;simpa using hxy
          subst hargs
          split at ht
          · rename_i n2' off l c2 hy
            split at ht
            · cases ht
            · rename_i n' o' len cap hx
              split at ht
              · cases ht
              · rename_i hne
                obtain ⟨rfl,rfl⟩ : n' = n ∧ n2' = n2:=by simpa using ht
                simp only [bhop,if_true,hx,hy] at hv ⊢
                unfold appendV at hv ⊢
                split at hv
                · cases hv
                rename_i st h0
                split at hv
                · rename_i e hu
                  split at hv
                  · cases hv
                  rename_i i hi
                  split at hv
                  · rename_i hn
                    simp only [srcCells] at hv ⊢
                    cases hr : readCells h n2' off ((l + 1) * i.size) with
                    | none=>rw [hr] at hv;cases hv
                    | some cs =>
                      rw [hr] at hv
                      simp only [Option.map_some] at hv
                      rw [if_neg (by omega)] at hv
                      by_cases hroom : len + (l + 1) ≤ cap
                      · rw [if_pos hroom] at hv
                        cases hw : writeBlk h n' (o' + len * i.size) cs with
                        | none=>rw [hw] at hv;cases hv
                        | some h' =>
                          rw [hw] at hv
                          obtain ⟨rfl,rfl,rfl⟩ : _ = v ∧ h' = h1 ∧ some n' = w1:=by simpa using hv
                          unfold writeBlk at hw
                          split at hw
                          · rename_i es c0 hc0
                            split at hw
                            · rename_i hcc
                              obtain rfl:=Option.some.inj hw
                              refine ⟨rfl,hne,⟨_,hc0,by simp⟩,⟨_,[],by rw [List.append_nil],fun h2 hl he he2=>?_⟩,x,y,_,_,_,_,_,_,rfl,by rw [hx];rfl,by rw [hy];rfl⟩
                              rw [readCells_at he2,hr]
                              simp only [Option.map_some,hn,if_true]
                              rw [if_neg (by omega),if_pos hroom]
                              unfold writeBlk
                              rw [he,hc0]
                              simp only [hcc,and_self,if_true,Option.map_some,List.append_nil]
                            · cases hw
                          · cases hw
                      · rw [if_neg hroom] at hv
                        split at hv
                        · rename_i es c0 hc0
                          split at hv
                          · rename_i hcc
                            obtain ⟨rfl,rfl,rfl⟩ : _ = v ∧ _ = h1 ∧ some n' = w1:=by simpa using hv
                            refine ⟨rfl,hne,⟨_,hc0,by simp⟩,⟨.dead,_,rfl,fun h2 hl he he2=>?_⟩,x,y,_,_,_,_,_,_,rfl,by rw [hx];rfl,by rw [hy];rfl⟩
                            rw [readCells_at he2,hr]
                            simp only [Option.map_some,hn,if_true]
                            rw [if_neg (by omega),if_neg hroom,he,hc0,hl]
                            simp only
                            rw [if_pos hcc]
                          · cases hv
                        · cases hv
                  · simp [appendZ] at hv
                · cases hv
            · cases ht
          · cases ht
        · cases ht
      · rw [if_neg hb] at ht;cases ht
  case load t a=>cases hp : ptrName (ρ a)<;>rw [hp] at ht<;>cases ht
  case slice t x lo hi mx=>cases hp : ptrName (ρ x)<;>rw [hp] at ht<;>cases ht
  case lookup t x k ok=>split at ht<;>cases ht
  case store t a x=>cases hp : ptrName (ρ a)<;>rw [hp] at ht<;>cases ht
  case mapUpdate t x k u=>cases hp : ptrName (ρ x)<;>rw [hp] at ht<;>cases ht
  case insert t x k u=>cases hp : ptrName (ρ x)<;>rw [hp] at ht<;>cases ht
  all_goals (cases ht;done)

/-! ### nothing but one block changes -/
def Only (b : Nat) (w w' : World) : Prop:=w'.os = w.os ∧ w'.tape = w.tape ∧ w'.output = w.output ∧ w'.heap.size = w.heap.size ∧ ∀ k,k ≠ b → w'.heap[k]? = w.heap[k]?
end Go.Rex

namespace Go.Rex
open Go.RowKit

theorem storeV_only {P : Program} {B lo : Nat} {D : Nat → Prop} {m : NMap} {h h' : List Blk} {w : World} (hr : Rel B lo D m h w) {t : TypeId} {n o : Nat} {v v' : Value} (hD : D n) (hl : lo ≤ n) (hw : storeV P t h n o v = some h') (hv : VR D m v v') :
    ∃ w',(storeVar t ⟨(m n).block,(m n).off + o,none⟩ v').run P w = .ok () w' ∧ Post B lo D m h w m h' w' ∧ Only (m n).block w w':=by
  unfold storeV at hw
  split at hw
  · rename_i i hi
    split at hw
    · rename_i hs
      obtain ⟨h1,h2⟩:=writeBlk_sound (P:=P) hr hD hl hw (cells_vr hv)
      have hs' : v'.cells.size = i.size:=by
        have:=(cells_vr hv).len
        simp only [Array.length_toList] at this
        omega
      refine ⟨_,?_,h2,setCells_below _ _ _⟩
      simp [storeVar,sizeOf_run hi,hs',h1]
    · cases hw
  · cases hw
theorem mapSetV_only {P : Program} {B lo : Nat} {D : Nat → Prop} {m : NMap} {h h' : List Blk} {w : World} (hr : Rel B lo D m h w) {t : TypeId} {x x' k k' v v' : Value} {n : Nat} (hx : VR D m x x') (hk : VR D m k k') (hvv : VR D m v v') (hv : mapSetV P t x k v h = some (h', n)) (hl : lo ≤ n) :
    ∃ w',(Instr.mapUpdate t x' k' v').run P w = .ok () w' ∧ Post B lo D m h w m h' w' ∧ Only (m n).block w w':=by
  unfold mapSetV at hv
  split at hv
  · rename_i kt et hm
    split at hv
    · rename_i hc
      obtain ⟨hck,hcl⟩:=hc
      obtain rfl:=hk.eq_of_clean depth _ _ hck
      obtain rfl:=hvv.eq_of_clean depth _ _ hcl
      split at hv
      · rename_i n0
        split at hv
        · rename_i es clock hn
          cases hx
          rename_i hD
          have hb : w.heap[(m n0).block]? = some (.map es clock):=hr.ok n0 _ hD hn
          have hlt : (m n0).block < w.heap.size:=(Array.getElem?_eq_some_iff.1 hb).1
          have hnew : ∀ o : Obj,(w.putObj (m n0).block o).heap[(m n0).block]? = some o:=fun o=>by simp [World.putObj,hlt]
          split at hv
          · rename_i hchk
            have hchk:=prun_run hchk w
            split at hv
            · rename_i i v0 hf
              have hf:=prun_run hf w
              split at hv
              · rename_i k2 hst
                have hst:=prun_run hst w
                obtain ⟨rfl,rfl⟩ : _ = h' ∧ n0 = n:=by simpa using hv
                refine ⟨_,?_,hr.put hD hl hn (by simp) (.map (es.modify i fun e=>{ e with key:=k2,val:=v' }) clock) _ (hnew _) trivial,putObj_below _ _ _⟩
                simp [Instr.mapUpdate,run_underlying hm,MapKept.run_getObj_map hb,hchk,hf,hst,MapKept.run_setObj_map _ hb,Result.andThen,World.putObj]
              · cases hv
            · rename_i hf
              have hf:=prun_run hf w
              obtain ⟨rfl,rfl⟩ : _ = h' ∧ n0 = n:=by simpa using hv
              refine ⟨_,?_,hr.put hD hl hn (by simp) (.map (es.push { key:=k',val:=v',born:=clock }) (clock + 1)) _ (hnew _) trivial,putObj_below _ _ _⟩
              simp [Instr.mapUpdate,run_underlying hm,MapKept.run_getObj_map hb,hchk,hf,MapKept.run_setObj_map _ hb,Result.andThen,World.putObj]
            · cases hv
          · cases hv
        · cases hv
      · cases hv
    · cases hv
  · cases hv

/-- a write: to one block -/
theorem wr_run {P : Program} {B lo : Nat} {D : Nat → Prop} {m : NMap} {h h' : List Blk} {w : World} {ρ ρ' : Operand → Value} {o : Oper} {v : Value} {w1 : Option Nat} {n : Nat} (hr : Rel B lo D m h w)
    (hρ : ∀ x ∈ o.op.operands,VR D m (ρ x) (ρ' x)) (ht : touch ρ o = some (.wr n)) (hv : hop P ρ o h = some (v,h',w1)) (hl : lo ≤ n) :
    ∃ w',(execOp ρ' o).run P w = .ok .skip w' ∧ Post B lo D m h w m h' w' ∧ Only (m n).block w w':=by
  obtain ⟨dst,op,ty,pos,after,guard⟩:=o
  simp only [Op.operands] at hρ
  cases op<;>simp only [touch] at ht<;>simp only [hop] at hv
  case store t a x =>
    split at hv
    · rename_i n0 o0 ha
      rw [ha] at ht
      obtain rfl : n0 = n:=by simpa [ptrName] using ht
      cases hst : storeV P t h n0 o0 (ρ x) with
      | none=>rw [hst] at hv;cases hv
      | some h1 =>
        rw [hst] at hv
        obtain ⟨rfl,rfl,rfl⟩ : undef = v ∧ h1 = h' ∧ some n0 = w1:=by simpa using hv
        have h2:=hρ a (by simp)
        rw [ha] at h2
        obtain ⟨hD,h3⟩ : D n0 ∧ ρ' a = .pointer (some ⟨(m n0).block,(m n0).off + o0,none⟩):=by
          generalize ρ' a = y at *
          cases h2;exact ⟨by assumption,rfl⟩
        obtain ⟨w',h4,h5,h6⟩:=storeV_only (P:=P) hr hD hl hst (hρ x (by simp))
        refine ⟨w',?_,h5,h6⟩
        simp only [execOp,Instr.storeAt,h3,Instr.sureAddr,Sem.run_bind,Sem.run_pure,Result.andThen_ok,h4]
    · cases hv
  case mapUpdate t x k u =>
    cases hq : mapSetV P t (ρ x) (ρ k) (ρ u) h with
    | none=>rw [hq] at hv;cases hv
    | some q =>
      obtain ⟨h1,n0⟩:=q
      rw [hq] at hv
      obtain ⟨rfl,rfl,rfl⟩ : undef = v ∧ h1 = h' ∧ some n0 = w1:=by simpa using hv
      have hx:=(mapSetV_form hq).1
      rw [hx] at ht
      obtain rfl : n0 = n:=by simpa [ptrName] using ht
      obtain ⟨w',h4,h5,h6⟩:=mapSetV_only (P:=P) hr (hρ x (by simp)) (hρ k (by simp)) (hρ u (by simp)) hq hl
      refine ⟨w',?_,h5,h6⟩
      simp only [execOp,Sem.run_bind,h4,Result.andThen_ok,Sem.run_pure]
  case insert t x k u =>
    cases hq : mapSetV P t (ρ x) (ρ k) (ρ u) h with
    | none=>rw [hq] at hv;cases hv
    | some q =>
      obtain ⟨h1,n0⟩:=q
      rw [hq] at hv
      obtain ⟨rfl,rfl,rfl⟩ : undef = v ∧ h1 = h' ∧ some n0 = w1:=by simpa using hv
      have hx:=(mapSetV_form hq).1
      rw [hx] at ht
      obtain rfl : n0 = n:=by simpa [ptrName] using ht
      obtain ⟨w',h4,h5,h6⟩:=mapSetV_only (P:=P) hr (hρ x (by simp)) (hρ k (by simp)) (hρ u (by simp)) hq hl
      refine ⟨w',?_,h5,h6⟩
      simp only [execOp,Sem.run_bind,h4,Result.andThen_ok,Sem.run_pure]
  case load t a=>cases hp : ptrName (ρ a)<;>rw [hp] at ht<;>cases ht
  case slice t x lo hi mx=>cases hp : ptrName (ρ x)<;>rw [hp] at ht<;>cases ht
  case lookup t x k ok=>split at ht<;>cases ht
  case call c => exfalso; repeat' (split at ht)
                 all_goals (cases ht;done)
  all_goals (cases ht;done)


/-- nothing that was there changes but one block -/
def Touch (b : Nat) (w w' : World) : Prop:=Below 0 w w' ∧ ∀ k,k < w.heap.size → k ≠ b → w'.heap[k]? = w.heap[k]?
theorem touch_cells (b o : Nat) (vs : List Value) (w : World) : Touch b w (w.setCells b o vs):=by
  obtain ⟨h1,h2,h3,h4,h5⟩:=setCells_below (b:=b) vs o w
  exact ⟨⟨h1,h2,h3,by omega,fun k hk=>by omega⟩,fun k _ hk=>h5 k hk⟩
theorem touch_new (b : Nat) (x : Obj) (w : World) : Touch b w (w.drew.alloc x):=by
  have h:=((Below.refl w.heap.size w).drew).alloc (Nat.le_refl _) x
  exact ⟨h.mono (Nat.zero_le _),fun k hk _=>h.block k hk⟩
theorem writeBlk_len {h h' : List Blk} {n o : Nat} {vs : List Value} (hw : writeBlk h n o vs = some h') : h'.length = h.length:=by
  unfold writeBlk at hw
  split at hw
  · split at hw
    · obtain rfl:=Option.some.inj hw;simp
    · cases hw
  · cases hw
theorem ap_step {P : Program} {B lo : Nat} {D : Nat → Prop} {m : NMap} {h h' : List Blk} {w : World} (hr : Rel B lo D m h w) (hlo : lo ≤ h.length) {argTypes : Array TypeId} {ty : TypeId} {nm o len c : Nat} {x s' x' v : Value} {wr : Option Nat}
    (hs : VR D m (.slice (some ⟨nm,o,none⟩) len c) s') (hx : VR D m x x') (hv : appendV P argTypes (.slice (some ⟨nm,o,none⟩) len c) x h = some (v,h',wr)) (hw : WrOk lo wr) (hw1 : wr = some nm) :
    ∃ v' w' m',(Builtin.append_ argTypes ty #[s',x']).run P w = .ok v' w' ∧ Post B lo D m h w m' h' w' ∧ VR (Dx D h.length h'.length) m' v v' ∧ Touch (m nm).block w w' ∧ ∀ k,h.length ≤ k → k < h'.length → (m' k).block = (m nm).block ∨ w.heap.size ≤ (m' k).block:=by
  unfold appendV at hv
  split at hv
  · cases hv
  rename_i st h0
  split at hv
  · rename_i e hu
    split at hv
    · cases hv
    rename_i i hi
    split at hv
    · rename_i hn
      split at hv
      · cases hv
      rename_i n new hsrc
      obtain ⟨new',hl,hc,hnv⟩:=srcCells_sound (P:=P) hr hx hsrc
      simp only at hv
      cases hs with
      | slice _ _ _ _ c' hD hlc hcc he =>
        split at hv
        · exfalso
          split at hv
          · obtain ⟨rfl,rfl,rfl⟩ : _ = v ∧ h = h' ∧ none = wr:=by simpa using hv
            cases hw1
          · cases hv
        · rename_i hn0
          split at hv
          · -- there is room
            rename_i hroom
            cases hwb : writeBlk h nm (o + len * i.size) new with
            | none=>rw [hwb] at hv;cases hv
            | some h1 =>
              rw [hwb] at hv
              obtain ⟨rfl,rfl,rfl⟩ : _ = v ∧ h1 = h' ∧ some nm = wr:=by simpa using hv
              obtain ⟨hst,hp⟩:=writeBlk_sound (P:=P) hr hD (hw nm rfl) hwb hnv
              refine ⟨_,_,m,append_in_run h0 hu hi hn hl hc (by omega) ?_,hp,?_,touch_cells _ _ _ _,fun k h1 h2=>by have:=writeBlk_len hwb;omega⟩
              · simp only [addr_add]
                rw [Nat.add_assoc]
                exact hst
              · exact hp.vr (.slice _ _ _ _ _ hD hroom hcc he)
          · -- at the top
            rename_i hroom
            split at hv
            · rename_i es cs hb
              split at hv
              · rename_i hcond
                obtain ⟨rfl,htop,hnl,hone,hsm,hby,hz0⟩:=hcond
                obtain ⟨rfl,rfl,rfl⟩ : _ = v ∧ _ = h' ∧ some nm = wr:=by simpa using hv
                have hlnm : lo ≤ nm:=hw nm rfl
                obtain ⟨z,hz,hzs⟩ : ∃ z,i.zero = some z ∧ z.cells.size = i.size:=by
                  cases hz : i.zero with
                  | none=>rw [hz] at hz0;cases hz0
                  | some z=>rw [hz] at hz0;exact ⟨z,rfl,by simpa using hz0⟩
                have hes : (m nm).es = i.size:=(hr.ok nm _ hD hb).1
                have hext:=(hr.own nm _ hD hlnm hb).1
                rw [hes] at he
                by_cases hin : len + n ≤ c'
                · -- in place
                  have hfit : cs.length + new.length ≤ (m nm).ext:=by
                    rcases he with (h00|h00)|he
                    · rw [hnl,h00];simpa using hext
                    · omega
                    · rw [← htop,hnl,Nat.add_assoc,← Nat.add_mul]
                      exact Nat.le_trans (Nat.add_le_add_left (Nat.mul_le_mul_right _ hin) _) he
                  have hp1:=hr.extend hD hlnm hb hfit hnv
                  have hlt:=hr.dom nm hD
                  have hst : (storeCells ⟨(m nm).block,(m nm).off + cs.length,none⟩ new').run P w = .ok () (w.setCells (m nm).block ((m nm).off + cs.length) new'):=by
                    have hown:=hr.own nm _ hD hlnm hb
                    have hx' : ∀ j,j < new'.length → (∃ u,w.cell? ⟨(m nm).block,(m nm).off + cs.length + j,none⟩ = some u) ∧ w.frozen? ⟨(m nm).block,(m nm).off + cs.length + j,none⟩ = false:=fun j hj=>by
                      rw [hnv.len] at hj
                      rw [Nat.add_assoc]
                      exact hown.2 (cs.length + j) (by omega)
                    have:=run_storeCells_cells (P:=P) (m nm).block ((m nm).off + cs.length) new' 0 w (fun j hj=>by obtain ⟨u,hu⟩:=(hx' j hj).1;simp [hu]) (fun j hj=>by simpa using (hx' j hj).2) (fun x hx=>by
                      obtain ⟨k,hk⟩:=List.mem_iff_getElem?.1 hx
                      have hlt : k < new.length:=by have:=(List.getElem?_eq_some_iff.1 hk).1;rw [hnv.len] at this;exact this
                      exact oneCell_vr (hnv.at' k _ _ (List.getElem?_eq_getElem hlt) hk) (by simpa using (List.all_eq_true.1 hone) _ (List.getElem_mem hlt)))
                    simpa using this
                  have hrel:=hp1.rel
                  rw [show (h.set nm (.cells i.size (cs ++ new))).length = h.length by simp,Dx.refl] at hrel
                  have hp2:=hrel.move (by simpa using hlo) hD hlnm (List.getElem?_set_self hlt) o (by omega)
                  have hp:=hp1.trans (by rw [show (h.set nm (.cells i.size (cs ++ new))).length = h.length by simp,Dx.refl];exact hp2)
                  rw [show (h.set nm (.cells i.size (cs ++ new))).length = h.length by simp] at hp
                  have e1 : ((h.set nm (.cells i.size (cs ++ new))).set nm .dead ++ [Blk.cells i.size ((cs ++ new).drop o)]) = h.set nm .dead ++ [Blk.cells i.size (cs.drop o ++ new)]:=by
                    rw [List.set_set,List.drop_append_of_le_length (by omega)]
                  rw [e1] at hp
                  refine ⟨_,_,_,append_in_run h0 hu hi hn hl hc hin ?_,hp,?_,touch_cells _ _ _ _,fun k h1 h2=>.inl ?_⟩
                  · simp only [addr_add]
                    rw [Nat.add_assoc,htop]
                    exact hst
                  · exact slice_vr' (D := D) (h := h) (h' := h.set nm .dead ++ [Blk.cells i.size (cs.drop o ++ new)]) (m := m) (i := ⟨(m nm).block, (m nm).off + o, (m nm).ext - o, i.size⟩) (l := len + n) (c := len + n) (c' := c') (by simp) (Nat.le_refl _) hin (by
                      show c' * i.size ≤ (m nm).ext - o
                      rcases he with (h00|h00)|he
                      · rw [h00];simp
                      · omega
                      · omega)
                  · have hk : k = h.length:=by simp at h2;omega
                    subst hk
                    rw [upd_same]
                · -- a new array
                  have hrd:=hr.frame (w':=w.drew) ((Below.refl _ _).drew)
                  obtain ⟨new2,hl2,hc2,hnv2⟩:=srcCells_sound (P:=P) hrd hx hsrc
                  have hread : readCells h nm o (len * i.size) = some (cs.drop o):=by
                    unfold readCells
                    rw [hb]
                    simp only []
                    rw [if_pos (by omega),List.take_of_length_le (by simp;omega)]
                  obtain ⟨old',hov,hok,hoc⟩:=readCells_sound hrd hD hread
                  obtain ⟨cap,hcap,hrun⟩:=append_new_run (ty:=ty) (base:=some ⟨(m nm).block,(m nm).off + o,none⟩) (len:=len) (cap:=c') h0 hu hi hn hl hc2 hin hby hsm (old:=old') (loadCells_sound hoc _ (hov.len.trans hok)) hz
                  have hk:=Post.kill hrd nm
                  have hrk:=hrd.kill nm
                  have hp:=(Post.frame hr (w':=w.drew) ((Below.refl _ _).drew)).trans (by rw [Dx.refl];exact hk)
                  have hp:=hp.trans (by
                    rw [show (h.set nm Blk.dead).length = h.length by simp,Dx.refl]
                    exact hrk.pushRoom (by simpa using hlo) i.size (hov.append hnv2) (Builtin.zeroCells z.cells (cap - (len + n))).toList e)
                  refine ⟨_,_,_,hrun,hp,?_,touch_new _ _ _,fun k h1 h2=>.inr ?_⟩
                  rw [show (h.set nm Blk.dead).length = h.length by simp]
                  have hd : (cs.drop o).length = len * i.size:=by simp;omega
                  exact slice_vr' (D:=D) (h:=h) (h':=h.set nm .dead ++ [Blk.cells i.size (cs.drop o ++ new)]) (m:=m) (i:=⟨w.drew.heap.size,0,(cs.drop o ++ new).length + (Builtin.zeroCells z.cells (cap - (len + n))).toList.length,i.size⟩) (l:=len + n) (c:=len + n) (c':=cap) (by simp) (Nat.le_refl _) hcap (by
                    rw [zeroCells_len,hzs,List.length_append,hd,hnl]
                    show cap * i.size ≤ len * i.size + n * i.size + (cap - (len + n)) * i.size
                    rw [← Nat.add_mul,← Nat.add_mul]
                    exact Nat.mul_le_mul_right _ (by omega))
                  · have hk : k = h.length:=by simp at h2;omega
                    subst hk
                    rw [show (h.set nm Blk.dead).length = h.length by simp,upd_same]
                    exact Nat.le_refl _
              · cases hv
            · cases hv
    · simp [appendZ] at hv
  · cases hv

/-- an append: one block, and what is new -/
theorem ap_run {P : Program} {B lo : Nat} {D : Nat → Prop} {m : NMap} {h h' : List Blk} {w : World} {ρ ρ' : Operand → Value} {o : Oper} {v : Value} {w1 : Option Nat} {n n2 : Nat} (hr : Rel B lo D m h w) (hlo : lo ≤ h.length)
    (hρ : ∀ x ∈ o.op.operands,VR D m (ρ x) (ρ' x)) (ht : touch ρ o = some (.ap n n2)) (hv : hop P ρ o h = some (v,h',w1)) (hl : lo ≤ n) :
    ∃ v' w' m',(execOp ρ' o).run P w = .ok (.value v') w' ∧ Post B lo D m h w m' h' w' ∧ VR (Dx D h.length h'.length) m' v v' ∧ Touch (m n).block w w' ∧ ∀ k,h.length ≤ k → k < h'.length → (m' k).block = (m n).block ∨ w.heap.size ≤ (m' k).block:=by
  obtain ⟨rfl,_,_,_,x,y,argTypes,dst,ty,pos,after,guard,rfl,hpx,_⟩:=hop_ap ht hv
  obtain ⟨off,len,cap,hx⟩ : ∃ off len cap,ρ x = .slice (some ⟨n,off,none⟩) len cap:=by
    simp only [touch,if_true] at ht
    split at ht
    · split at ht
      · cases ht
      · rename_i n' o' len cap hx'
        split at ht
        · cases ht
        · obtain ⟨rfl,_⟩ : n' = n ∧ _:=by simpa using ht
          exact ⟨_,_,_,hx'⟩
      · cases ht
    · cases ht
  simp only [hop,bhop,if_true] at hv
  rw [hx] at hv
  have h1:=hρ x (by simp [Op.operands,Call.operands])
  rw [hx] at h1
  obtain ⟨v',w',m',r1,r2⟩:=ap_step (ty:=ty) hr hlo h1 (hρ y (by simp [Op.operands,Call.operands])) hv (fun k hk=>by cases hk;exact hl) rfl
  refine ⟨v',w',m',?_,r2⟩
  have ee : execOp ρ' { dst:=dst,op:=.call { callee:=.builtin .append,args:=#[x,y],argTypes:=argTypes },type:=ty,pos:=pos,after:=after,guard:=guard } = (do pure (.value (← Builtin.append_ argTypes ty #[ρ' x,ρ' y]))):=by
    simp only [execOp,resolve,invoke,List.map_toArray,List.map_cons,List.map_nil]
    rfl
  rw [ee]
  simp only [Sem.run_bind,r1,Result.andThen_ok,Sem.run_pure]

/-- a heap with one name alone -/
def lone (N n : Nat) (x : Blk) : List Blk:=(List.replicate N Blk.dead).set n x
theorem lone_len (N n : Nat) (x : Blk) : (lone N n x).length = N:=by simp [lone]
theorem lone_at {N n : Nat} {x : Blk} (h : n < N) : (lone N n x)[n]? = some x:=by
  unfold lone;rw [List.getElem?_set_self (by simpa using h)]
theorem lone_get {N n k : Nat} {x y : Blk} (h : (lone N n x)[k]? = some y) : (k = n ∧ y = x) ∨ y = .dead:=by
  unfold lone at h
  rw [List.getElem?_set] at h
  split at h
  · split at h
    · exact .inl ⟨by omega,(Option.some.inj h).symm⟩
    · cases h
  · rw [List.getElem?_replicate] at h
    split at h
    · exact .inr (Option.some.inj h).symm
    · cases h
theorem Rel.lone {D : Nat → Prop} {m : NMap} {w : World} {N n : Nat} {x : Blk} (hgl : Gl w.heap.size D m w) (hd : ∀ k,D k → k < N) (hok : BlkOk D m w n x) (hlt : x ≠ .dead → (m n).block < w.heap.size) : Rel w.heap.size N D m (lone N n x) w:=by
  refine ⟨Nat.le_refl _,fun k hk=>by rw [lone_len];exact hd k hk,?_,?_,?_,?_,?_,?_,hgl⟩
  · intro k y hk hy
    rcases lone_get hy with ⟨rfl,rfl⟩|rfl
    · exact hok
    · trivial
  · intro k y hk hy hyd
    rcases lone_get hy with ⟨rfl,rfl⟩|rfl
    · exact hlt hyd
    · exact absurd rfl hyd
  · intro k y hk hl;have:=hd k hk;omega
  · intro k y hk hl hy hyd
    rcases lone_get hy with ⟨rfl,rfl⟩|rfl
    · exact hlt hyd
    · exact absurd rfl hyd
  · intro k y hk hl;have:=hd k hk;omega
  · intro k k' y y' hk hk' hl;have:=hd k hk;omega
theorem Rel.loneW {B lo : Nat} {D : Nat → Prop} {m : NMap} {w : World} {N n : Nat} {x : Blk} (hgl : Gl B D m w) (hB : B ≤ w.heap.size) (hd : ∀ k,D k → k < N) (hok : BlkOk D m w n x) (hlt : x ≠ .dead → (m n).block < w.heap.size) (hlo : lo ≤ n) (hbase : x ≠ .dead → B ≤ (m n).block) (hown : Owns m w n x) : Rel B lo D m (Rex.lone N n x) w:=by
  refine ⟨hB,fun k hk=>by rw [lone_len];exact hd k hk,?_,?_,?_,?_,?_,?_,hgl⟩
  · intro k y hk hy
    rcases lone_get hy with ⟨rfl,rfl⟩|rfl
    · exact hok
    · trivial
  · intro k y hk hy hyd
    rcases lone_get hy with ⟨rfl,rfl⟩|rfl
    · exact hlt hyd
    · exact absurd rfl hyd
  · intro k y hk hl hy hyd
    rcases lone_get hy with ⟨rfl,rfl⟩|rfl
    · exact hbase hyd
    · exact absurd rfl hyd
  · intro k y hk hl hy hyd
    rcases lone_get hy with ⟨rfl,rfl⟩|rfl
    · omega
    · exact absurd rfl hyd
  · intro k y hk hl hy
    rcases lone_get hy with ⟨rfl,rfl⟩|rfl
    · exact hown
    · trivial
  · intro k k' y y' hk hk' hl hl' hy hy' hyd hyd' he
    rcases lone_get hy with ⟨rfl,rfl⟩|rfl
    · rcases lone_get hy' with ⟨rfl,rfl⟩|rfl
      · rfl
      · exact absurd rfl hyd'
    · exact absurd rfl hyd
/-- .. with two -/
def pairH (N n : Nat) (x : Blk) (n2 : Nat) (x2 : Blk) : List Blk:=(lone N n x).set n2 x2
theorem pair_len (N n : Nat) (x : Blk) (n2 : Nat) (x2 : Blk) : (pairH N n x n2 x2).length = N:=by simp [pairH,lone_len]
theorem pair_at {N n n2 : Nat} {x x2 : Blk} (h : n < N) (hne : n ≠ n2) : (pairH N n x n2 x2)[n]? = some x:=by
  unfold pairH;rw [List.getElem?_set_ne (Ne.symm hne)];exact lone_at h
theorem pair_at2 {N n n2 : Nat} {x x2 : Blk} (h : n2 < N) : (pairH N n x n2 x2)[n2]? = some x2:=by
  unfold pairH;rw [List.getElem?_set_self (by rw [lone_len];exact h)]
theorem pair_get {N n n2 k : Nat} {x x2 y : Blk} (h : (pairH N n x n2 x2)[k]? = some y) : (k = n ∧ y = x) ∨ (k = n2 ∧ y = x2) ∨ y = .dead:=by
  unfold pairH at h
  rw [List.getElem?_set] at h
  split at h
  · split at h
    · exact .inr (.inl ⟨by omega,(Option.some.inj h).symm⟩)
    · cases h
  · rcases lone_get h with h|h
    · exact .inl h
    · exact .inr (.inr h)
end Go.Rex

namespace Go.Rex
open Go.RowKit

/-! ### the run in the text's order,step by step -/
inductive KdP (C : Ctx) (P : Program) (ops : Array Oper) (m i : Nat) (o : Oper) (s s' : Dr) (v : Value) (k : Nat) : Prop
  | skip (kk : k = 0) (vv : v = undef) (hw : Region.wanted o (yielded ops ⟨s.tm⟩) = false) (hs : s' = { s with tm:=putL s.tm o.dst v }) : KdP C P ops m i o s s' v k
  | pure (kk : k = 0) (hw : Region.wanted o (yielded ops ⟨s.tm⟩) = true) (hp : pop P (ev s.tm) o = some v) (hs : s' = { s with tm:=putL s.tm o.dst v }) : KdP C P ops m i o s s' v k
  | tame (kk : k = 1) (h1 : List Blk) (w1 : Option Nat) (hw : Region.wanted o (yielded ops ⟨s.tm⟩) = true) (hx : xop C P (ev s.tm) o s.h = some (v, h1, w1)) (hc : s.chain = false) (hg : wge w1 s.h.length = true)
      (hs : s' = { tm:=putL s.tm o.dst v,h:=s.h ++ h1.drop s.h.length,np:=i :: s.np,chain:=false,wr:=s.wr }) (hl : s.h.length ≤ h1.length ∨ s'.h = s.h) : KdP C P ops m i o s s' v k
  | chain (kk : k = 2) (h1 : List Blk) (w1 : Option Nat) (hw : Region.wanted o (yielded ops ⟨s.tm⟩) = true) (hx : xop C P (ev s.tm) o s.h = some (v, h1, w1)) (hn : s.np.all (fun j => m.testBit j) = true) (hl : s.h.length ≤ h1.length)
      (hs : s' = { tm:=putL s.tm o.dst v,h:=h1,np:=i :: s.np,chain:=true,wr:=wmin s.wr w1 }) : KdP C P ops m i o s s' v k

theorem drawStep_kd {C : Ctx} {P : Program} {ops : Array Oper} {m i : Nat} {o : Oper} {s s' : Dr} (h : drawStep C P ops m i o s = some s') : ∃ v k,KdP C P ops m i o s s' v k:=by
  unfold drawStep at h
  split at h
  · rename_i hw
    split at h
    · rename_i v hp
      exact ⟨v,0,.pure rfl hw hp (Option.some.inj h).symm⟩
    · unfold drawHeap at h
      split at h
      · rename_i v h1 w1 hx
        split at h
        · rename_i hc
          split at h
          · rename_i he
            refine ⟨v,1,.tame rfl h1 w1 hw hx hc.1 hc.2 ?_ (.inl (by omega))⟩
            rw [← Option.some.inj h,List.drop_of_length_le (by omega)]
            simp
          · refine ⟨v,1,.tame rfl h1 w1 hw hx hc.1 hc.2 (Option.some.inj h).symm ?_⟩
            rcases Nat.lt_or_ge h1.length s.h.length with hl|hl
            · right
              rw [← Option.some.inj h]
              simp only
              rw [List.drop_of_length_le (by omega)]
              simp
            · exact .inl hl
        · split at h
          · rename_i hn
            exact ⟨v,2,.chain rfl h1 w1 hw hx hn.1 hn.2 (Option.some.inj h).symm⟩
          · cases h
      · cases h
  · rename_i hw
    exact ⟨undef,0,.skip rfl rfl (by simpa using hw) (Option.some.inj h).symm⟩

theorem drawAll_trace {C : Ctx} {P : Program} {ops : Array Oper} {ms : List Nat} : ∀ (l : List Oper) (k : Nat) (s s' : Dr), drawAll C P ops ms l k s = some s' →
    ∃ St : Nat → Dr,St 0 = s ∧ (∀ j o,l[j]? = some o → drawStep C P ops (nthN ms (k + j)) (k + j) o (St j) = some (St (j + 1))) ∧ ∀ j,l.length ≤ j → St j = s'
  | [],k,s,s',h=>by
    obtain rfl : s = s':=by simpa [drawAll] using h
    exact ⟨fun _=>s,rfl,fun j o h=>by simp at h,fun _ _=>rfl⟩
  | o :: l,k,s,s',h=>by
    simp only [drawAll] at h
    split at h
    · rename_i s1 h1
      obtain ⟨St,h2,h3,h4⟩:=drawAll_trace l (k + 1) s1 s' h
      refine ⟨fun j=>match j with|0=>s|j + 1=>St j,rfl,fun j o' hj=>?_,fun j hj=>?_⟩
      · cases j with
        | zero=>simp at hj;subst hj;simpa [h2] using h1
        | succ j =>
          have:=h3 j o' (by simpa using hj)
          rwa [show k + (j + 1) = k + 1 + j by omega]
      · cases j with
        | zero=>simp at hj
        | succ j=>exact h4 j (by simpa using hj)
    · cases h

structure Trace (C : Ctx) (P : Program) (ops : Array Oper) (ms : List Nat) (tm0 : List Value) (h0 : List Blk) where
  St : Nat → Dr
  V : Nat → Value
  kd : Nat → Nat
  st0 : St 0 = ⟨tm0,h0,[],false,none⟩
  kdp : ∀ (i : Nat) (o : Oper),ops[i]? = some o → KdP C P ops (nthN ms i) i o (St i) (St (i + 1)) (V i) (kd i)

theorem trace_of {C : Ctx} {P : Program} {ops : Array Oper} {ms : List Nat} {tm0 : List Value} {h0 : List Blk} {s' : Dr} (h : drawAll C P ops ms ops.toList 0 ⟨tm0, h0, [], false, none⟩ = some s') :
    ∃ T : Trace C P ops ms tm0 h0,T.St ops.size = s':=by
  obtain ⟨St,h1,h2,h3⟩:=drawAll_trace _ _ _ _ h
  have hk : ∀ i,∃ v k,∀ o,ops[i]? = some o → KdP C P ops (nthN ms i) i o (St i) (St (i + 1)) v k:=by
    intro i
    cases ho : ops[i]? with
    | none=>exact ⟨undef,0,fun o h=>by cases h⟩
    | some o =>
      have:=h2 i o (by simpa using ho)
      rw [Nat.zero_add] at this
      obtain ⟨v,k,hv⟩:=drawStep_kd this
      exact ⟨v,k,fun o' ho'=>by cases ho';exact hv⟩
  obtain ⟨V,hV⟩:=Classical.skolem.1 hk
  obtain ⟨kd,hkd⟩:=Classical.skolem.1 hV
  exact ⟨⟨St,V,kd,h1,hkd⟩,h3 _ (by simp)⟩

section
variable {C : Ctx} {P : Program} {ops : Array Oper} {ms : List Nat} {tm0 : List Value} {h0 : List Blk} (T : Trace C P ops ms tm0 h0)

abbrev Trace.ln (i : Nat) : Nat:=(T.St i).h.length

theorem Trace.ln_succ {i : Nat} {o : Oper} (ho : ops[i]? = some o) : T.ln i ≤ T.ln (i + 1):=by
  unfold Trace.ln
  cases T.kdp i o ho with
  | skip kk vv hw hs=>rw [hs];exact Nat.le_refl _
  | pure kk hw hp hs=>rw [hs];exact Nat.le_refl _
  | tame kk h1 w1 hw hx hc hg hs hl=>rw [hs];simp
  | chain kk h1 w1 hw hx hn hl hs=>rw [hs];exact hl
theorem Trace.ln_mono {i j : Nat} (h : i ≤ j) (hj : j ≤ ops.size) : T.ln i ≤ T.ln j:=by
  induction j with
  | zero => obtain rfl : i = 0 := by omega
            exact Nat.le_refl _
  | succ j ih =>
    rcases Nat.lt_or_ge j i with h'|h'
    · obtain rfl : i = j + 1:=by omega
      exact Nat.le_refl _
    · exact Nat.le_trans (ih h' (by omega)) (T.ln_succ (Array.getElem?_eq_getElem (by omega)))
theorem Trace.quiet {i : Nat} {o : Oper} (ho : ops[i]? = some o) (hk : T.kd i = 0) : (T.St (i + 1)).h = (T.St i).h:=by
  cases T.kdp i o ho with
  | skip kk vv hw hs=>rw [hs]
  | pure kk hw hp hs=>rw [hs]
  | tame kk=>omega
  | chain kk=>omega
theorem Trace.tm_succ {i : Nat} {o : Oper} (ho : ops[i]? = some o) : (T.St (i + 1)).tm = putL (T.St i).tm o.dst (T.V i):=by
  cases T.kdp i o ho with
  | skip kk vv hw hs=>rw [hs]
  | pure kk hw hp hs=>rw [hs]
  | tame kk h1 w1 hw hx hc hg hs hl=>rw [hs]
  | chain kk h1 w1 hw hx hn hl hs=>rw [hs]
theorem Trace.wr_succ {i : Nat} {o : Oper} (ho : ops[i]? = some o) {lo : Nat} (hw : WrOk lo (T.St (i + 1)).wr) : WrOk lo (T.St i).wr:=by
  cases T.kdp i o ho with
  | skip kk vv hw' hs=>rw [hs] at hw;exact hw
  | pure kk hw' hp hs=>rw [hs] at hw;exact hw
  | tame kk h1 w1 hw' hx hc hg hs hl=>rw [hs] at hw;exact hw
  | chain kk h1 w1 hw' hx hn hl hs=>rw [hs] at hw;exact hw.min.1
theorem Trace.wr_le {lo : Nat} {i j : Nat} (h : i ≤ j) (hj : j ≤ ops.size) (hw : WrOk lo (T.St j).wr) : WrOk lo (T.St i).wr:=by
  induction j with
  | zero => obtain rfl : i = 0 := by omega
            exact hw
  | succ j ih =>
    rcases Nat.lt_or_ge j i with h'|h'
    · obtain rfl : i = j + 1:=by omega
      exact hw
    · exact ih h' (by omega) (T.wr_succ (Array.getElem?_eq_getElem (by omega)) hw)
/-- behind a chain's operation all that touches memory is of the chain -/
theorem Trace.chain_on {i j : Nat} (hij : j < i) (hi : i ≤ ops.size) (hk : T.kd j = 2) : (T.St i).chain = true:=by
  induction i with
  | zero=>omega
  | succ i ih =>
    have ho : ops[i]? = some ops[i]:=Array.getElem?_eq_getElem (by omega)
    have hkp:=T.kdp i _ ho
    rcases Nat.lt_or_ge j i with h'|h'
    · have hc:=ih h' (by omega)
      cases hkp with
      | skip kk vv hw hs=>rw [hs];exact hc
      | pure kk hw hp hs=>rw [hs];exact hc
      | tame kk h1 w1 hw hx hc' hg hs hl=>rw [hc] at hc';cases hc'
      | chain kk h1 w1 hw hx hn hl hs=>rw [hs]
    · obtain rfl : j = i:=by omega
      cases hkp with
      | skip kk=>omega
      | pure kk=>omega
      | tame kk=>omega
      | chain kk h1 w1 hw hx hn hl hs=>rw [hs]
theorem Trace.tame_first {i j : Nat} (hi : i < ops.size) (hk : T.kd i = 1) (hj : T.kd j = 2) : i < j:=by
  rcases Nat.lt_or_ge i j with h|h
  · exact h
  · have hkp:=T.kdp i ops[i] (Array.getElem?_eq_getElem hi)
    have hne : j ≠ i:=fun e=>by rw [e] at hj;omega
    have hc:=T.chain_on (i:=i) (j:=j) (by omega) (by omega) hj
    cases hkp with
    | skip kk=>omega
    | pure kk=>omega
    | chain kk=>omega
    | tame kk h1 w1 hw hx hc' hg hs hl=>rw [hc] at hc';cases hc'
theorem Trace.np_mem {i j : Nat} (hij : j < i) (hi : i ≤ ops.size) (hk : T.kd j ≠ 0) : j ∈ (T.St i).np:=by
  induction i with
  | zero=>omega
  | succ i ih =>
    have ho : ops[i]? = some ops[i]:=Array.getElem?_eq_getElem (by omega)
    rcases Nat.lt_or_ge j i with h'|h'
    · have hm:=ih h' (by omega)
      cases T.kdp i _ ho with
      | skip kk vv hw hs=>rw [hs];exact hm
      | pure kk hw hp hs=>rw [hs];exact hm
      | tame kk h1 w1 hw hx hc' hg hs hl=>rw [hs];exact List.mem_cons_of_mem _ hm
      | chain kk h1 w1 hw hx hn hl hs=>rw [hs];exact List.mem_cons_of_mem _ hm
    · obtain rfl : j = i:=by omega
      cases T.kdp j _ ho with
      | skip kk=>omega
      | pure kk=>omega
      | tame kk h1 w1 hw hx hc' hg hs hl=>rw [hs];exact List.mem_cons_self
      | chain kk h1 w1 hw hx hn hl hs=>rw [hs];exact List.mem_cons_self
theorem Trace.chain_waits {i j : Nat} (hij : j < i) (hi : i < ops.size) (hk : T.kd i = 2) (hj : T.kd j ≠ 0) : (nthN ms i).testBit j = true:=by
  cases T.kdp i _ (Array.getElem?_eq_getElem hi) with
  | skip kk=>omega
  | pure kk=>omega
  | tame kk=>omega
  | chain kk h1 w1 hw hx hn hl hs=>simpa using List.all_eq_true.1 hn j (T.np_mem hij (by omega) hj)
theorem Trace.kd_le {i : Nat} (hi : i < ops.size) : T.kd i = 0 ∨ T.kd i = 1 ∨ T.kd i = 2:=by
  cases T.kdp i _ (Array.getElem?_eq_getElem hi)<;>omega
/-- without a chain's operation ahead, what lay stays -/
theorem Trace.front {i j : Nat} (hij : i ≤ j) (hj : j ≤ ops.size) (hc : ∀ k,i ≤ k → k < j → T.kd k ≠ 2) {n : Nat} (hn : n < T.ln i) : (T.St j).h[n]? = (T.St i).h[n]?:=by
  induction j with
  | zero => obtain rfl : i = 0 := by omega
            rfl
  | succ j ih =>
    rcases Nat.lt_or_ge j i with h'|h'
    · obtain rfl : i = j + 1:=by omega
      rfl
    · have hm:=ih h' (by omega) (fun k h1 h2=>hc k h1 (by omega))
      have hln : T.ln i ≤ T.ln j:=T.ln_mono h' (by omega)
      have ho : ops[j]? = some ops[j]:=Array.getElem?_eq_getElem (by omega)
      rw [← hm]
      have hne : T.kd j ≠ 2:=hc j h' (by omega)
      cases T.kdp j _ ho with
      | skip kk vv hw hs=>rw [hs]
      | pure kk hw hp hs=>rw [hs]
      | tame kk h1 w1 hw hx hc' hg hs hl=>rw [hs];exact List.getElem?_append_left (by unfold Trace.ln at *;omega)
      | chain kk=>omega
theorem putL_len (tm : List Value) (d : Option Tmp) (v : Value) : (putL tm d v).length = tm.length:=by cases d<;>simp [putL]
theorem Trace.tm_len {i : Nat} (hi : i ≤ ops.size) : (T.St i).tm.length = tm0.length:=by
  induction i with
  | zero=>rw [T.st0]
  | succ i ih=>rw [T.tm_succ (Array.getElem?_eq_getElem (show i < ops.size by omega)),putL_len,ih (by omega)]
/-- a slot that nobody has written -/
theorem Trace.tm_old {i t : Nat} (hi : i ≤ ops.size) (h : ∀ k o,k < i → ops[k]? = some o → o.dst ≠ some t) : (T.St i).tm[t]? = tm0[t]?:=by
  induction i with
  | zero=>rw [T.st0]
  | succ i ih =>
    have ho : ops[i]? = some ops[i]:=Array.getElem?_eq_getElem (by omega)
    rw [T.tm_succ ho,← ih (by omega) (fun k o hk=>h k o (by omega))]
    have:=h i _ (by omega) ho
    cases hd : (ops[i]'(by omega)).dst with
    | none=>rfl
    | some d =>
      simp only [putL]
      rw [List.getElem?_set_ne]
      intro e
      subst e
      exact this hd
/-- a slot that one has written -/
theorem Trace.tm_new (F : RegF ops ms) {i j t : Nat} {p : Oper} (hji : j < i) (hi : i ≤ ops.size) (hp : ops[j]? = some p) (hd : p.dst = some t) (ht : t < tm0.length) : (T.St i).tm[t]? = some (T.V j):=by
  induction i with
  | zero=>omega
  | succ i ih =>
    have ho : ops[i]? = some ops[i]:=Array.getElem?_eq_getElem (by omega)
    rw [T.tm_succ ho]
    have hlen:=T.tm_len (i:=i) (by omega)
    rcases Nat.lt_or_ge j i with h'|h'
    · have:=ih h' (by omega)
      cases hdi : (ops[i]'(by omega)).dst with
      | none=>exact this
      | some d =>
        simp only [putL]
        rw [List.getElem?_set_ne]
        · exact this
        · intro e
          subst e
          have:=F.uniq i j _ p _ ho hp hdi hd
          omega
    · obtain rfl : j = i:=by omega
      rw [ho] at hp
      obtain rfl:=Option.some.inj hp
      rw [hd]
      simp only [putL]
      rw [List.getElem?_set_self (by omega)]
end
end Go.Rex
