/- An executor of the program's functions on trees of values, proved sound. -/
import Derived.Test.YtojekkfmnnoabaaRexK
import Derived.RangeFuncNested
set_option linter.unusedSimpArgs false
set_option linter.unusedVariables false
set_option linter.defProp false
namespace Go.Rex
open Go.RowKit

/-- the marks -/
structure DRs (D : Nat → Prop) (m : NMap) (df : List Nat) (ds : List Deferred) : Prop where
  eq : ds = df.map fun n => { target := .collected (m n).block, args := #[] }
  dom : ∀ n ∈ df, D n
structure AR (D : Nat → Prop) (m : NMap) (a : AS) (a' : Act) : Prop where
  tm : VRs D m a.tm a'.tmps.toList
  df : DRs D m a.df a'.defers
theorem DRs.mono {D D' : Nat → Prop} {m m' : NMap} {df : List Nat} {ds : List Deferred} (h : DRs D m df ds) (hD : ∀ n, D n → D' n) (hm : ∀ n, D n → m' n = m n) : DRs D' m' df ds :=
  ⟨by rw [h.eq]; exact List.map_congr_left fun n hn => by rw [hm n (h.dom n hn)], fun n hn => hD n (h.dom n hn)⟩
theorem Post.drs {B lo : Nat} {D : Nat → Prop} {m m₁ : NMap} {h h₁ : List Blk} {w w₁ : World} (p : Post B lo D m h w m₁ h₁ w₁) {df : List Nat} {ds : List Deferred} (hd : DRs D m df ds) : DRs (Dx D h.length h₁.length) m₁ df ds :=
  hd.mono (fun _ h => .inl h) p.agree

/-- in which round one is -/
def RoR (D : Nat → Prop) (m : NMap) (ro ro' : Option Nat) : Prop :=
  match ro with
  | none => ro' = none
  | some l => D l ∧ ro' = some (m l).block
theorem Post.ror {B lo : Nat} {D : Nat → Prop} {m m₁ : NMap} {h h₁ : List Blk} {w w₁ : World} (p : Post B lo D m h w m₁ h₁ w₁) {ro ro' : Option Nat} (hr : RoR D m ro ro') : RoR (Dx D h.length h₁.length) m₁ ro ro' := by
  cases ro with
  | none => exact hr
  | some l => exact ⟨.inl hr.1, by rw [p.agree l hr.1]; exact hr.2⟩

def ExQ (B lo : Nat) (D : Nat → Prop) (m : NMap) (h : List Blk) (w : World) (e : Exit) (a : AS) (h' : List Blk) : Exit → Act → World → Prop := fun e' a' w' =>
  e' = e ∧ ∃ m', Post B lo D m h w m' h' w' ∧ AR (Dx D h.length h'.length) m' a a'

/-- a new block of another kind -/
theorem Rel.pushDfr {B lo : Nat} {D : Nat → Prop} {m : NMap} {h : List Blk} {w : World} (hr : Rel B lo D m h w) (hlo : lo ≤ h.length) :
    Post B lo D m h w (upd m h.length ⟨w.heap.size, 0, 0, 0⟩) (h ++ [.dfr]) (w.alloc (.deferred (some []))) :=
  hr.push _ _ _ rfl hlo (by show (w.alloc _).heap[_]? = _; rw [upd_same]; exact World.alloc_heap_new w _) trivial

theorem putObj_below (w : World) (l : Nat) (o : Obj) : (w.putObj l o).os = w.os ∧ (w.putObj l o).tape = w.tape ∧ (w.putObj l o).output = w.output ∧ (w.putObj l o).heap.size = w.heap.size ∧ ∀ k, k ≠ l → (w.putObj l o).heap[k]? = w.heap[k]? :=
  ⟨rfl, rfl, rfl, by simp [World.putObj], fun k hk => World.putObj_heap_other hk⟩

theorem Rel.put {B lo : Nat} {D : Nat → Prop} {m : NMap} {h : List Blk} {w : World} (hr : Rel B lo D m h w) {n : Nat} {b : Blk} (hD : D n) (hl : lo ≤ n) (hn : h[n]? = some b) (hb : b ≠ .dead) (o : Obj) (b' : Blk)
    (hok : BlkOk D m (w.putObj (m n).block o) n b') (hown : Owns m (w.putObj (m n).block o) n b') : Post B lo D m h w m (h.set n b') (w.putObj (m n).block o) := by
  obtain ⟨s1, s2, s3, s4, s5⟩ := putObj_below w (m n).block o
  exact hr.modify hD hl hn hb s1 s2 s3 s4 s5 b' hok hown

section
variable {P : Program} {C : Ctx} {ro ro' : Option Nat} {n : Nat}

theorem runRange_sound (hC : CtxOk P C) {B lo : Nat} {D : Nat → Prop} {m : NMap} {h h' : List Blk} {w : World} {g : Operand} {ps : Array Tmp} {assign body : Code} {a a' : AS} {act : Act} {e : Exit} {wr : Option Nat}
    (hr : Rel B lo D m h w) (hlo : lo ≤ h.length) (hA : AR D m a act) (hro : RoR D m ro ro') (hv : runRange C P ro g ps assign body a h = some (e, a', h', wr)) (hw : WrOk lo wr) :
    (Code.rangeFunc g ps assign body).wpIn (Fw ro') n P (ExQ B lo D m h w e a' h') act w := by
  unfold runRange at hv
  split at hv
  · rename_i hg
    split at hv
    · rename_i fn first captured hfv
      split at hv
      · rename_i gf
        split at hv
        · rename_i fd hfd
          split at hv
          · rename_i hcond
            obtain ⟨hbody, hname⟩ := hcond
            have h1 := ev_vr hA.tm hg
            rw [hfv] at h1
            obtain ⟨first', captured', hfi, hca, e1⟩ : ∃ first' captured', VRs D m first first' ∧ VRs D m captured captured' ∧ act.eval g = .func (.func gf) ⟨first'⟩ ⟨captured'⟩ := by
              generalize act.eval g = y at *
              cases h1
              exact ⟨_, _, ⟨by assumption, by assumption⟩, ⟨by assumption, by assumption⟩, rfl⟩
            split at hv
            · cases hv
            · rename_i h1 d mark hst
              split at hv
              · rename_i v0 h2 w2 hcall
                refine wpIn_rangeFunc fun fn _ => ?_
                -- the start
                obtain ⟨m1, w1, wfin, realMark, hp1, hD1, hent, hreal, hhn, hmk⟩ : ∃ (m1 : NMap) (w1 wfin : World) (realMark : List Deferred), Post B lo D m h w m1 h1 w1 ∧ Dx D h.length h1.length d ∧
                    (Instr.enterLoop fn act.tmps ps assign body ro').run P w = .ok (w1.heap.size, realMark) wfin ∧
                    wfin = w1.alloc (.loop { state := .ready, pending := none, fn, tmps := act.tmps, params := ps, assign, body, defers := (m1 d).block }) ∧ h.length ≤ h1.length ∧ DRs (Dx D h.length h1.length) m1 mark realMark := by
                  unfold rangeStart at hst
                  cases ro with
                  | none =>
                    obtain ⟨rfl, rfl, rfl⟩ : h ++ [Blk.dfr] = h1 ∧ h.length = d ∧ [h.length] = mark := by simpa using hst
                    have hro' : ro' = none := hro
                    subst hro'
                    refine ⟨_, _, _, [{ target := .collected w.heap.size, args := #[] }], hr.pushDfr hlo, .inr (by simp), ?_, rfl, by simp, ⟨?_, fun k hk => ?_⟩⟩
                    · rw [run_enterLoop_outer, upd_same]
                      simp only [World.size_alloc]
                    · rw [List.map_singleton, upd_same]
                    · obtain rfl : k = h.length := by simpa using hk
                      exact .inr (by simp)
                  | some l =>
                    obtain ⟨hDl, hro'⟩ := hro
                    subst hro'
                    simp only at hst
                    split at hst
                    · rename_i st pend tmps0 ps0 as0 bd0 d0 hl
                      obtain ⟨rfl, rfl, rfl⟩ : h = h1 ∧ d0 = d ∧ [] = mark := by simpa using hst
                      obtain ⟨hd, fn0, tmps', hh, _⟩ := hr.ok l _ hDl hl
                      refine ⟨m, w, _, [], Post.refl hr, .inl hd, ?_, rfl, Nat.le_refl _, ⟨rfl, fun k hk => by simp at hk⟩⟩
                      rw [run_enterLoop_inner hh]
                    · cases hst
                have hr1 := hp1.rel
                -- the record
                have hp2 := hr1.push (.loop { state := .ready, pending := none, fn, tmps := act.tmps, params := ps, assign, body, defers := (m1 d).block }) (.loop .ready none a.tm ps assign body d) ⟨w1.heap.size, 0, 0, 0⟩ rfl (Nat.le_trans hlo hhn)
                  ⟨.inl hD1, fn, act.tmps.toList, by
                    rw [upd_same, upd_other (by have := hr1.dom d hD1; omega)]
                    exact World.alloc_heap_new w1 _, ((hp1.vrs hA.tm).mono (fun _ h => .inl h) fun k hk => upd_other (by have := hr1.dom k hk; omega))⟩ trivial
                rw [← hreal] at hp2
                have hr2 := hp2.rel
                have hp12 := hp1.trans hp2
                have hlen : (h1 ++ [Blk.loop LoopState.ready none a.tm ps assign body d]).length = h1.length + 1 := by simp
                have hDl : Dx (Dx D h.length h1.length) h1.length (h1 ++ [Blk.loop LoopState.ready none a.tm ps assign body d]).length h1.length := .inr (by simp)
                have hlb : (upd m1 h1.length ⟨w1.heap.size, 0, 0, 0⟩ h1.length).block = w1.heap.size := by rw [upd_same]
                have hargs : VRs (Dx (Dx D h.length h1.length) h1.length (h1 ++ [Blk.loop LoopState.ready none a.tm ps assign body d]).length) (upd m1 h1.length ⟨w1.heap.size, 0, 0, 0⟩)
                    (first ++ ([.func (.yield h1.length) #[] #[]] ++ captured)) (first' ++ ([.func (.yield w1.heap.size) #[] #[]] ++ captured')) := by
                  refine (hp2.vrs (hp1.vrs hfi)).append (VRs.append (VRs.cons ?_ VRs.nil) (hp2.vrs (hp1.vrs hca)))
                  have := VR.yield (D := Dx (Dx D h.length h1.length) h1.length (h1 ++ [Blk.loop LoopState.ready none a.tm ps assign body d]).length) (m := upd m1 h1.length ⟨w1.heap.size, 0, 0, 0⟩) h1.length hDl
                  rwa [hlb] at this
                have harr : (⟨first'⟩ ++ #[.func (.yield w1.heap.size) #[] #[]] ++ ⟨captured'⟩ : Array Value) = ⟨first' ++ ([.func (.yield w1.heap.size) #[] #[]] ++ captured')⟩ := Array.ext' (by simp)
                refine ⟨w1.heap.size, realMark, wfin, { target := .fn (.func gf) ⟨captured'⟩, args := ⟨first'⟩ ++ #[.func (.yield w1.heap.size) #[] #[]] }, wfin, gf, ⟨first' ++ ([.func (.yield w1.heap.size) #[] #[]] ++ captured')⟩, wfin, hent, ?_, fun _ _ => trivial, ?_, (fun h => (by cases h)), ?_⟩
                · have evc : ∀ v, act.eval (.const v) = v := fun _ => rfl
                  simp only [resolve, rangeCall, e1, Deferred.ofValue, List.map_toArray, List.map_cons, List.map_nil, evc, Sem.run_pure]
                · simp only [invoke]
                  rw [harr]
                  unfold callFunc
                  obtain ⟨bd, hbd⟩ := Option.isSome_iff_exists.1 hbody
                  simp only [Sem.run_bind, run_program, Result.andThen_ok, hfd, hname, Bool.false_eq_true, if_false, hbd]
                  rfl
                · have hwr2 : WrOk lo w2 := by
                    unfold rangeEnd at hv
                    repeat' split at hv
                    all_goals first
                      | (cases hv; done)
                      | (have : w2 = wr := by (injection hv with hv; injection hv with _ hv; injection hv with _ hv; injection hv with _ hv)
                         rw [this]; exact hw)
                  have hc := callsIn_wide (n := n - 1).2 (hC.call hcall hr2 (by rw [hlen]; omega) hwr2 hargs)
                  refine CallsIn.mono (F := Fw ro') (by exact hc) ?_
                  rintro e3 w3 ⟨v3, m3, rfl, hp3, _⟩
                  have hr3 := hp3.rel
                  unfold rangeEnd at hv
                  split at hv
                  · rename_i st pend t3 p3 as3 b3 d3 hl3
                    have hDl3 : Dx (Dx (Dx D h.length h1.length) h1.length (h1 ++ [Blk.loop LoopState.ready none a.tm ps assign body d]).length) (h1 ++ [Blk.loop LoopState.ready none a.tm ps assign body d]).length h2.length h1.length := .inl hDl
                    have hm3 : (m3 h1.length).block = w1.heap.size := by rw [hp3.agree _ hDl, hlb]
                    obtain ⟨_, fn3, tmps3, hh3, _⟩ := hr3.ok h1.length _ hDl3 hl3
                    rw [hm3] at hh3
                    split at hv
                    · cases hv
                    · rename_i hbusy
                      have hend := run_endLoop (P := P) hh3 (by simpa using hbusy)
                      have hp4 := hr3.put hDl3 (by omega) hl3 (by simp) (.loop { state := .exhausted, pending := pend, fn := fn3, tmps := ⟨tmps3⟩, params := p3, assign := as3, body := b3, defers := (m3 d3).block }) .dead trivial trivial
                      rw [hm3] at hp4
                      have hpost := (hp12.trans (by rw [← Dx.trans hp1.grow hp2.grow]; exact hp3)).trans (by rw [← Dx.trans (Nat.le_trans hp1.grow hp2.grow) hp3.grow, ← Dx.trans hp1.grow hp2.grow]; exact hp4)
                      have hAR : ∀ ds, act.defers = ds → AR (Dx D h.length (h2.set h1.length .dead).length) m3 ⟨a.tm, mark ++ a.df⟩ { tmps := act.tmps, defers := realMark ++ ds } := by
                        rintro ds rfl
                        have hmark := (hp4.drs (hp3.drs (hp2.drs hmk)))
                        have hold := hpost.drs hA.df
                        have hsub : ∀ k, Dx (Dx (Dx (Dx D h.length h1.length) h1.length (h1 ++ [Blk.loop LoopState.ready none a.tm ps assign body d]).length) (h1 ++ [Blk.loop LoopState.ready none a.tm ps assign body d]).length h2.length) h2.length (h2.set h1.length .dead).length k → Dx D h.length (h2.set h1.length .dead).length k := by
                          intro k hk
                          rwa [Dx.trans hp1.grow hp2.grow, Dx.trans (Nat.le_trans hp1.grow hp2.grow) hp3.grow, Dx.trans (Nat.le_trans (Nat.le_trans hp1.grow hp2.grow) hp3.grow) hp4.grow] at hk
                        have hmark := hmark.mono hsub (fun _ _ => rfl)
                        refine ⟨hpost.vrs hA.tm, ⟨by rw [hmark.eq, hold.eq, List.map_append], fun k hk => ?_⟩⟩
                        rcases List.mem_append.1 hk with hk | hk
                        · exact hmark.dom k hk
                        · exact hold.dom k hk
                      refine ⟨pend, _, hend, ?_⟩
                      split at hv
                      · obtain ⟨rfl, rfl, rfl, rfl⟩ : Exit.normal = e ∧ _ = a' ∧ _ = h' ∧ w2 = wr := by simpa using hv
                        exact ⟨rfl, m3, hpost, hAR _ rfl⟩
                      · rename_i c
                        split at hv
                        · obtain ⟨rfl, rfl, rfl, rfl⟩ : Exit.ret = e ∧ _ = a' ∧ _ = h' ∧ w2 = wr := by simpa using hv
                          exact wpIn_ret ⟨rfl, m3, hpost, hAR _ rfl⟩
                        · rename_i id
                          obtain ⟨rfl, rfl, rfl, rfl⟩ : Exit.exit id = e ∧ _ = a' ∧ _ = h' ∧ w2 = wr := by simpa using hv
                          exact wpIn_exit ⟨rfl, m3, hpost, hAR _ rfl⟩
                        · cases hv
                  · cases hv
              · cases hv
          · cases hv
        · cases hv
      · cases hv
    · cases hv
  · cases hv
end
end Go.Rex
