/- An executor of the program's functions on trees of values, proved sound. -/
import Derived.Test.YtojekkfmnnoabaaRexN
set_option linter.unusedSimpArgs false
set_option linter.unusedVariables false
set_option linter.defProp false
namespace Go.Rex
open Go.RowKit

section
variable {P : Program} {C : Ctx}

theorem resV_sound {B lo : Nat} {D : Nat → Prop} {m : NMap} {h : List Blk} {w : World} {tm : List Value} {a : Act} {r : ResultVar} {v : Value} (hr : Rel B lo D m h w) (hA : VRs D m tm a.tmps.toList) (hv : resV P h tm r = some v) :
    ∃ v', (match r with | .tmp t => pure (a.tmps.getD t undef) | .cell x t => do loadVar t (← asAddr (a.tmps.getD x undef)) : Sem Value).run P w = .ok v' w ∧ VR D m v v' := by
  have getv : ∀ t, VR D m (nth tm t) (a.tmps.getD t undef) := fun t => ev_vr (x := .tmp t) hA rfl
  cases r with
  | tmp t =>
    obtain rfl := Option.some.inj hv
    exact ⟨_, rfl, getv t⟩
  | cell x t =>
    simp only [resV] at hv
    split at hv
    · rename_i n o hx
      have h1 := getv x
      rw [hx] at h1
      obtain ⟨hD, h2⟩ : D n ∧ a.tmps.getD x undef = .pointer (some ⟨(m n).block, (m n).off + o, none⟩) := by
        generalize a.tmps.getD x undef = y at *
        cases h1; exact ⟨by assumption, rfl⟩
      obtain ⟨v', h3, h4⟩ := loadV_sound (P := P) hr hD hv
      refine ⟨v', ?_, h4⟩
      simp only [h2, asAddr, Sem.run_bind, Sem.run_pure, Result.andThen_ok, h3]
    · cases hv

theorem resAll_sound {B lo : Nat} {D : Nat → Prop} {m : NMap} {h : List Blk} {w : World} {tm : List Value} {a : Act} (hr : Rel B lo D m h w) (hA : VRs D m tm a.tmps.toList) : ∀ (rs : List ResultVar) (vs : List Value), resAll P h tm rs = some vs → ∀ acc,
    ∃ vs', (List.mapM.loop (fun r : ResultVar => (match r with | .tmp t => pure (a.tmps.getD t undef) | .cell x t => do loadVar t (← asAddr (a.tmps.getD x undef)) : Sem Value)) rs acc).run P w = .ok (acc.reverse ++ vs') w ∧ VRs D m vs vs'
  | [], vs, hv, acc => by
    obtain rfl : [] = vs := by simpa [resAll] using hv
    exact ⟨[], by simp [List.mapM.loop], VRs.nil⟩
  | r :: rs, vs, hv, acc => by
    simp only [resAll] at hv
    split at hv
    · rename_i v h1
      cases h2 : resAll P h tm rs with
      | none => rw [h2] at hv; cases hv
      | some vs0 =>
        rw [h2] at hv
        obtain rfl : v :: vs0 = vs := by simpa using hv
        obtain ⟨v', h3, h4⟩ := resV_sound hr hA h1
        obtain ⟨vs', h5, h6⟩ := resAll_sound hr hA rs vs0 h2 (v' :: acc)
        refine ⟨v' :: vs', ?_, VRs.cons h4 h6⟩
        simp only [List.mapM.loop, Sem.run_bind, h3, Result.andThen_ok, h5]
        simp
    · cases hv

theorem results_sound {B lo : Nat} {D : Nat → Prop} {m : NMap} {h : List Blk} {w : World} {tm : List Value} {a : Act} {fd : Func} {vs : List Value} (hr : Rel B lo D m h w) (hA : VRs D m tm a.tmps.toList) (hv : resAll P h tm fd.results.toList = some vs) :
    ∃ v', (results fd a.tmps).run P w = .ok v' w ∧ VR D m (oneOf vs) v' := by
  obtain ⟨vs', h1, h2⟩ := resAll_sound hr hA _ _ hv []
  have hm : (fd.results.mapM fun r : ResultVar => (match r with | .tmp t => pure (a.tmps.getD t undef) | .cell x t => do loadVar t (← asAddr (a.tmps.getD x undef)) : Sem Value)).run P w = .ok ⟨vs'⟩ w := by
    rw [Array.mapM_eq_mapM_toList]
    simp only [List.mapM, Sem.run_map, h1, Result.andThen_ok, List.reverse_nil, List.nil_append]
  refine ⟨if h : (⟨vs'⟩ : Array Value).size = 1 then (⟨vs'⟩ : Array Value)[0] else .tuple ⟨vs'⟩, ?_, ?_⟩
  · have he : results fd a.tmps = (do
        let vs ← (fd.results.mapM fun r : ResultVar => (match r with | .tmp t => pure (a.tmps.getD t undef) | .cell x t => do loadVar t (← asAddr (a.tmps.getD x undef)) : Sem Value))
        pure (if h : vs.size = 1 then vs[0] else .tuple vs)) := rfl
    rw [he]
    simp only [Sem.run_bind]
    rw [hm]
    rfl
  · cases vs with
    | nil =>
      obtain rfl : vs' = [] := by have := h2.len; simpa using this
      exact .tuple' h2
    | cons x xs =>
      cases xs with
      | nil =>
        obtain ⟨x', rfl⟩ : ∃ x', vs' = [x'] := by
          have := h2.len
          match vs', this with
          | [y], _ => exact ⟨y, rfl⟩
        exact h2.at' 0 _ _ rfl rfl
      | cons y ys =>
        rw [dif_neg (by have := h2.len; simp at this ⊢; omega)]
        exact .tuple' h2

theorem leaves_sound {F : Fence} {n : Nat} {fd : Func} {R : Ending → World → Prop} : ∀ (df : List Nat) {B lo : Nat} {D : Nat → Prop} {m : NMap} {h h' : List Blk} {w : World} {tm : List Value} {a : Act} {wr : Option Nat} {vs : List Value},
    Rel B lo D m h w → VRs D m tm a.tmps.toList → DRs D m df a.defers → takeDefers df h = some (h', wr) → WrOk lo wr → resAll P h' tm fd.results.toList = some vs →
    (∀ v' w', Post B lo D m h w m h' w' → VR D m (oneOf vs) v' → R (.returned v') w') → LeavesInM F n P fd a.tmps R a.defers .returning w
  | [], B, lo, D, m, h, h', w, tm, a, wr, vs, hr, hA, hd, ht, hw, hres, hR => by
    obtain ⟨rfl, rfl⟩ : h = h' ∧ none = wr := by simpa [takeDefers] using ht
    rw [hd.eq]
    obtain ⟨v', h1, h2⟩ := results_sound hr hA hres
    exact ⟨v', h1, hR v' w (Post.refl hr) h2⟩
  | x :: df, B, lo, D, m, h, h', w, tm, a, wr, vs, hr, hA, hd, ht, hw, hres, hR => by
    simp only [takeDefers] at ht
    split at ht
    · rename_i hx
      cases h2 : takeDefers df (h.set x .dead) with
      | none => rw [h2] at ht; cases ht
      | some r =>
        obtain ⟨h3, w3⟩ := r
        rw [h2] at ht
        obtain ⟨rfl, rfl⟩ : h3 = h' ∧ wmin (some x) w3 = wr := by simpa using ht
        obtain ⟨hw1, hw2⟩ := hw.min
        have hD := hd.dom x (by simp)
        have hblk : w.heap[(m x).block]? = some (.deferred (some [])) := hr.ok x _ hD hx
        have hp := hr.put hD (hw1 x rfl) hx (by simp) (.deferred none) .dead trivial trivial
        have hrel := hp.rel
        have e : Dx D h.length (h.set x Blk.dead).length = D := by rw [List.length_set]; exact Dx.refl
        rw [e] at hrel
        have hdrest : DRs D m df (df.map fun n => { target := .collected (m n).block, args := #[] }) := ⟨rfl, fun n hn => hd.dom n (List.mem_cons_of_mem _ hn)⟩
        rw [hd.eq, List.map_cons]
        refine ⟨by simp, .inl ⟨(m x).block, w.putObj (m x).block (.deferred none), rfl, run_takeDeferred hblk, ?_⟩⟩
        refine leaves_sound (a := { tmps := a.tmps, defers := df.map fun n => { target := .collected (m n).block, args := #[] } }) df hrel hA hdrest h2 hw2 hres fun v' w' hp' hv' => hR v' w' ?_ hv'
        exact hp.trans (by rw [e]; exact hp')
    · cases ht

theorem takeDefers_len : ∀ (df : List Nat) (h h' : List Blk) (wr : Option Nat), takeDefers df h = some (h', wr) → h'.length = h.length
  | [], h, h', wr, ht => by
    obtain ⟨rfl, rfl⟩ : h = h' ∧ none = wr := by simpa [takeDefers] using ht
    rfl
  | x :: df, h, h', wr, ht => by
    simp only [takeDefers] at ht
    split at ht
    · cases h2 : takeDefers df (h.set x .dead) with
      | none => rw [h2] at ht; cases ht
      | some r =>
        obtain ⟨h3, w3⟩ := r
        rw [h2] at ht
        obtain ⟨rfl, rfl⟩ : h3 = h' ∧ wmin (some x) w3 = wr := by simpa using ht
        rw [takeDefers_len df _ _ _ h2]; simp
    · cases ht

/-- a call's end, whatever is forgotten -/
theorem runEnd_sound {F : Fence} {n : Nat} {fd : Func} {B lo : Nat} {D : Nat → Prop} {m m1 : NMap} {h h1 h2 : List Blk} {w w1 : World} {a1 : AS} {act : Act} {w2 : Option Nat} {vs : List Value} {R : Ending → World → Prop}
    (hp : Post B lo D m h w m1 h1 w1) (hA : AR (Dx D h.length h1.length) m1 a1 act) (ht : takeDefers a1.df h1 = some (h2, w2)) (hw : WrOk lo w2) (hres : resAll P h2 a1.tm fd.results.toList = some vs)
    (hR : ∀ v' m' w', Post B lo D m h w m' h2 w' → VR (Dx D h.length h2.length) m' (oneOf vs) v' → R (.returned v') w') : LeavesInM F n P fd act.tmps R act.defers .returning w1 := by
  have hl := takeDefers_len _ _ _ _ ht
  refine leaves_sound a1.df hp.rel hA.tm hA.df ht hw hres fun v' w' hp2 hv => hR v' m1 w' (hp.trans hp2) ?_
  rw [hl]; exact hv

theorem runCall_sound (hC : CtxOk P C) (hDraw : DrawSound P C) {k : Nat} {f : FuncId} {args : List Value} {h : List Blk} {v : Value} {h' : List Blk} {wr : Option Nat} (hv : runCall C P k f args h = some (v, h', wr)) {B lo : Nat} {D : Nat → Prop} {m : NMap} {w : World} {args' : List Value}
    (hr : Rel B lo D m h w) (hlo : lo ≤ h.length) (hw : WrOk lo wr) (hargs : VRs D m args args') : Calls P f ⟨args'⟩ w (Good B lo D m h w v h') := by
  unfold runCall at hv
  split at hv
  · cases hv
  · rename_i fd hfd
    split at hv
    · cases hv
    · rename_i c hc
      split at hv
      · rename_i e a1 h1 w1 hx
        have hA0 : ∀ {B lo : Nat}, AR D m ⟨args ++ List.replicate (fd.ntmps - args.length) undef, []⟩ { tmps := ⟨args'⟩ ++ Array.replicate (fd.ntmps - (⟨args'⟩ : Array Value).size) undef, defers := [] } := fun {_ _} => by
          refine ⟨?_, ⟨rfl, fun n hn => by simp at hn⟩⟩
          have : (⟨args'⟩ : Array Value).size = args.length := hargs.len
          rw [this]
          simp only [Array.toList_append, Array.toList_replicate]
          exact hargs.append (VRs.replicate VR.undef _)
        -- both ends alike
        have main : (e = .normal ∨ e = .ret) → runEnd P fd h.length h a1 h1 w1 = some (v, h', wr) → Calls P f ⟨args'⟩ w (Good B lo D m h w v h') := by
          intro he hend
          unfold runEnd at hend
          split at hend
          · rename_i h2 w2 ht
            split at hend
            · rename_i vs hres
              -- run with a base and a bound
              have go : ∀ (B' lo' : Nat), Rel B' lo' D m h w → lo' ≤ h.length → WrOk lo' (wmin w1 w2) → Calls P f ⟨args'⟩ w (fun e w' => ∃ v' m', e = .returned v' ∧ Post B' lo' D m h w m' h2 w' ∧ VR (Dx D h.length h2.length) m' (oneOf vs) v') := by
                intro B' lo' hr' hlo' hw'
                obtain ⟨hw1, hw2⟩ := hw'.min
                refine (callsIn_wide (n := 10)).1 (callsIn_of_wp_marks hfd hc trivial ?_ rfl)
                refine wpIn_mono (F := Fence.wide) (exec_sound (ro' := none) hC hDraw k c _ h e a1 h1 w1 hx hr' hlo' hw1 (hA0 (B := B') (lo := lo')) rfl) ?_
                rintro e' act' w' ⟨rfl, m1, hp, hA1⟩
                have := runEnd_sound (P := P) (F := Fence.wide) (n := 10) (fd := fd) (R := fun e w' => ∃ v' m', e = .returned v' ∧ Post B' lo' D m h w m' h2 w' ∧ VR (Dx D h.length h2.length) m' (oneOf vs) v') hp hA1 ht hw2 hres fun v' m' w' hp2 hv2 => ⟨v', m', rfl, hp2, hv2⟩
                rcases he with rfl | rfl <;> exact this
              split at hend
              · rename_i hcl
                split at hend
                · rename_i hge
                  obtain ⟨rfl, rfl, rfl⟩ : oneOf vs = v ∧ h = h' ∧ none = wr := by simpa using hend
                  refine (go w.heap.size h.length (hr.still h.length (Nat.le_refl _)) (Nat.le_refl _) (wge_ok hge)).mono ?_
                  rintro e' w' ⟨v', m', rfl, hp, hvr⟩
                  have hcv := hvr.eq_of_clean depth _ _ hcl
                  refine ⟨v', m, rfl, Post.frame hr hp.below, ?_⟩
                  rw [hcv]
                  exact VR.of_clean depth _ hcl
                · obtain ⟨rfl, rfl, rfl⟩ : oneOf vs = v ∧ h2 = h' ∧ wmin w1 w2 = wr := by simpa using hend
                  exact go B lo hr hlo hw
              · split at hend
                · rename_i hge
                  obtain ⟨rfl, rfl, rfl⟩ : oneOf vs = v ∧ h2 = h' ∧ none = wr := by simpa using hend
                  exact go B lo hr hlo fun n hn => Nat.le_trans hlo (wge_ok hge n hn)
                · obtain ⟨rfl, rfl, rfl⟩ : oneOf vs = v ∧ h2 = h' ∧ wmin w1 w2 = wr := by simpa using hend
                  exact go B lo hr hlo hw
            · cases hend
          · cases hend
        split at hv
        · exact main (.inl rfl) hv
        · exact main (.inr rfl) hv
        · cases hv
      · cases hv

theorem setArgs_vr {D : Nat → Prop} {m : NMap} : ∀ (ps : List Tmp) (vs vs' tm : List Value) (tm' : Array Value), VRs D m vs vs' → VRs D m tm tm'.toList →
    VRs D m (setArgs ps vs tm) ((ps.zip vs').foldl (fun tmps (x : Tmp × Value) => tmps.setIfInBounds x.1 x.2) tm').toList
  | [], vs, vs', tm, tm', hv, ht => by cases vs <;> exact ht
  | p :: ps, [], vs', tm, tm', hv, ht => by
    obtain rfl : vs' = [] := by have := hv.len; simpa using this
    exact ht
  | p :: ps, v :: vs, vs', tm, tm', hv, ht => by
    obtain ⟨v', rest, rfl⟩ : ∃ v' rest, vs' = v' :: rest := by
      have h1 := hv.len
      cases vs' with
      | nil => simp at h1
      | cons a b => exact ⟨a, b, rfl⟩
    have hx : VR D m v v' := hv.at' 0 _ _ rfl rfl
    have hs : VRs D m vs rest := ⟨by have := hv.len; simpa using this, fun i x x' h h' => hv.at' (i + 1) _ _ (by simpa using h) (by simpa using h')⟩
    simp only [setArgs, List.zip_cons_cons, List.foldl_cons]
    refine setArgs_vr ps vs rest _ _ hs ?_
    simp only [Array.toList_setIfInBounds]
    exact ht.set p hx

theorem runRound_sound (hC : CtxOk P C) (hDraw : DrawSound P C) {k : Nat} {l : Nat} {args : List Value} {h : List Blk} {v : Value} {h' : List Blk} {wr : Option Nat} (hv : runRound C P k l args h = some (v, h', wr)) {B lo : Nat} {D : Nat → Prop} {m : NMap} {w : World} {args' : List Value}
    (hr : Rel B lo D m h w) (hlo : lo ≤ h.length) (hw : WrOk lo wr) (hD : D l) (hargs : VRs D m args args') :
    ∃ fn tmps assign body, (Instr.yield (m l).block ⟨args'⟩).run P w = .ok (.round (m l).block fn tmps assign body) w ∧ ∀ n, RoundIn Fence.wide n P (m l).block fn tmps assign body w (Good B lo D m h w v h') := by
  unfold runRound at hv
  split at hv
  · rename_i st pend tmps ps assign body d hl
    split at hv
    · rename_i hcond
      obtain ⟨rfl, hlen⟩ := hcond
      obtain ⟨hDd, fn, tmps', hh, htm⟩ := hr.ok l _ hD hl
      have hy := run_yield (P := P) (args := ⟨args'⟩) hh (by show args'.length = ps.size; rw [hargs.len, hlen])
      refine ⟨fn, _, assign, body, hy, fun n => ?_⟩
      split at hv
      · rename_i e a1 h1 w1 hx
        split at hv
        · split at hv
          · rename_i st1 pend1 t1 p1 as1 bd1 d1 hl1
            split at hv
            · rename_i hst1
              subst hst1
              split at hv
              · rename_i e2 a2 h2 w2 hx2
                have hv2 : ∃ jump, roundEnd l jump h2 (wmin w1 w2) = some (v, h', wr) ∧ ((e2 = .normal ∧ jump = none) ∨ (e2 = .ret ∧ jump = some .ret) ∨ (∃ id, e2 = .exit id ∧ jump = some (.exit id))) := by
                  split at hv
                  · exact ⟨_, hv, .inl ⟨rfl, rfl⟩⟩
                  · exact ⟨_, hv, .inr (.inl ⟨rfl, rfl⟩)⟩
                  · exact ⟨_, hv, .inr (.inr ⟨_, rfl, rfl⟩)⟩
                  · cases hv
                clear hv
                obtain ⟨jump, hend, hjump⟩ := hv2
                unfold roundEnd at hend
                split at hend
                · rename_i st3 pend3 t3 p3 as3 b3 d3 hl3
                  obtain ⟨rfl, rfl, rfl⟩ : Value.bool jump.isNone = v ∧ _ = h' ∧ wmin (some l) (wmin w1 w2) = wr := by simpa using hend
                  obtain ⟨hwl, hw12⟩ := hw.min
                  obtain ⟨hw1, hw2⟩ := hw12.min
                  have hlol := hwl l rfl
                  have hA0 : AR D m ⟨setArgs ps.toList args tmps, []⟩ { tmps := (ps.zip ⟨args'⟩).foldl (fun tmps (x : Tmp × Value) => tmps.setIfInBounds x.1 x.2) ⟨tmps'⟩, defers := [] } := by
                    refine ⟨?_, ⟨rfl, fun n hn => by simp at hn⟩⟩
                    have := setArgs_vr (D := D) (m := m) ps.toList args args' tmps ⟨tmps'⟩ hargs htm
                    have e : (ps.zip (⟨args'⟩ : Array Value)).foldl (fun tmps (x : Tmp × Value) => tmps.setIfInBounds x.1 x.2) (⟨tmps'⟩ : Array Value) = (ps.toList.zip args').foldl (fun tmps (x : Tmp × Value) => tmps.setIfInBounds x.1 x.2) ⟨tmps'⟩ := by
                      rw [← Array.foldl_toList]; simp
                    rw [e]; exact this
                  refine roundIn_of_wpIn (F := Fence.wide) trivial ?_
                  have hro : RoR D m (some l) (some (m l).block) := ⟨hD, rfl⟩
                  refine wpIn_mono (F := Fence.wide.inRound (m l).block) (exec_sound (ro' := some (m l).block) hC hDraw k assign _ h _ a1 h1 w1 hx hr hlo hw1 hA0 hro) ?_
                  rintro e' act1 W1 ⟨rfl, m1, hp1, hA1⟩
                  have hr1 := hp1.rel
                  have hD1 : Dx D h.length h1.length l := .inl hD
                  have hm1 := hp1.agree l hD
                  obtain ⟨hDd1, fn1, tmps1, hh1, htm1⟩ := hr1.ok l _ hD1 hl1
                  have hb := run_beginRound (P := P) hh1 rfl
                  rw [hm1] at hb hh1
                  refine ⟨_, hb, ?_⟩
                  have hput := hr1.put hD1 hlol hl1 (by simp) (.loop { state := .busy, pending := pend1, fn := fn1, tmps := ⟨tmps1⟩, params := p1, assign := as1, body := bd1, defers := (m1 d1).block }) (.loop .busy pend1 t1 p1 as1 bd1 d1)
                    ⟨hDd1, fn1, tmps1, World.putObj_heap_same (by rw [hm1]; exact (Array.getElem?_eq_some_iff.1 hh1).1), htm1⟩ trivial
                  rw [hm1] at hput
                  have hp2 := hp1.trans hput
                  have hA2 : AR (Dx (Dx D h.length h1.length) h1.length (h1.set l (.loop .busy pend1 t1 p1 as1 bd1 d1)).length) m1 a1 act1 := ⟨hput.vrs hA1.tm, hput.drs hA1.df⟩
                  have hro2 := hput.ror (hp1.ror hro)
                  refine wpIn_mono (F := Fence.wide.inRound (m l).block) (exec_sound (ro' := some (m l).block) hC hDraw k body a1 _ e2 a2 h2 w2 hx2 hput.rel (by simp; exact Nat.le_trans hlo hp1.grow) hw2 hA2 hro2) ?_
                  rintro e3 act3 W3 ⟨rfl, m3, hp3, hA3⟩
                  have hp4 := hp2.trans (by rw [← Dx.trans hp1.grow hput.grow]; exact hp3)
                  have hr3 := hp4.rel
                  have hD3 : Dx D h.length h2.length l := .inl hD
                  have hm3 := hp4.agree l hD
                  obtain ⟨hDd3, fn3, tmps3, hh3, htm3⟩ := hr3.ok l _ hD3 hl3
                  rw [hm3] at hh3
                  have hfin : ∃ v' w', (Instr.endRound (m l).block jump).run P W3 = .ok v' w' ∧ Good B lo D m h w (.bool jump.isNone) (h2.set l (.loop (if jump.isNone then .ready else .done) jump t3 p3 as3 b3 d3)) (.returned v') w' := by
                    have he := run_endRound (P := P) jump hh3
                    have hput3 := hr3.put hD3 hlol hl3 (by simp) (.loop { state := if jump.isNone then .ready else .done, pending := jump, fn := fn3, tmps := ⟨tmps3⟩, params := p3, assign := as3, body := b3, defers := (m3 d3).block })
                      (.loop (if jump.isNone then .ready else .done) jump t3 p3 as3 b3 d3) ⟨hDd3, fn3, tmps3, World.putObj_heap_same (by rw [hm3]; exact (Array.getElem?_eq_some_iff.1 hh3).1), htm3⟩ trivial
                    rw [hm3] at hput3
                    exact ⟨_, _, he, _, m3, rfl, hp4.trans hput3, .bool _⟩
                  rcases hjump with ⟨rfl, rfl⟩ | ⟨rfl, rfl⟩ | ⟨id, rfl, rfl⟩ <;> exact hfin
                · cases hend
              · cases hv
            · cases hv
          · cases hv
        · cases hv
      · cases hv
    · cases hv
  · cases hv

/-- with each depth more -/
theorem ctx_ok (hDraw : ∀ C, CtxOk P C → DrawSound P C) (k : Nat) : ∀ d, CtxOk P (ctx P k d)
  | 0 => ⟨fun h => by simp [ctx] at h, fun h => by simp [ctx] at h⟩
  | d + 1 => ⟨fun h => runCall_sound (ctx_ok hDraw k d) (hDraw _ (ctx_ok hDraw k d)) h, fun h => runRound_sound (ctx_ok hDraw k d) (hDraw _ (ctx_ok hDraw k d)) h⟩
end
end Go.Rex
