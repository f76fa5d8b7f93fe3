/- An executor of the program's functions on trees of values, proved sound. -/
import Derived.Test.YtkdhkfaakklhaaaGreatRexG4
import Derived.Test.YtkdhkfaakklhaaaGreatRexG3
set_option linter.unusedSimpArgs false
set_option linter.unusedVariables false
set_option linter.defProp false
namespace Go.Rex.Free
open Go.RowKit

section
variable {C : Ctx} {P : Program} {ops : Array Oper} {ms : List Nat} {tm0 : List Value} {h0 : List Blk} {T : Trace C P ops ms tm0 h0} {B lo : Nat} {D : Nat → Prop} {m0 : NMap} {w0 : World} {a0 : Act}
variable {listed : Array Bool} {a : Act} {w : World} {m : NMap} {b : Nat}

/-- all is done -/
theorem Inv.done (F : RegF ops ms) (hr0 : Rel B lo D m0 h0 w0) (hlo : lo ≤ h0.length) (hI : Inv T B lo D m0 w0 a0 listed a w m) (hall : ∀ i, i < ops.size → Ls listed i) :
    Post B lo D m0 h0 w0 m (T.St ops.size).h w ∧ VRs (Dx D h0.length (T.ln ops.size)) m (T.St ops.size).tm a.tmps.toList ∧ a.defers = a0.defers:=by
  have h0l : h0.length ≤ T.ln ops.size:=by rw [← Trace.ln0 (T:=T)];exact T.ln_mono (Nat.zero_le _) (Nat.le_refl _)
  obtain ⟨b,hA⟩:=hI.heap
  have hrel : Rel B lo (Dx D h0.length (T.ln ops.size)) m (T.St ops.size).h w:=hI.full F hr0 hlo hA (Nat.le_refl _) hA.bsz (fun k hk _=>hall k hk) (fun k h1 h2=>by omega)
  refine ⟨⟨hI.agree,hrel,hI.below,h0l⟩,⟨by rw [hI.tmps.len,T.tm_len (Nat.le_refl _)],fun t v v' hv hv'=>?_⟩,hI.tmps.df⟩
  have hlen:=T.tm_len (i:=ops.size) (Nat.le_refl _)
  have htl : t < tm0.length:=by
    obtain ⟨h1,_⟩:=List.getElem?_eq_some_iff.1 hv
    rw [hlen] at h1
    exact h1
  by_cases hw : ∃ (j : Nat) (p : Oper),ops[j]? = some p ∧ p.dst = some t
  · obtain ⟨j,p,hp,hd⟩:=hw
    have hj:=lt_of_ops hp
    rw [T.tm_new F hj (Nat.le_refl _) hp hd htl] at hv
    obtain rfl:=Option.some.inj hv
    refine (hI.tmps.new j p t v' hp (hall j hj) hd hv').mono ?_ (fun _ _=>rfl)
    rintro n (hn|⟨k,h2,h3,h4⟩)
    · exact .inl hn
    · have hkj : k ≤ j := by
        rcases h2 with rfl|h2
        · exact Nat.le_refl _
        · exact Nat.le_of_lt (F.lt j k h2)
      refine .inr ⟨?_,Nat.lt_of_lt_of_le h4 (T.ln_mono (by omega) (Nat.le_refl _))⟩
      rw [← Trace.ln0 (T:=T)]
      exact Nat.le_trans (T.ln_mono (Nat.zero_le _) (by omega)) h3
  · rw [T.tm_old (Nat.le_refl _) fun k o _ ho hd=>hw ⟨k,o,ho,hd⟩] at hv
    exact (hI.tmps.old t v v' (fun k o ho _ hd=>hw ⟨k,o,ho,hd⟩) hv hv').mono (fun _=>.inl) (fun _ _=>rfl)

theorem Inv.pre (F : RegF ops ms) (hI : Inv T B lo D m0 w0 a0 listed a w m) {i : Nat} {o : Oper} (ho : ops[i]? = some o) (h : ∀ e ∈ o.after,Region.binds .any e = true → Ls listed e.on) : ∀ j,(nthN ms i).testBit j = true → Ls listed j:=by
  intro j hj
  obtain ⟨e,he,hb,h2⟩:=(F.wait i o ho j).1 hj
  rcases h2 with rfl|h2
  · exact h e he hb
  · exact hI.down e.on j (h e he hb) h2

theorem ptr_dp {S : Nat → Prop} {m : NMap} {v v' : Value} {n : Nat} (h : VR S m v v') (hp : ptrName v = some n) : S n:=by
  cases h<;>simp only [ptrName] at hp<;>first
    | (cases hp;done)
    | (cases hp;assumption)

theorem xop_of_hop {ρ : Operand → Value} {o : Oper} {h : List Blk} {r : Value × List Blk × Option Nat} (hx : hop P ρ o h = some r) : xop C P ρ o h = some r:=by
  unfold xop;rw [hx]

/-- all orders -/
theorem Inv.all (hC : CtxOk P C) (F : RegF ops ms) (hr0 : Rel B lo D m0 h0 w0) (hlo : lo ≤ h0.length) (hwr : WrOk lo (T.St ops.size).wr) {ro : Option Nat} {n : Nat} {Q : Exit → Act → World → Prop}
    (hQ : ∀ a' w' m',Post B lo D m0 h0 w0 m' (T.St ops.size).h w' → VRs (Dx D h0.length (T.ln ops.size)) m' (T.St ops.size).tm a'.tmps.toList → a'.defers = a0.defers → Q .normal a' w') :
    ∀ (fuel : Nat) (listed : Array Bool) (a : Act) (w : World) (m : NMap),Inv T B lo D m0 w0 a0 listed a w m → listed.toList.count false ≤ fuel → wpAnyIn (Fw ro) n P .any ops Q fuel listed a w:=by
  intro fuel
  induction fuel with
  | zero =>
    intro listed a w m hI hc
    have hno : Region.ready .any ops listed = []:=by
      cases hr : Region.ready .any ops listed with
      | nil=>rfl
      | cons i l =>
        obtain ⟨h1,h2,_⟩:=ready_ls hI.size (hr ▸ List.mem_cons_self : i ∈ Region.ready .any ops listed)
        have:=count_set (by rw [hI.size];exact h1) h2
        omega
    obtain ⟨h1,h2,h3⟩:=hI.done F hr0 hlo (ready_none F hI.size hno)
    exact ⟨hno,hQ a w m h1 h2 h3⟩
  | succ fuel ih =>
    intro listed a w m hI hc
    refine ⟨fun hno=>?_,fun i hir=>?_⟩
    · obtain ⟨h1,h2,h3⟩:=hI.done F hr0 hlo (ready_none F hI.size hno)
      exact hQ a w m h1 h2 h3
    · obtain ⟨hil,hi,o,ho,hedge⟩:=ready_ls hI.size hir
      have hpre:=hI.pre F ho hedge
      have hcnt:=count_set (listed:=listed) (by rw [hI.size];exact hil) hi
      have hgl:=hr0.gl.mono (fun _ h=>h) hI.agree (Nat.le_refl _) hI.below
      have hgq : Gl B (Dp T D i) m w:=hgl.mono (fun _=>.inl) (fun _ _=>rfl)
      have hBw : B ≤ w.heap.size:=Nat.le_trans hr0.le hI.below.size
      have hgp : Gl w.heap.size (Dp T D i) m w:=hgq.mono (fun _ h=>h) (fun _ _=>rfl) hBw
      have hρ:=hI.tmps.operands hgl F hI.down ho hi hpre
      have hwant:=hI.tmps.wanted F hI.down ho hi hpre
      have hdom:=hr0.dom
      obtain ⟨b,hA⟩:=hI.heap
      have h0l : h0.length ≤ T.ln i:=by rw [← Trace.ln0 (T:=T)];exact T.ln_mono (Nat.zero_le _) (by omega)
      have hDp : ∀ k,Dp T D i k → k < T.ln i:=by
        rintro k (hk|⟨j,h2,h3,h4⟩)
        · have:=hdom k hk;omega
        · exact Nat.lt_of_lt_of_le h4 (T.ln_mono (F.lt i j h2) (by omega))
      unfold wpOpIn
      rw [ho]
      simp only
      rw [hwant]
      have hkp:=T.kp i o ho
      generalize hkd : T.kd i = kk at hkp
      cases hkp with
      | skip vv hw hs =>
        rw [if_neg (by rw [hw];simp)]
        refine ⟨fun _ _=>trivial,?_⟩
        exact ih _ _ _ m (hI.quiet F ho hpre hkd (by rw [vv];exact VR.undef)) (by omega)
      | pure hw hp hs =>
        rw [if_pos hw]
        obtain ⟨v',h1,h2⟩:=pop_sound hρ hp
        refine ⟨fun _ _=>trivial,?_⟩
        show o.uponIn (Fw ro) n P a _ Q ((o.semAt ro a.eval).run P w)
        rw [Oper.semAt_eq _ _ _ (pop_nodefer hp),h1 w]
        exact ih _ _ _ m (hI.quiet F ho hpre hkd (h2.mono (fun _ h=>h.dm) (fun _ _=>rfl))) (by omega)
      | mk nb hw hx ht hb hs =>
        rw [if_pos hw]
        obtain ⟨_,nb',hnb,hall⟩:=hop_mk ht hx
        obtain rfl:=List.append_cancel_left hnb
        have hx':=hall (lone (T.ln i) 0 .dead) (lone_len _ _ _)
        have hR : Rel w.heap.size (T.ln i) (Dp T D i) m (lone (T.ln i) 0 .dead) w:=Rel.lone hgp hDp trivial fun h=>absurd rfl h
        refine xop_in' hC hR (by rw [lone_len];exact Nat.le_refl _) hρ (xop_of_hop (C:=C) hx') (fun _ h=>by cases h) _ fun v' w' m' hp hv=>?_
        have hlen : T.ln (i + 1) = (lone (T.ln i) 0 .dead ++ nb).length:=by unfold Trace.ln;rw [hs];simp [lone_len]
        obtain ⟨m'',hI'⟩:=hI.made F hr0 hlo ho hi hpre (by rw [hkd];simp) (by rw [hkd];simp) (by rw [hkd];rfl) hA (lone_len _ _ _) hlen (fun k hk=>by
          rw [hs]
          simp only
          rw [List.getElem?_append_right hk,List.getElem?_append_right (by rw [lone_len];exact hk),lone_len]) hp hv
        exact ih _ _ _ m'' hI' (by omega)
      | rd n' nb hw hx ht hb hr hs =>
        rw [if_pos hw]
        obtain ⟨nb',hnb,_,hall,y,hy,hyn⟩:=hop_rd ht hx
        obtain rfl:=List.append_cancel_left hnb
        have hd : Dp T D i n':=ptr_dp (hρ y hy) hyn
        have hni:=hDp n' hd
        obtain ⟨x,hxn⟩ : ∃ x,(T.St i).h[n']? = some x:=⟨_,List.getElem?_eq_getElem hni⟩
        obtain ⟨S,hat,hS⟩:=hI.sees F hdom hA hil hi hpre (.inl (by rw [hkd];simp [tkOf,seesT])) hd hxn
        have hR : Rel w.heap.size (T.ln i) (Dp T D i) m (lone (T.ln i) n' x) w:=Rel.lone hgp hDp ((hA.ok n' x S hat).mono hS (fun _ _=>rfl) rfl) (hA.lt n' x S hat)
        have hx':=hall (lone (T.ln i) n' x) (lone_len _ _ _) (by rw [lone_at hni,hxn])
        refine xop_in' hC hR (by rw [lone_len];exact Nat.le_refl _) hρ (xop_of_hop (C:=C) hx') (fun _ h=>by cases h) _ fun v' w' m' hp hv=>?_
        have hlen : T.ln (i + 1) = (lone (T.ln i) n' x ++ nb).length:=by unfold Trace.ln;rw [hs];simp [lone_len]
        obtain ⟨m'',hI'⟩:=hI.made F hr0 hlo ho hi hpre (by rw [hkd];simp) (by rw [hkd];simp) (by rw [hkd];rfl) hA (lone_len _ _ _) hlen (fun k hk=>by
          rw [hs]
          simp only
          rw [List.getElem?_append_right hk,List.getElem?_append_right (by rw [lone_len];exact hk),lone_len]) hp hv
        exact ih _ _ _ m'' hI' (by omega)
      | ap n' n2 x nb hw hx ht hb hr hr2 hs =>
        rw [if_pos hw]
        obtain ⟨_,hne,⟨b0,hb0,hnd⟩,⟨x',nb',hxx,hall⟩,a1,a2,_,_,_,_,_,_,hoe,hy1,hy2⟩:=hop_ap ht hx
        have hd : Dp T D i n':=ptr_dp (hρ a1 (by rw [hoe];simp [Op.operands,Call.operands])) hy1
        have hd2 : Dp T D i n2:=ptr_dp (hρ a2 (by rw [hoe];simp [Op.operands,Call.operands])) hy2
        have hni:=hDp n' hd
        have hni2:=hDp n2 hd2
        have hlon : lo ≤ n':=by
          have:=T.wr_le (i:=i + 1) (j:=ops.size) hil (Nat.le_refl _) hwr
          rw [hs] at this
          exact this.min.2 n' rfl
        obtain ⟨x2,hxn2⟩ : ∃ x,(T.St i).h[n2]? = some x:=⟨_,List.getElem?_eq_getElem hni2⟩
        obtain ⟨S,hat,hS⟩:=hI.sees F hdom hA hil hi hpre (.inl (by rw [hkd];simp [tkOf,seesT])) hd hb0
        obtain ⟨S2,hat2,hS2⟩:=hI.sees F hdom hA hil hi hpre (.inl (by rw [hkd];simp [tkOf,seesT])) hd2 hxn2
        have hR : Rel B lo (Dp T D i) m (pairH (T.ln i) n' b0 n2 x2) w:=by
          refine ⟨Nat.le_trans hr0.le hI.below.size,fun k hk=>by rw [pair_len];exact hDp k hk,?_,?_,?_,?_,?_,?_,hgq⟩
          · intro k y hk hy
            rcases pair_get hy with ⟨rfl,rfl⟩|⟨rfl,rfl⟩|rfl
            · exact (hA.ok _ _ S hat).mono hS (fun _ _=>rfl) rfl
            · exact (hA.ok _ _ S2 hat2).mono hS2 (fun _ _=>rfl) rfl
            · trivial
          · intro k y hk hy hyd
            rcases pair_get hy with ⟨rfl,rfl⟩|⟨rfl,rfl⟩|rfl
            · exact hA.lt _ _ S hat hyd
            · exact hA.lt _ _ S2 hat2 hyd
            · exact absurd rfl hyd
          · intro k y hk hl hy hyd
            rcases pair_get hy with ⟨rfl,rfl⟩|⟨rfl,rfl⟩|rfl
            · exact hA.base _ _ S hat hl hyd
            · exact hA.base _ _ S2 hat2 hl hyd
            · exact absurd rfl hyd
          · intro k y hk hl hy hyd
            rcases pair_get hy with ⟨rfl,rfl⟩|⟨rfl,rfl⟩|rfl
            · exact hA.low _ _ S hat hl hyd
            · exact hA.low _ _ S2 hat2 hl hyd
            · exact absurd rfl hyd
          · intro k y hk hl hy
            rcases pair_get hy with ⟨rfl,rfl⟩|⟨rfl,rfl⟩|rfl
            · exact hA.own _ _ S hat hl
            · exact hA.own _ _ S2 hat2 hl
            · trivial
          · intro k k' y y' hk hk' hl hl' hy hy' hyd hyd' he
            have hc : ∀ k y,(pairH (T.ln i) n' b0 n2 x2)[k]? = some y → y ≠ .dead → ∃ S,At T D b listed k y S:=by
              intro k y hy hyd
              rcases pair_get hy with ⟨rfl,rfl⟩|⟨rfl,rfl⟩|rfl
              · exact ⟨S,hat⟩
              · exact ⟨S2,hat2⟩
              · exact absurd rfl hyd
            obtain ⟨_,g1⟩:=hc k y hy hyd
            obtain ⟨_,g2⟩:=hc k' y' hy' hyd'
            exact hA.inj k y _ k' y' _ g1 g2 hl hl' hyd hyd' he
        have hx':=hall (pairH (T.ln i) n' b0 n2 x2) (pair_len _ _ _ _ _) (by rw [pair_at hni hne,hb0]) (by rw [pair_at2 (by exact hni2),hxn2])
        obtain ⟨v',w',m',h1,h2,h3,h4,h5⟩:=ap_run hR (by rw [pair_len];omega) hρ ht hx' hlon
        have hlx : (T.St i).h.length = T.ln i:=rfl
        have hxe : nb' = nb ∧ x' = x:=by
          have e1 : ((T.St i).h.set n' x' ++ nb').length = ((T.St i).h.set n' x ++ nb).length:=by rw [hxx]
          obtain ⟨e2,e3⟩:=List.append_inj hxx.symm (by simp)
          refine ⟨e3,?_⟩
          have e4 : ((T.St i).h.set n' x')[n']? = some x':=List.getElem?_set_self hni
          rw [e2,List.getElem?_set_self hni] at e4
          exact (Option.some.inj e4).symm
        obtain ⟨rfl,rfl⟩:=hxe
        have hlen : T.ln (i + 1) = ((pairH (T.ln i) n' b0 n2 x2).set n' x' ++ nb').length:=by unfold Trace.ln;rw [hs];simp [pair_len]
        obtain ⟨m'',hI'⟩:=hI.append F hr0 hlo ho hi hpre hkd hA hd hlon hat hnd (pair_len _ _ _ _ _) hlen (fun k hk=>by
          rw [hs]
          simp only
          rw [List.getElem?_append_right (by rw [List.length_set];exact hk),List.getElem?_append_right (by rw [List.length_set,pair_len];exact hk),List.length_set,List.length_set,pair_len]) (by
          rw [hs]
          simp only
          rw [List.getElem?_append_left (by rw [List.length_set];exact hni),List.getElem?_append_left (by rw [List.length_set,pair_len];exact hni),List.getElem?_set_self hni,List.getElem?_set_self (by rw [pair_len];exact hni)]) h2 h3 h4 h5
        refine ⟨fun _ _=>trivial,?_⟩
        show o.uponIn (Fw ro) n P a _ Q ((o.semAt ro a.eval).run P w)
        rw [Oper.semAt_eq _ _ _ (hop_nodefer hx),h1]
        exact ih _ _ _ m'' hI' (by omega)
      | wr n' x hw hx ht hb hr hs =>
        rw [if_pos hw]
        obtain ⟨_,hvu,⟨b0,hb0,hnd⟩,⟨x',hxx,hall⟩,y,hy,hyn⟩:=hop_wr ht hx
        have hd : Dp T D i n':=ptr_dp (hρ y hy) hyn
        have hni:=hDp n' hd
        have hlon : lo ≤ n':=by
          have:=T.wr_le (i:=i + 1) (j:=ops.size) hil (Nat.le_refl _) hwr
          rw [hs] at this
          exact this.min.2 n' rfl
        obtain ⟨S,hat,hS⟩:=hI.sees F hdom hA hil hi hpre (.inl (by rw [hkd];simp [tkOf,seesT])) hd hb0
        have hR : Rel B lo (Dp T D i) m (lone (T.ln i) n' b0) w:=Rel.loneW hgq hBw hDp ((hA.ok n' b0 S hat).mono hS (fun _ _=>rfl) rfl) (hA.lt n' b0 S hat) hlon (hA.base n' b0 S hat hlon) (hA.own n' b0 S hat hlon)
        have hx':=hall (lone (T.ln i) n' b0) (by rw [lone_at hni,hb0])
        obtain ⟨w',h1,h2,h3⟩:=wr_run hR hρ ht hx' hlon
        have hset : (T.St (i + 1)).h[n']? = some x:=by rw [hs];exact List.getElem?_set_self hni
        have hxe : x' = x:=by
          have e1 : ((T.St i).h.set n' x')[n']? = some x':=List.getElem?_set_self hni
          rw [← hxx,List.getElem?_set_self hni] at e1
          exact (Option.some.inj e1).symm
        have hget : ((lone (T.ln i) n' b0).set n' x')[n']? = some x:=by rw [List.getElem?_set_self (by rw [lone_len];exact hni),hxe]
        have hdx : Dx (Dp T D i) (lone (T.ln i) n' b0).length ((lone (T.ln i) n' b0).set n' x').length = Dp T D i:=by rw [List.length_set,Dx.refl]
        have hok:=h2.rel.ok n' x (.inl hd) hget
        have hown:=h2.rel.own n' x (.inl hd) hlon hget
        rw [hdx] at hok
        refine ⟨fun _ _=>trivial,?_⟩
        show o.uponIn (Fw ro) n P a _ Q ((o.semAt ro a.eval).run P w)
        rw [Oper.semAt_eq _ _ _ (hop_nodefer hx),h1]
        exact ih _ _ _ m (hI.write F hr0 ho hi hpre hkd hA hd hlon hat hnd hset h3 hok hown (v':=undef) (by rw [hvu];exact VR.undef)) (by omega)
      | all h1 w1 hw hx hb hg hl hr hs =>
        rw [if_pos hw]
        have key : ∀ k x,Dp T D i k → (T.St i).h[k]? = some x → ∃ S,At T D b listed k x S ∧ ∀ j,S j → Dp T D i j:=fun k x hk hx=>hI.sees F hdom hA hil hi hpre (.inr hkd) hk hx
        have hR : Rel w.heap.size (T.ln i) (Dp T D i) m (T.St i).h w:=by
          refine ⟨Nat.le_refl _,hDp,?_,?_,?_,?_,?_,?_,hgp⟩
          · intro k x hk hx
            obtain ⟨S,h1,h2⟩:=key k x hk hx
            exact (hA.ok k x S h1).mono h2 (fun _ _=>rfl) rfl
          · intro k x hk hx
            obtain ⟨S,h1,h2⟩:=key k x hk hx
            exact hA.lt k x S h1
          · intro k x hk hl;have:=hDp k hk;omega
          · intro k x hk _ hx
            obtain ⟨S,h1,h2⟩:=key k x hk hx
            exact hA.lt k x S h1
          · intro k x hk hl;have:=hDp k hk;omega
          · intro k k' x x' hk hk' hl;have:=hDp k hk;omega
        refine xop_in' hC hR (Nat.le_refl _) hρ hx (wge_ok hg) _ fun v' w' m' hp hv=>?_
        have hlen : T.ln (i + 1) = h1.length:=by unfold Trace.ln;rw [hs];simp;omega
        obtain ⟨m'',hI'⟩:=hI.made F hr0 hlo ho hi hpre (by rw [hkd];simp) (by rw [hkd];simp) (by rw [hkd];rfl) hA rfl hlen (fun k hk=>by
          rw [hs]
          simp only
          rw [List.getElem?_append_right hk,List.getElem?_drop]
          congr 1
          unfold Trace.ln at hk
          omega) hp hv
        exact ih _ _ _ m'' hI' (by omega)
      | ch h1 w1 hw hx hb hn hl hs =>
        rw [if_pos hw]
        obtain ⟨_,hbi⟩:=hI.phase F hA hil hi hpre (by rw [hkd];simp)
        have hR : Rel B lo (Dx D h0.length (T.ln i)) m (T.St i).h w:=by
          refine hI.full F hr0 hlo hA (by omega) hbi (fun k hk hq=>hpre k (T.chain_waits F hil hkd k hk hq)) fun k h1 h2 hL=>?_
          by_cases hq : T.kd k = .q
          · exact hq
          · have hne : k ≠ i:=fun e=>hi (e ▸ hL)
            exact absurd (hI.down k i hL (T.after F (by omega) h2 hkd hq)) hi
        have hw1 : WrOk lo w1:=by
          have:=T.wr_le (i:=i + 1) (j:=ops.size) hil (Nat.le_refl _) hwr
          rw [hs] at this
          exact this.min.2
        refine xop_in' hC hR (Nat.le_trans hlo h0l) (fun x hx'=>(hρ x hx').mono ?_ (fun _ _=>rfl)) hx hw1 _ fun v' w' m' hp hv=>?_
        · rintro k (hk|⟨j,h2,h3,h4⟩)
          · exact .inl hk
          · have hji:=F.lt i j h2
            refine .inr ⟨?_,Nat.lt_of_lt_of_le h4 (T.ln_mono hji (by omega))⟩
            rw [← Trace.ln0 (T:=T)]
            exact Nat.le_trans (T.ln_mono (Nat.zero_le _) (by omega)) h3
        · exact ih _ _ _ m' (hI.barrier F hr0 hlo ho hi hpre hkd (h1:=h1) (by rw [hs]) hp hv) (by omega)
end

theorem freeSound {P : Program} {C : Ctx} (hC : CtxOk P C) (hm : P.follows .mixedOrders = true) {id : Nat} {ops : Array Oper} {tm tm' : List Value} {h h' : List Blk} {wr : Option Nat} (hv : runFree C P ops tm h = some (tm', h', wr))
    {ro' : Option Nat} {n B lo : Nat} {D : Nat → Prop} {m : NMap} {w : World} {a : Act} {Q : Exit → Act → World → Prop} (hr : Rel B lo D m h w) (hlo : lo ≤ h.length) (hA : VRs D m tm a.tmps.toList) (hw : WrOk lo wr)
    (hQ : ∀ a' w' m',Post B lo D m h w m' h' w' → VRs (Dx D h.length h'.length) m' tm' a'.tmps.toList → a'.defers = a.defers → Q .normal a' w') : (Code.region id ops true).wpIn (Fw ro') n P Q a w:=by
  unfold runFree at hv
  split at hv
  · rename_i hok
    have F:=freeOk_facts hok
    cases hx : freeAll C P ops (masks ops.toList []) ops.toList 0 { tm,h,rs:=[],b:=h.length,bar:=none,wr:=none } with
    | none=>rw [hx] at hv;cases hv
    | some s =>
      rw [hx] at hv
      obtain ⟨rfl,rfl,rfl⟩ : s.tm = tm' ∧ s.h = h' ∧ s.wr = wr:=by simpa using hv
      obtain ⟨T,hT⟩:=trace_of hx
      have hrd:=hr.frame (w':=w.drew) ((Below.refl _ _).drew)
      have hno : ∀ i,¬ Ls (Array.replicate ops.size false) i:=by
        intro i hi
        unfold Ls at hi
        simp only [Array.getD_eq_getD_getElem?,Array.getElem?_replicate] at hi
        split at hi<;>simp at hi
      have hat : ∀ n x S,At T D 0 (Array.replicate ops.size false) n x S → S = D ∧ D n ∧ h[n]? = some x:=by
        intro n x S hx
        cases hx with
        | old h1 h2 h3 =>
          have e : Dx D h.length (T.ln 0) = D:=by rw [Trace.ln0,Dx.refl]
          rw [e] at h1
          rw [T.st0] at h3
          exact ⟨e,h1,h3⟩
        | cur j h1 h2 h3=>exact absurd h3 (hno j)
      refine wpIn_region_any hm ?_
      refine Inv.all (T:=T) (m0:=m) (w0:=w.drew) (a0:=a) hC F hrd hlo (by rw [hT];exact hw) ?_ ops.size _ a w.drew m ⟨by simp,fun i j hi=>absurd hi (hno i),fun _ _=>rfl,⟨rfl,hA.len,fun i o t v' _ hi=>absurd hi (hno i),fun t v v' _ h1 h2=>hA.at' t v v' h1 h2⟩,Below.refl _ _,
        fun k n _ hi=>absurd hi (hno k),0,⟨Nat.zero_le _,.inl rfl,fun i _ _ hi=>absurd hi (hno i),?_,?_,?_,?_,?_,?_⟩⟩ ?_
      · intro a' w' m' hp hvs hd
        unfold Trace.ln at hvs
        rw [hT] at hp hvs
        exact hQ a' w' m' ((Post.frame hr (w':=w.drew) ((Below.refl _ _).drew)).trans (by rw [Dx.refl];exact hp)) hvs hd
      · intro n x S hx
        obtain ⟨rfl,h1,h2⟩:=hat n x S hx
        exact hrd.ok n x h1 h2
      · intro n x S hx
        obtain ⟨rfl,h1,h2⟩:=hat n x S hx
        exact hrd.lt n x h1 h2
      · intro n x S hx hl
        obtain ⟨rfl,h1,h2⟩:=hat n x S hx
        exact hrd.base n x h1 hl h2
      · intro n x S hx hl
        obtain ⟨rfl,h1,h2⟩:=hat n x S hx
        exact hrd.low n x h1 hl h2
      · intro n x S hx hl
        obtain ⟨rfl,h1,h2⟩:=hat n x S hx
        exact hrd.own n x h1 hl h2
      · intro n x S n' x' S' hx hx' hl hl'
        obtain ⟨rfl,h1,h2⟩:=hat n x S hx
        obtain ⟨rfl,h1',h2'⟩:=hat n' x' S' hx'
        exact hrd.inj n n' x x' h1 h1' hl hl' h2 h2'
      · rw [Array.toList_replicate,List.count_replicate];simp
  · cases hv
end Go.Rex.Free
namespace Go.Rex
theorem drawSound {P : Program} {C : Ctx} (hC : CtxOk P C) (hm : P.follows .mixedOrders = true) {id : Nat} {ops : Array Oper} {tm tm' : List Value} {h h' : List Blk} {wr : Option Nat} (hv : runDraw C P ops tm h = some (tm', h', wr))
    {ro' : Option Nat} {n B lo : Nat} {D : Nat → Prop} {m : NMap} {w : World} {a : Act} {Q : Exit → Act → World → Prop} (hr : Rel B lo D m h w) (hlo : lo ≤ h.length) (hA : VRs D m tm a.tmps.toList) (hw : WrOk lo wr)
    (hQ : ∀ a' w' m',Post B lo D m h w m' h' w' → VRs (Dx D h.length h'.length) m' tm' a'.tmps.toList → a'.defers = a.defers → Q .normal a' w') : (Code.region id ops true).wpIn (Fw ro') n P Q a w:=by
  unfold runDraw at hv
  split at hv
  · exact Free.freeSound hC hm hv hr hlo hA hw hQ
  · exact drawSound1 hC hm hv hr hlo hA hw hQ
end Go.Rex

namespace Go.Rex
open Go.RowKit

theorem ctx_sound {P : Program} (hm : P.follows .mixedOrders = true) (k d : Nat) : CtxOk P (ctx P k d) :=
  ctx_ok (fun _ hC {_ _ _ _ _ _ _} hv {_ _ _ _ _ _ _ _ _} hr hlo hA hw hQ=>drawSound hC hm hv hr hlo hA hw hQ) k d

/-- a call that the executor carries out, in whatever world -/
theorem calls_of_ecall {P : Program} (hm : P.follows .mixedOrders = true) {k d : Nat} {f : FuncId} {args : List Value} {h h' : List Blk} {v : Value} {wr : Option Nat} (hv : ecall P k d f args h = some (v, h', wr))
    {B lo : Nat} {D : Nat → Prop} {m : NMap} {w : World} {args' : List Value} (hr : Rel B lo D m h w) (hlo : lo ≤ h.length) (hw : WrOk lo wr) (hargs : VRs D m args args') : Calls P f ⟨args'⟩ w (Good B lo D m h w v h') :=
  (ctx_sound hm k d).call hv hr hlo hw hargs

/-- where the variables of packages lie -/
def gm : NMap:=fun g=>match GH[g]? with
  | some (.cells es c)=>⟨g,0,c.length,es⟩
  | _=>⟨g,0,0,0⟩
def ghB : Blk → Bool
  | .cells _ c=>c.all isClean
  | _=>false
theorem gh_ok : GH.all ghB = true:=by decide +kernel
theorem gm_at (g : Nat) : (gm g).block = g ∧ (gm g).off = 0:=by unfold gm;split<;>exact ⟨rfl,rfl⟩
theorem Rel.start (w : World) (hw : GW w) (hs : NG ≤ w.heap.size) : Rel w.heap.size NG (fun n=>n < NG) gm GH w:=by
  refine ⟨Nat.le_refl _,fun n h=>h,fun n b hn hb=>?_,fun n b hn hb _=>?_,fun n b hn hl=>?_,fun n b hn _ hb _=>?_,fun n b hn hl=>?_,fun n n' b b' hn _ hl=>?_,⟨fun g hg=>⟨hg,gm_at g⟩,hs,hw⟩⟩
  · have h1:=List.all_eq_true.1 gh_ok b (List.mem_of_getElem? hb)
    cases b with
    | cells es c =>
      refine ⟨by unfold gm;rw [hb],fun i v hv=>?_⟩
      have h2:=hw n es c hb i v hv
      refine ⟨v,?_,VR.of_clean depth v (List.all_eq_true.1 h1 v (List.mem_of_getElem? hv))⟩
      rw [(gm_at n).1,(gm_at n).2,Nat.zero_add]
      exact h2
    | _=>cases h1
  · rw [(gm_at n).1];exact Nat.lt_of_lt_of_le hn hs
  · have : n < NG:=hn;omega
  · rw [(gm_at n).1];exact Nat.lt_of_lt_of_le hn hs
  · have : n < NG:=hn;omega
  · have : n < NG:=hn;omega

def isTrue : AOut → Bool
  | some (.bool true,_,none)=>true
  | _=>false
/-- a closed call that yields true -/
theorem true_of_ecall {P : Program} (hm : P.follows .mixedOrders = true) {k d : Nat} {f : FuncId} (hv : isTrue (ecall P k d f [] GH) = true) (w : World) (hgw : GW w) (hgs : NG ≤ w.heap.size) :
    Calls P f #[] w fun e w'=>e = .returned (.bool true) ∧ Below w.heap.size w w':=by
  unfold isTrue at hv
  split at hv
  · rename_i h' hx
    refine (calls_of_ecall hm hx (Rel.start w hgw hgs) (Nat.le_refl _) (fun n h=>by cases h) (args':=[]) VRs.nil).mono ?_
    rintro e w' ⟨v',m',rfl,hp,hvr⟩
    cases hvr
    exact ⟨rfl,hp.below⟩
  · cases hv
end Go.Rex

namespace Go.Rex
open Go.RowKit

/-! ### more fuel,more depth: nothing else -/
section
variable {P : Program} {C : Ctx} {ro : Option Nat}

theorem exec_mono : ∀ (k : Nat) (c : Code) (a : AS) (h : List Blk) {r : Exit × AS × List Blk × Option Nat},exec C P ro k c a h = some r → ∀ j,exec C P ro (k + j) c a h = some r:=by
  intro k
  induction k using Nat.strongRecOn with
  | _ k ih =>
  cases k with
  | zero=>intro c a h r hv;simp [exec] at hv
  | succ k =>
  intro c a h r hv j
  rw [show k + 1 + j = k + j + 1 by omega]
  cases c with
  | seq x y =>
    simp only [exec] at hv ⊢
    cases hx : exec C P ro k x a h with
    | none=>rw [hx] at hv;cases hv
    | some r1 =>
      obtain ⟨e1,a1,h1,w1⟩:=r1
      rw [hx] at hv
      rw [ih k (by omega) x a h hx j]
      cases e1 with
      | normal =>
        simp only at hv ⊢
        cases hy : exec C P ro k y a1 h1 with
        | none=>rw [hy] at hv;cases hv
        | some r2 =>
          rw [hy] at hv
          rw [ih k (by omega) y a1 h1 hy j]
          exact hv
      | _=>exact hv
  | cond x y z =>
    simp only [exec] at hv ⊢
    split at hv
    · rename_i hc
      rw [if_pos hc]
      split at hv
      · rename_i t ht
        cases t with
        | true=>exact ih k (by omega) y a h hv j
        | false=>exact ih k (by omega) z a h hv j
      · cases hv
    · cases hv
  | block id b =>
    simp only [exec] at hv ⊢
    cases hx : exec C P ro k b a h with
    | none=>rw [hx] at hv;cases hv
    | some r1 =>
      rw [hx] at hv
      rw [ih k (by omega) b a h hx j]
      exact hv
  | loop b =>
    simp only [exec] at hv ⊢
    cases hx : exec C P ro k b a h with
    | none=>rw [hx] at hv;cases hv
    | some r1 =>
      obtain ⟨e1,a1,h1,w1⟩:=r1
      rw [hx] at hv
      rw [ih k (by omega) b a h hx j]
      cases e1 with
      | normal =>
        simp only at hv ⊢
        cases hy : exec C P ro k (.loop b) a1 h1 with
        | none=>rw [hy] at hv;cases hv
        | some r2 =>
          rw [hy] at hv
          rw [ih k (by omega) (.loop b) a1 h1 hy j]
          exact hv
      | _=>exact hv
  | _=>simpa only [exec] using hv
theorem exec_le {k k' : Nat} (hk : k ≤ k') {c : Code} {a : AS} {h : List Blk} {r : Exit × AS × List Blk × Option Nat} (hv : exec C P ro k c a h = some r) : exec C P ro k' c a h = some r:=by
  have:=exec_mono k c a h hv (k' - k)
  rwa [show k + (k' - k) = k' by omega] at this
end

def Evt (p : Nat → Nat → Prop) : Prop:=∃ N,∀ k d,N ≤ k → N ≤ d → p k d
theorem Evt.all {p : Nat → Nat → Prop} (h : ∀ k d,p k d) : Evt p:=⟨0,fun k d _ _=>h k d⟩
theorem Evt.and {p q : Nat → Nat → Prop} (h : Evt p) (g : Evt q) : Evt fun k d=>p k d ∧ q k d:=by
  obtain ⟨a,ha⟩:=h
  obtain ⟨b,hb⟩:=g
  exact ⟨max a b,fun k d hk hd=>⟨ha k d (by omega) (by omega),hb k d (by omega) (by omega)⟩⟩
theorem Evt.mono {p q : Nat → Nat → Prop} (h : Evt p) (g : ∀ k d,p k d → q k d) : Evt q:=by
  obtain ⟨a,ha⟩:=h
  exact ⟨a,fun k d hk hd=>g k d (ha k d hk hd)⟩

open Classical in
/-- what a call yields with as much fuel and depth as it takes -/
noncomputable def lim (P : Program) : Ctx :=
  ⟨fun f args h=>if hx : ∃ r,Evt fun k d=>(ctx P k d).call f args h = some r then some (Classical.choose hx) else none,
   fun l args h=>if hx : ∃ r,Evt fun k d=>(ctx P k d).round l args h = some r then some (Classical.choose hx) else none⟩

section
variable {P : Program}
theorem lim_call {f : FuncId} {args : List Value} {h : List Blk} {r : Value × List Blk × Option Nat} : (lim P).call f args h = some r ↔ Evt fun k d=>(ctx P k d).call f args h = some r:=by
  unfold lim
  simp only
  constructor
  · intro hv
    split at hv
    · rename_i hx
      obtain rfl:=Option.some.inj hv
      exact Classical.choose_spec hx
    · cases hv
  · intro hv
    have hx : ∃ r,Evt fun k d=>(ctx P k d).call f args h = some r:=⟨r,hv⟩
    rw [dif_pos hx]
    obtain ⟨N,hN⟩:=(Classical.choose_spec hx).and hv
    obtain ⟨h1,h2⟩:=hN N N (Nat.le_refl _) (Nat.le_refl _)
    rw [← h1,h2]
theorem lim_round {l : Nat} {args : List Value} {h : List Blk} {r : Value × List Blk × Option Nat} : (lim P).round l args h = some r ↔ Evt fun k d=>(ctx P k d).round l args h = some r:=by
  unfold lim
  simp only
  constructor
  · intro hv
    split at hv
    · rename_i hx
      obtain rfl:=Option.some.inj hv
      exact Classical.choose_spec hx
    · cases hv
  · intro hv
    have hx : ∃ r,Evt fun k d=>(ctx P k d).round l args h = some r:=⟨r,hv⟩
    rw [dif_pos hx]
    obtain ⟨N,hN⟩:=(Classical.choose_spec hx).and hv
    obtain ⟨h1,h2⟩:=hN N N (Nat.le_refl _) (Nat.le_refl _)
    rw [← h1,h2]

theorem xop_lim {ρ : Operand → Value} {o : Oper} {h : List Blk} {r : Value × List Blk × Option Nat} (hv : xop (lim P) P ρ o h = some r) : Evt fun k d=>xop (ctx P k d) P ρ o h = some r:=by
  unfold xop at hv ⊢
  split at hv
  · rename_i r' hh
    exact .all fun k d=>hv
  · split at hv
    · rename_i c hc
      unfold xcall at hv ⊢
      split at hv
      · rename_i f hf
        split at hv
        · rename_i fn first captured hfv
          split at hv
          · rename_i g
            split at hv
            · rename_i fd hfd
              split at hv
              · rename_i bd hbd
                split at hv
                · rename_i hn
                  simp only [if_pos hn]
                  exact lim_call.1 hv
                · cases hv
              · rename_i hbd
                exact .all fun k d=>hv
            · cases hv
          · rename_i l
            exact lim_round.1 hv
          · cases hv
        · cases hv
      · cases hv
    · cases hv

theorem runOps_lim {ops : Array Oper} : ∀ (l : List Oper) (tm : List Value) (h : List Blk) {r : List Value × List Blk × Option Nat},runOps (lim P) P ops l tm h = some r → Evt fun k d=>runOps (ctx P k d) P ops l tm h = some r
  | [],tm,h,r,hv=>.all fun k d=>hv
  | o :: l,tm,h,r,hv=>by
    simp only [runOps] at hv ⊢
    split at hv
    · rename_i hw
      simp only [if_pos hw]
      split at hv
      · rename_i v hp
        exact runOps_lim l _ h hv
      · rename_i hp
        split at hv
        · rename_i v h1 w1 hx
          cases hr : runOps (lim P) P ops l (putL tm o.dst v) h1 with
          | none=>rw [hr] at hv;cases hv
          | some r1 =>
            rw [hr] at hv
            exact ((xop_lim hx).and (runOps_lim l _ h1 hr)).mono fun k d ⟨e1,e2⟩=>by rw [e1];simp only;rw [e2];exact hv
        · cases hv
    · rename_i hw
      simp only [if_neg hw]
      exact runOps_lim l _ h hv

theorem drawStep_lim {ops : Array Oper} {m i : Nat} {o : Oper} {s s' : Dr} (hv : drawStep (lim P) P ops m i o s = some s') : Evt fun k d=>drawStep (ctx P k d) P ops m i o s = some s':=by
  unfold drawStep at hv ⊢
  split at hv
  · rename_i hw
    simp only [if_pos hw]
    split at hv
    · rename_i v hp
      exact .all fun k d=>hv
    · rename_i hp
      cases hx : xop (lim P) P (ev s.tm) o s.h with
      | none=>rw [hx] at hv;cases hv
      | some r =>
        rw [hx] at hv
        exact (xop_lim hx).mono fun k d e=>by rw [e];exact hv
  · rename_i hw
    simp only [if_neg hw]
    exact .all fun k d=>hv
theorem drawAll_lim {ops : Array Oper} {ms : List Nat} : ∀ (l : List Oper) (i : Nat) (s : Dr) {s' : Dr},drawAll (lim P) P ops ms l i s = some s' → Evt fun k d=>drawAll (ctx P k d) P ops ms l i s = some s'
  | [],i,s,s',hv=>.all fun k d=>hv
  | o :: l,i,s,s',hv=>by
    simp only [drawAll] at hv ⊢
    split at hv
    · rename_i s1 h1
      exact ((drawStep_lim h1).and (drawAll_lim l (i + 1) s1 hv)).mono fun k d ⟨e1,e2⟩=>by rw [e1];exact e2
    · cases hv
theorem runDraw1_lim {ops : Array Oper} {tm : List Value} {h : List Blk} {r : List Value × List Blk × Option Nat} (hv : runDraw1 (lim P) P ops tm h = some r) : Evt fun k d=>runDraw1 (ctx P k d) P ops tm h = some r:=by
  unfold runDraw1 at hv ⊢
  split at hv
  · rename_i hok
    simp only [if_pos hok]
    cases hx : drawAll (lim P) P ops (masks ops.toList []) ops.toList 0 { tm,h,np:=[],chain:=false,wr:=none } with
    | none=>rw [hx] at hv;cases hv
    | some s =>
      rw [hx] at hv
      exact (drawAll_lim _ _ _ hx).mono fun k d e=>by rw [e];exact hv
  · cases hv

theorem freeStep_lim {ops : Array Oper} {ms : List Nat} {m i : Nat} {o : Oper} {s s' : Fr} (hv : freeStep (lim P) P ops ms m i o s = some s') : Evt fun k d=>freeStep (ctx P k d) P ops ms m i o s = some s':=by
  unfold freeStep at hv ⊢
  split at hv
  · rename_i hw
    simp only [if_pos hw]
    split at hv
    · rename_i v hp
      exact .all fun k d=>hv
    · rename_i hp
      cases hx : xop (lim P) P (ev s.tm) o s.h with
      | none=>rw [hx] at hv;cases hv
      | some r =>
        rw [hx] at hv
        exact (xop_lim hx).mono fun k d e=>by rw [e];exact hv
  · rename_i hw
    simp only [if_neg hw]
    exact .all fun k d=>hv
theorem freeAll_lim {ops : Array Oper} {ms : List Nat} : ∀ (l : List Oper) (i : Nat) (s : Fr) {s' : Fr},freeAll (lim P) P ops ms l i s = some s' → Evt fun k d=>freeAll (ctx P k d) P ops ms l i s = some s'
  | [],i,s,s',hv=>.all fun k d=>hv
  | o :: l,i,s,s',hv=>by
    simp only [freeAll] at hv ⊢
    split at hv
    · rename_i s1 h1
      exact ((freeStep_lim h1).and (freeAll_lim l (i + 1) s1 hv)).mono fun k d ⟨e1,e2⟩=>by rw [e1];exact e2
    · cases hv
theorem runFree_lim {ops : Array Oper} {tm : List Value} {h : List Blk} {r : List Value × List Blk × Option Nat} (hv : runFree (lim P) P ops tm h = some r) : Evt fun k d=>runFree (ctx P k d) P ops tm h = some r:=by
  unfold runFree at hv ⊢
  split at hv
  · rename_i hok
    simp only [if_pos hok]
    cases hx : freeAll (lim P) P ops (masks ops.toList []) ops.toList 0 { tm,h,rs:=[],b:=h.length,bar:=none,wr:=none } with
    | none=>rw [hx] at hv;cases hv
    | some s =>
      rw [hx] at hv
      exact (freeAll_lim _ _ _ hx).mono fun k d e=>by rw [e];exact hv
  · cases hv
theorem runDraw_lim {ops : Array Oper} {tm : List Value} {h : List Blk} {r : List Value × List Blk × Option Nat} (hv : runDraw (lim P) P ops tm h = some r) : Evt fun k d=>runDraw (ctx P k d) P ops tm h = some r:=by
  unfold runDraw at hv ⊢
  split at hv
  · rename_i hn
    simp only [if_pos hn]
    exact runFree_lim hv
  · rename_i hn
    simp only [if_neg hn]
    exact runDraw1_lim hv

theorem runRange_lim {ro : Option Nat} {g : Operand} {ps : Array Tmp} {assign body : Code} {a : AS} {h : List Blk} {r : Exit × AS × List Blk × Option Nat} (hv : runRange (lim P) P ro g ps assign body a h = some r) : Evt fun k d=>runRange (ctx P k d) P ro g ps assign body a h = some r:=by
  unfold runRange at hv ⊢
  split at hv
  · rename_i hg
    simp only [if_pos hg]
    split at hv
    · rename_i fn first captured hfv
      split at hv
      · rename_i gf
        split at hv
        · rename_i fd hfd
          split at hv
          · rename_i hc
            split at hv
            · cases hv
            · rename_i h1 d mark hst
              split at hv
              · rename_i v0 h2 w2 hcall
                refine (lim_call.1 hcall).mono fun k d' e=>?_
                simp only [if_pos hc,e]
                exact hv
              · cases hv
          · cases hv
        · cases hv
      · cases hv
    · cases hv
  · cases hv

theorem exec_lim {ro : Option Nat} : ∀ (K : Nat) (c : Code) (a : AS) (h : List Blk) {r : Exit × AS × List Blk × Option Nat},exec (lim P) P ro K c a h = some r → Evt fun k d=>exec (ctx P k d) P ro K c a h = some r:=by
  intro K
  induction K with
  | zero=>intro c a h r hv;simp [exec] at hv
  | succ K ih =>
  intro c a h r hv
  cases c with
  | seq x y =>
    simp only [exec] at hv ⊢
    cases hx : exec (lim P) P ro K x a h with
    | none=>rw [hx] at hv;cases hv
    | some r1 =>
      obtain ⟨e1,a1,h1,w1⟩:=r1
      rw [hx] at hv
      cases e1 with
      | normal =>
        simp only at hv
        cases hy : exec (lim P) P ro K y a1 h1 with
        | none=>rw [hy] at hv;cases hv
        | some r2 =>
          rw [hy] at hv
          exact ((ih x a h hx).and (ih y a1 h1 hy)).mono fun k d ⟨e1,e2⟩=>by rw [e1];simp only;rw [e2];exact hv
      | _=>exact (ih x a h hx).mono fun k d e1=>by rw [e1];exact hv
  | cond x y z =>
    simp only [exec] at hv ⊢
    split at hv
    · rename_i hc
      simp only [if_pos hc]
      split at hv
      · rename_i t ht
        cases t with
        | true=>exact ih y a h hv
        | false=>exact ih z a h hv
      · cases hv
    · cases hv
  | block id b =>
    simp only [exec] at hv ⊢
    cases hx : exec (lim P) P ro K b a h with
    | none=>rw [hx] at hv;cases hv
    | some r1 =>
      rw [hx] at hv
      exact (ih b a h hx).mono fun k d e1=>by rw [e1];exact hv
  | loop b =>
    simp only [exec] at hv ⊢
    cases hx : exec (lim P) P ro K b a h with
    | none=>rw [hx] at hv;cases hv
    | some r1 =>
      obtain ⟨e1,a1,h1,w1⟩:=r1
      rw [hx] at hv
      cases e1 with
      | normal =>
        simp only at hv
        cases hy : exec (lim P) P ro K (.loop b) a1 h1 with
        | none=>rw [hy] at hv;cases hv
        | some r2 =>
          rw [hy] at hv
          exact ((ih b a h hx).and (ih (.loop b) a1 h1 hy)).mono fun k d ⟨e1,e2⟩=>by rw [e1];simp only;rw [e2];exact hv
      | _=>exact (ih b a h hx).mono fun k d e1=>by rw [e1];exact hv
  | region id ops draw =>
    simp only [exec] at hv ⊢
    cases draw with
    | true =>
      simp only at hv ⊢
      cases hx : runDraw (lim P) P ops a.tm h with
      | none=>rw [hx] at hv;cases hv
      | some r1 =>
        rw [hx] at hv
        exact (runDraw_lim hx).mono fun k d e1=>by rw [e1];exact hv
    | false =>
      simp only at hv ⊢
      split at hv
      · rename_i hreg
        simp only [if_pos hreg]
        cases hx : runOps (lim P) P ops ops.toList a.tm h with
        | none=>rw [hx] at hv;cases hv
        | some r1 =>
          rw [hx] at hv
          exact (runOps_lim _ _ _ hx).mono fun k d e1=>by rw [e1];exact hv
      · cases hv
  | rangeFunc g ps assign body =>
    simp only [exec] at hv ⊢
    exact runRange_lim hv
  | _=>exact .all fun k d=>by simpa only [exec] using hv

/-- a function's call from its body -/
theorem lim_runCall {K : Nat} {f : FuncId} {args : List Value} {h : List Blk} {r : Value × List Blk × Option Nat} (hv : runCall (lim P) P K f args h = some r) : (lim P).call f args h = some r:=by
  rw [lim_call]
  unfold runCall at hv
  split at hv
  · cases hv
  · rename_i fd hfd
    split at hv
    · cases hv
    · rename_i c hc
      split at hv
      · rename_i e a1 h1 w1 hx
        obtain ⟨N,hN⟩:=exec_lim K c _ h hx
        refine ⟨max (N + 1) K,fun k d hk hd=>?_⟩
        obtain ⟨d,rfl⟩ : ∃ d',d = d' + 1:=⟨d - 1,by omega⟩
        have h2:=exec_le (k:=K) (k':=k) (by omega) (hN k d (by omega) (by omega))
        show runCall (ctx P k d) P k f args h = some r
        unfold runCall
        simp only [hfd,hc,h2]
        exact hv
      · cases hv
theorem lim_ok (hm : P.follows .mixedOrders = true) : CtxOk P (lim P) :=
  ⟨fun hv=>by
    obtain ⟨N,hN⟩:=lim_call.1 hv
    exact (ctx_sound hm N N).call (hN N N (Nat.le_refl _) (Nat.le_refl _)),
   fun hv=>by
    obtain ⟨N,hN⟩:=lim_round.1 hv
    exact (ctx_sound hm N N).round (hN N N (Nat.le_refl _) (Nat.le_refl _))⟩
end
end Go.Rex

namespace Go.Rex
open Go.RowKit

theorem wge_min {a b : Option Nat} {k : Nat} (ha : wge a k = true) (hb : wge b k = true) : wge (wmin a b) k = true:=by
  cases a<;>cases b<;>simp_all [wge,wmin]
  omega

/-- a code ends so; it writes under no name below 'lo' -/
def XP (C : Ctx) (P : Program) (ro : Option Nat) (lo : Nat) (c : Code) (a : AS) (h : List Blk) (Q : Exit → AS → List Blk → Prop) : Prop :=
  ∃ K e a' h' wr,exec C P ro K c a h = some (e,a',h',wr) ∧ wge wr lo = true ∧ Q e a' h'

section
variable {C : Ctx} {P : Program} {ro : Option Nat} {lo : Nat} {a : AS} {h : List Blk} {Q : Exit → AS → List Blk → Prop}

theorem XP.mono {c : Code} {Q' : Exit → AS → List Blk → Prop} (hx : XP C P ro lo c a h Q) (hq : ∀ e a' h',Q e a' h' → Q' e a' h') : XP C P ro lo c a h Q':=by
  obtain ⟨K,e,a',h',wr,h1,h2,h3⟩:=hx
  exact ⟨K,e,a',h',wr,h1,h2,hq _ _ _ h3⟩
theorem XP.skip (hq : Q .normal a h) : XP C P ro lo .skip a h Q:=⟨1,_,_,_,none,rfl,rfl,hq⟩
theorem XP.exit {id : Nat} (hq : Q (.exit id) a h) : XP C P ro lo (.exit id) a h Q:=⟨1,_,_,_,none,rfl,rfl,hq⟩
theorem XP.ret (hq : Q .ret a h) : XP C P ro lo .ret a h Q:=⟨1,_,_,_,none,rfl,rfl,hq⟩
/-- behind a part of a sequence -/
def seqQ (next : AS → List Blk → Prop) (Q : Exit → AS → List Blk → Prop) : Exit → AS → List Blk → Prop
  | .normal,a,h=>next a h
  | e,a,h=>Q e a h
theorem XP.seq {x y : Code} (hx : XP C P ro lo x a h (seqQ (fun a h=>XP C P ro lo y a h Q) Q)) : XP C P ro lo (.seq x y) a h Q:=by
  obtain ⟨K,e,a1,h1,w1,hx,hw,hq⟩:=hx
  cases e with
  | normal =>
    obtain ⟨K2,e2,a2,h2,w2,hy,hw2,hq2⟩:=hq
    refine ⟨max K K2 + 1,e2,a2,h2,wmin w1 w2,?_,wge_min hw hw2,hq2⟩
    simp only [exec]
    rw [exec_le (Nat.le_max_left K K2) hx]
    simp only
    rw [exec_le (Nat.le_max_right K K2) hy]
    rfl
  | _=>exact ⟨K + 1,_,a1,h1,w1,by simp only [exec,hx],hw,hq⟩
theorem XP.cond_true {c : Operand} {x y : Code} (ho : opndOk c = true) (hc : ev a.tm c = .bool true) (hx : XP C P ro lo x a h Q) : XP C P ro lo (.cond c x y) a h Q:=by
  obtain ⟨K,e,a1,h1,w1,hx,hw,hq⟩:=hx
  exact ⟨K + 1,e,a1,h1,w1,by simp only [exec,ho,if_true,hc,hx],hw,hq⟩
theorem XP.cond_false {c : Operand} {x y : Code} (ho : opndOk c = true) (hc : ev a.tm c = .bool false) (hx : XP C P ro lo y a h Q) : XP C P ro lo (.cond c x y) a h Q:=by
  obtain ⟨K,e,a1,h1,w1,hx,hw,hq⟩:=hx
  exact ⟨K + 1,e,a1,h1,w1,by simp only [exec,ho,if_true,hc,hx],hw,hq⟩
def blockQ (id : Nat) (Q : Exit → AS → List Blk → Prop) : Exit → AS → List Blk → Prop
  | .exit id',a,h=>if id' = id then Q .normal a h else Q (.exit id') a h
  | e,a,h=>Q e a h
theorem XP.block {id : Nat} {b : Code} (hx : XP C P ro lo b a h (blockQ id Q)) : XP C P ro lo (.block id b) a h Q:=by
  obtain ⟨K,e,a1,h1,w1,hx,hw,hq⟩:=hx
  cases e with
  | exit id' =>
    by_cases hid : id' = id
    · refine ⟨K + 1,.normal,a1,h1,w1,by simp only [exec,hx,if_pos hid],hw,?_⟩
      simpa only [blockQ,if_pos hid] using hq
    · refine ⟨K + 1,.exit id',a1,h1,w1,by simp only [exec,hx,if_neg hid],hw,?_⟩
      simpa only [blockQ,if_neg hid] using hq
  | _=>exact ⟨K + 1,_,a1,h1,w1,by simp only [exec,hx],hw,hq⟩
theorem XP.ops {id : Nat} {ops : Array Oper} {tm' : List Value} {h' : List Blk} {wr : Option Nat} (hreg : regOk ops.toList = true) (hr : runOps C P ops ops.toList a.tm h = some (tm', h', wr)) (hw : wge wr lo = true) (hq : Q .normal ⟨tm', a.df⟩ h') :
    XP C P ro lo (.region id ops false) a h Q:=⟨1,.normal,⟨tm',a.df⟩,h',wr,by simp only [exec,hreg,if_true,hr,liftE,Option.map_some],hw,hq⟩
theorem XP.draw {id : Nat} {ops : Array Oper} {tm' : List Value} {h' : List Blk} {wr : Option Nat} (hr : runDraw C P ops a.tm h = some (tm', h', wr)) (hw : wge wr lo = true) (hq : Q .normal ⟨tm', a.df⟩ h') :
    XP C P ro lo (.region id ops true) a h Q:=⟨1,.normal,⟨tm',a.df⟩,h',wr,by simp only [exec,hr,liftE,Option.map_some],hw,hq⟩

theorem XP.draws {id : Nat} {ops : Array Oper} {s : Dr} (hok : drawOk ops = true) (hr : drawAll C P ops (masks ops.toList []) ops.toList 0 { tm := a.tm, h, np := [], chain := false, wr := none } = some s) (hw : wge s.wr lo = true) (hq : Q .normal ⟨s.tm, a.df⟩ s.h) :
    XP C P ro lo (.region id ops true) a h Q:=XP.draw (tm':=s.tm) (h':=s.h) (wr:=s.wr) (runDraw_of1 (by simp only [runDraw1,hok,if_true,hr,Option.map_some])) hw hq

theorem seqQ_n {next : AS → List Blk → Prop} (hq : next a h) : seqQ next Q .normal a h:=hq
theorem nth_set_ne {l : List Value} {i j : Nat} {v : Value} (h : i ≠ j) : nth (l.set i v) j = nth l j:=by rw [nth_eq,nth_eq,List.getElem?_set_ne h]
/-- a heap that has grown -/
def Ext (h h' : List Blk) : Prop:=∃ t,h' = h ++ t
theorem Ext.refl (h : List Blk) : Ext h h:=⟨[],by simp⟩
theorem Ext.trans {h1 h2 h3 : List Blk} (a : Ext h1 h2) (b : Ext h2 h3) : Ext h1 h3:=by
  obtain ⟨t,rfl⟩:=a
  obtain ⟨u,rfl⟩:=b
  exact ⟨t ++ u,by simp⟩
theorem Ext.app (h t : List Blk) : Ext h (h ++ t):=⟨t,rfl⟩
theorem Ext.le {h h' : List Blk} (a : Ext h h') : h.length ≤ h'.length:=by
  obtain ⟨t,rfl⟩:=a
  simp
theorem Ext.at {h h' : List Blk} (a : Ext h h') {n : Nat} {b : Blk} (hb : h[n]? = some b) : h'[n]? = some b:=by
  obtain ⟨t,rfl⟩:=a
  rw [List.getElem?_append_left (List.getElem?_eq_some_iff.1 hb).1,hb]
theorem drawHeap_ext {m i : Nat} {o : Oper} {tm : List Value} {np : List Nat} {v : Value} {h1 : List Blk} {wr : Option Nat} (hx : Ext h h1) : drawHeap m i o ⟨tm,h,np,false,wr⟩ (some (v,h1,none)) = some ⟨putL tm o.dst v,h1,i :: np,false,wr⟩:=by
  obtain ⟨t,rfl⟩:=hx
  simp only [drawHeap,wge]
  cases t<;>simp

/-- a function of the program, with a body -/
def goFn (P : Program) (g : FuncId) : Bool:=match P.funcs[g]? with
  | some fd=>match fd.body with
    | some _ => !(fd.name == "runtime.NumGoroutine")
    | none=>false
  | none=>false
def xslow (P : Program) (g : FuncId) (args : List Value) (h : List Blk) : AOut:=match P.funcs[g]? with
  | some fd=>match fd.body with
    | some _=>none
    | none=>(extV P g args).map fun v=>(v,h,none)
  | none=>none
theorem xcall_eq {C : Ctx} {ρ : Operand → Value} {c : Call} : xcall C P ρ c h = (match c.callee with
    | .value f=>match ρ f with
      | .func fn ⟨first⟩ ⟨captured⟩=>match fn with
        | .func g=>if goFn P g = true then C.call g (first ++ (c.args.toList.map ρ ++ captured)) h else xslow P g (first ++ (c.args.toList.map ρ ++ captured)) h
        | .yield l=>C.round l (c.args.toList.map ρ) h
        | _=>none
      | _=>none
    | _=>none):=by
  unfold xcall
  cases c.callee with
  | value f =>
    simp only
    cases ρ f with
    | func fn first captured =>
      obtain ⟨first⟩:=first
      obtain ⟨captured⟩:=captured
      cases fn with
      | func g =>
        rcases hf : P.funcs[g]? with _|fd
        · have hg : goFn P g = false:=by simp [goFn,hf]
          simp [hg,hf,xslow]
        · rcases hb : fd.body with _|b
          · have hg : goFn P g = false:=by simp [goFn,hf,hb]
            simp [hg,hf,hb,xslow]
          · cases hn : (fd.name == "runtime.NumGoroutine")
            · have hg : goFn P g = true:=by simp [goFn,hf,hb,hn]
              simp [hg,hf,hb,hn]
            · have hg : goFn P g = false:=by simp [goFn,hf,hb,hn]
              simp [hg,hf,hb,hn,xslow]
      | _=>rfl
    | _=>rfl
  | _=>rfl
theorem load1 {t n o : Nat} {es : Nat} {cs : List Value} {v : Value} (ha : aggB P t = some false) (hb : h[n]? = some (.cells es cs)) (hc : cs[o]? = some v) : loadV P t h n o = some v:=by
  have h2:=(List.getElem?_eq_some_iff.1 hc).1
  simp only [loadV,ha,readCells,hb]
  rw [if_pos (by omega)]
  have e : (cs.drop o).take 1 = [v]:=by
    rw [List.take_one,List.head?_drop,hc];rfl
  rw [e]
theorem wmin_n2 (b : Option Nat) : wmin b none = b:=by cases b<;>rfl
end
def genS:=@genP
theorem genP_neg {P : Program} {ρ : Operand → Value} {d : Option Tmp} {t : TypeId} {x : Operand} {ty : TypeId} {pos : String} {aft : Array Edge} {gd : Option (Nat × Bool)} : genP P ρ { dst:=d,op:=.unOp .neg t x,type:=ty,pos:=pos,after:=aft,guard:=gd } = (match ρ x with|.int k a=>some (.int k (k.wrap (0 - a)))|_=>genS P ρ { dst:=d,op:=.unOp .neg t x,type:=ty,pos:=pos,after:=aft,guard:=gd }):=by
  cases hx : ρ x with
  | int k a =>
    have h1 : ([x].all fun x=>isClean (ρ x)) = true:=by simp only [List.all_cons,List.all_nil,hx];rfl
    have h2 : prun P (execOp ρ { dst:=d,op:=.unOp .neg t x,type:=ty,pos:=pos,after:=aft,guard:=gd }) = some (.value (.int k (k.wrap (0 - a)))):=by
      simp only [execOp,hx]
      rfl
    unfold genP
    simp only
    rw [show (Op.unOp UnOp.neg t x).operands.toList = [x] from rfl,if_pos h1,h2]
    rfl
  | _=>rfl
theorem genP_not {P : Program} {ρ : Operand → Value} {d : Option Tmp} {t : TypeId} {x : Operand} {ty : TypeId} {pos : String} {aft : Array Edge} {gd : Option (Nat × Bool)} : genP P ρ { dst:=d,op:=.unOp .not t x,type:=ty,pos:=pos,after:=aft,guard:=gd } = (match ρ x with|.bool a=>some (.bool !a)|_=>genS P ρ { dst:=d,op:=.unOp .not t x,type:=ty,pos:=pos,after:=aft,guard:=gd }):=by
  cases hx : ρ x with
  | bool a =>
    have h1 : ([x].all fun x=>isClean (ρ x)) = true:=by simp only [List.all_cons,List.all_nil,hx];rfl
    have h2 : prun P (execOp ρ { dst:=d,op:=.unOp .not t x,type:=ty,pos:=pos,after:=aft,guard:=gd }) = some (.value (.bool !a)):=by
      simp only [execOp,hx]
      rfl
    unfold genP
    simp only
    rw [show (Op.unOp UnOp.not t x).operands.toList = [x] from rfl,if_pos h1,h2]
    rfl
  | _=>rfl
end Go.Rex

namespace Go.Rex
open Go.RowKit

/-! ### region by region,operation by operation -/
def RO (C : Ctx) (P : Program) (lo : Nat) (ops : Array Oper) (l : List Oper) (tm : List Value) (h : List Blk) (Q : List Value → List Blk → Prop) : Prop :=
  ∃ tm' h' wr,runOps C P ops l tm h = some (tm',h',wr) ∧ wge wr lo = true ∧ Q tm' h'
section
variable {C : Ctx} {P : Program} {ro : Option Nat} {lo : Nat} {a : AS} {h : List Blk} {Q : Exit → AS → List Blk → Prop} {ops : Array Oper} {o : Oper} {rest : List Oper} {tm tm2 : List Value} {v : Value} {R : List Value → List Blk → Prop}
theorem RO.nil (hq : R tm h) : RO C P lo ops [] tm h R:=⟨tm,h,none,rfl,rfl,hq⟩
theorem RO.pop (hw : Region.wanted o (yielded ops ⟨tm⟩) = true) (hp : Rex.pop P (ev tm) o = some v) (ht : putL tm o.dst v = tm2) (hq : RO C P lo ops rest tm2 h R) : RO C P lo ops (o :: rest) tm h R:=by
  subst ht
  obtain ⟨tm',h',wr,h1,h2,h3⟩:=hq
  exact ⟨tm',h',wr,by simp only [runOps,if_pos hw,hp,h1],h2,h3⟩
theorem RO.act {h1 : List Blk} {w1 : Option Nat} (hw : Region.wanted o (yielded ops ⟨tm⟩) = true) (hp : Rex.pop P (ev tm) o = none) (hx : xop C P (ev tm) o h = some (v,h1,w1)) (hg : wge w1 lo = true) (ht : putL tm o.dst v = tm2) (hq : RO C P lo ops rest tm2 h1 R) : RO C P lo ops (o :: rest) tm h R:=by
  subst ht
  obtain ⟨tm',h',wr,h1',h2,h3⟩:=hq
  exact ⟨tm',h',wmin w1 wr,by simp only [runOps,if_pos hw,hp,hx,h1',Option.map_some],wge_min hg h2,h3⟩
theorem RO.skip (hw : Region.wanted o (yielded ops ⟨tm⟩) = false) (ht : putL tm o.dst undef = tm2) (hq : RO C P lo ops rest tm2 h R) : RO C P lo ops (o :: rest) tm h R:=by
  subst ht
  obtain ⟨tm',h',wr,h1,h2,h3⟩:=hq
  exact ⟨tm',h',wr,by simp only [runOps,hw,Bool.false_eq_true,if_false,h1],h2,h3⟩
theorem XP.region {id : Nat} {l : List Oper} (hl : ops.toList = l) (hreg : regOk l = true) (hr : RO C P lo ops l a.tm h (fun tm' h'=>Q .normal ⟨tm',a.df⟩ h')) : XP C P ro lo (.region id ops false) a h Q:=by
  subst hl
  obtain ⟨tm',h',wr,h1,h2,h3⟩:=hr
  exact XP.ops hreg h1 h2 h3

/-- a region that draws: so far -/
def RD (C : Ctx) (P : Program) (lo : Nat) (ops : Array Oper) (ms : List Nat) (l : List Oper) (i : Nat) (s : Dr) (R : List Value → List Blk → Prop) : Prop :=
  ∃ s',drawAll C P ops ms l i s = some s' ∧ wge s'.wr lo = true ∧ R s'.tm s'.h
variable {ms : List Nat} {i : Nat} {np : List Nat} {c : Bool} {wr : Option Nat}
theorem RD.nil (hw : wge wr lo = true) (hq : R tm h) : RD C P lo ops ms [] i ⟨tm,h,np,c,wr⟩ R:=⟨_,rfl,hw,hq⟩
theorem RD.pop (hw : Region.wanted o (yielded ops ⟨tm⟩) = true) (hp : Rex.pop P (ev tm) o = some v) (ht : putL tm o.dst v = tm2) (hq : RD C P lo ops ms rest (i + 1) ⟨tm2,h,np,c,wr⟩ R) : RD C P lo ops ms (o :: rest) i ⟨tm,h,np,c,wr⟩ R:=by
  subst ht
  obtain ⟨s',h1,h2⟩:=hq
  exact ⟨s',by simp only [drawAll,drawStep,if_pos hw,hp,h1],h2⟩
theorem RD.skip (hw : Region.wanted o (yielded ops ⟨tm⟩) = false) (ht : putL tm o.dst undef = tm2) (hq : RD C P lo ops ms rest (i + 1) ⟨tm2,h,np,c,wr⟩ R) : RD C P lo ops ms (o :: rest) i ⟨tm,h,np,c,wr⟩ R:=by
  subst ht
  obtain ⟨s',h1,h2⟩:=hq
  exact ⟨s',by simp only [drawAll,drawStep,hw,Bool.false_eq_true,if_false,h1],h2⟩
/-- what grows the memory only -/
theorem RD.act {h1 : List Blk} (hw : Region.wanted o (yielded ops ⟨tm⟩) = true) (hp : Rex.pop P (ev tm) o = none) (hx : xop C P (ev tm) o h = some (v,h1,none)) (he : Ext h h1) (ht : putL tm o.dst v = tm2) (hq : RD C P lo ops ms rest (i + 1) ⟨tm2,h1,i :: np,false,wr⟩ R) : RD C P lo ops ms (o :: rest) i ⟨tm,h,np,false,wr⟩ R:=by
  subst ht
  obtain ⟨s',h1',h2⟩:=hq
  exact ⟨s',by simp only [drawAll,drawStep,if_pos hw,hp,hx,drawHeap_ext he,h1'],h2⟩
theorem XP.drawn {id : Nat} {l : List Oper} {ms : List Nat} (hok : drawOk ops = true) (hl : ops.toList = l) (hm : masks l [] = ms) (hr : RD C P lo ops ms l 0 ⟨a.tm,h,[],false,none⟩ (fun tm' h'=>Q .normal ⟨tm',a.df⟩ h')) : XP C P ro lo (.region id ops true) a h Q:=by
  subst hl
  subst hm
  obtain ⟨s',h1,h2,h3⟩:=hr
  exact XP.draws hok h1 h2 h3
end

/-- a context that knows more -/
noncomputable def over (P : Program) (f : FuncId) : Ctx:=⟨fun g args h=>if g = f ∧ args = [] then some (.bool true,h,none) else (lim P).call g args h,(lim P).round⟩
/-- a function without arguments is true -/
def AwT (P : Program) (f : FuncId) : Prop:=∀ w,GW w → NG ≤ w.heap.size → Calls P f ⟨[]⟩ w (fun e w'=>e = .returned (.bool true) ∧ Below w.heap.size w w')
theorem over_ok {P : Program} (hm : P.follows .mixedOrders = true) {f : FuncId} (hv : AwT P f) : CtxOk P (over P f) :=
  ⟨fun {g args h v h' wr} hv'=>by
    intro B lo D m w args' hr hlo hw hargs
    unfold over at hv'
    simp only at hv'
    split at hv'
    · rename_i hg
      obtain ⟨rfl,rfl⟩:=hg
      obtain ⟨rfl,rfl,rfl⟩ : Value.bool true = v ∧ h = h' ∧ none = wr:=by simpa using hv'
      obtain rfl : args' = []:=by have:=hargs.len;simpa using this
      refine (hv w hr.gl.gw (Nat.le_trans hr.gl.gb hr.le)).mono ?_
      rintro e w' ⟨rfl,hb⟩
      exact ⟨_,m,rfl,Post.frame hr hb,VR.of_clean depth _ rfl⟩
    · exact (lim_ok hm).call hv' hr hlo hw hargs,
   (lim_ok hm).round⟩
theorem over_call {P : Program} {f g : FuncId} {args : List Value} {h : List Blk} : (over P f).call g args h = if g = f ∧ args = [] then some (.bool true,h,none) else (lim P).call g args h:=rfl
/-- a law: it may call f, and then has its say -/
theorem law_call {P : Program} (hm : P.follows .mixedOrders = true) {f : FuncId} (hv : AwT P f) {g : FuncId} {fd : Func} {c : Code} {args : List Value} {h : List Blk} (hf : P.funcs[g]? = some fd) (hb : fd.body = some c)
    {tm : List Value} (htm : args ++ List.replicate (fd.ntmps - args.length) undef = tm)
    (hx : XP (over P f) P none h.length c ⟨tm,[]⟩ h (fun e a1 h1=>(e = .normal ∨ e = .ret) ∧ a1.df = [] ∧ ∃ vs,resAll P h1 a1.tm fd.results.toList = some vs ∧ oneOf vs = .bool true))
    {B lo : Nat} {D : Nat → Prop} {m : NMap} {w : World} {args' : List Value} (hr : Rel B lo D m h w) (hlo : lo ≤ h.length) (hargs : VRs D m args args') : Calls P g ⟨args'⟩ w (fun e w'=>e = .returned (.bool true) ∧ Below w.heap.size w w'):=by
  subst htm
  obtain ⟨K,e,a1,h1,w1,hx,hw,he,hdf,vs,hvs,hR⟩:=hx
  have hcall : runCall (over P f) P K g args h = some (.bool true,h,none):=by
    unfold runCall
    simp only [hf,hb,hx]
    have hend : runEnd P fd h.length h a1 h1 w1 = some (.bool true,h,none):=by
      simp [runEnd,hdf,takeDefers,hvs,hR,wmin_n2,hw,show isClean (.bool true) = true from rfl]
    rcases he with rfl|rfl<;>exact hend
  refine (runCall_sound (over_ok hm hv) (fun {_ _ _ _ _ _ _} hv' {_ _ _ _ _ _ _ _ _} hr hlo hA hw hQ=>drawSound (over_ok hm hv) hm hv' hr hlo hA hw hQ) hcall (hr.still h.length (Nat.le_refl _)) (Nat.le_refl _) (fun n hn=>by cases hn) hargs).mono ?_
  rintro e' w' ⟨v',m',rfl,hp,hvr⟩
  cases hvr
  exact ⟨rfl,hp.below⟩
end Go.Rex

namespace Go.Rex
open Go.RowKit
/-! ### builtins on values without names -/
theorem genP_max {P : Program} {ρ : Operand → Value} {d : Option Tmp} {x y : Operand} {tys : Array TypeId} {ty : TypeId} {pos : String} {aft : Array Edge} {gd : Option (Nat × Bool)} :
    genP P ρ { dst:=d,op:=.call { callee:=.builtin .max,args:=#[x,y],argTypes:=tys },type:=ty,pos:=pos,after:=aft,guard:=gd } = (match ρ x,ρ y with|.int k a,.int _ b=>some (.int k (if b > a then b else a))|_,_=>genS P ρ { dst:=d,op:=.call { callee:=.builtin .max,args:=#[x,y],argTypes:=tys },type:=ty,pos:=pos,after:=aft,guard:=gd }):=by
  split
  · rename_i k a k' b hx hy
    have h1 : ([x,y].all fun x=>isClean (ρ x)) = true:=by simp only [List.all_cons,List.all_nil,hx,hy];rfl
    have h2 : prun P (execOp ρ { dst:=d,op:=.call { callee:=.builtin .max,args:=#[x,y],argTypes:=tys },type:=ty,pos:=pos,after:=aft,guard:=gd }) = some (.value (.int k (if b > a then b else a))):=by
      simp [execOp,resolve,invoke,hx,hy]
      rfl
    unfold genP
    simp only
    rw [show (Op.call { callee:=.builtin .max,args:=#[x,y],argTypes:=tys }).operands.toList = [x,y] by simp [Op.operands,Call.operands],if_pos h1,h2]
    rfl
  · rfl
end Go.Rex

namespace Go.Rex
open Go.RowKit
/-! ## values as trees: what is frozen is seen as a list,what is a function's own is named by number -/
inductive TV
  | junk
  | v (x : Value)
  | agg (l : List TV)
  | tuple (l : List TV)
  | func (f : FuncId) (first caps : List TV)
  | list (es : Nat) (rows : List (List TV))
  | fptr (vb : Bool) (row : List TV) (off : Nat)
  | lptr (n r o : Nat)
  | lsl (n o len : Nat)

/-- where an own block is -/
structure LI where
  ok : Bool
  nm : Option Nat
  es : Nat
  tot : Nat
def noL : Nat → LI:=fun _=>⟨false,none,0,0⟩

def isAtom : Value → Bool
  | .agg _=>false
  | .tuple _=>false
  | .func (.yield _) ⟨[]⟩ ⟨[]⟩=>true
  | .func ..=>false
  | x=>isClean x

inductive VL (Fz : Nat → Prop) (h : List Blk) : (Nat → LI) → TV → Value → Prop
  | junk (L : Nat → LI) (x : Value) : VL Fz h L .junk x
  | v (L : Nat → LI) (x : Value) (hx : isAtom x = true) : VL Fz h L (.v x) x
  | agg (L : Nat → LI) (l : List TV) (l' : List Value) (hl : l'.length = l.length) (ha : ∀ (i : Nat) p x,l[i]? = some p → l'[i]? = some x → VL Fz h L p x) : VL Fz h L (.agg l) (.agg ⟨l'⟩)
  | tuple (L : Nat → LI) (l : List TV) (l' : List Value) (hl : l'.length = l.length) (ha : ∀ (i : Nat) p x,l[i]? = some p → l'[i]? = some x → VL Fz h L p x) : VL Fz h L (.tuple l) (.tuple ⟨l'⟩)
  | func (L : Nat → LI) (f : FuncId) (a b : List TV) (a' b' : List Value) (la : a'.length = a.length) (ha : ∀ (i : Nat) p x, a[i]? = some p → a'[i]? = some x → VL Fz h noL p x)
      (lb : b'.length = b.length) (hb : ∀ (i : Nat) p x,b[i]? = some p → b'[i]? = some x → VL Fz h noL p x) : VL Fz h L (.func f a b) (.func (.func f) ⟨a'⟩ ⟨b'⟩)
  | nillist (L : Nat → LI) (es : Nat) : VL Fz h L (.list es []) (.slice none 0 0)
  | vague (L : Nat → LI) (es : Nat) : VL Fz h L (.list es []) vag
  | list (L : Nat → LI) (es : Nat) (rows : List (List TV)) (n o c : Nat) (cs : List Value) (eb : Nat) (hn : Fz n) (hb : h[n]? = some (.cells eb cs)) (he : eb = es ∨ eb = 0) (hw : ∀ r ∈ rows, r.length = es) (hc : rows.length ≤ c) (hle : o + rows.length * es ≤ cs.length)
      (ha : ∀ (j : Nat) p x,rows.flatten[j]? = some p → cs[o + j]? = some x → VL Fz h noL p x) : VL Fz h L (.list es rows) (.slice (some ⟨n,o,none⟩) rows.length c)
  | fptr (L : Nat → LI) (vb : Bool) (row : List TV) (off n base es : Nat) (cs : List Value) (hn : Fz n) (hb : h[n]? = some (.cells es cs)) (hv : vb = true → es = 0) (hle : base + row.length ≤ cs.length)
      (ha : ∀ (j : Nat) p x,row[j]? = some p → cs[base + j]? = some x → VL Fz h noL p x) : VL Fz h L (.fptr vb row off) (.pointer (some ⟨n,base + off,none⟩))
  | lptr (L : Nat → LI) (n r o nm : Nat) (ok : (L n).ok = true) (hn : (L n).nm = some nm) : VL Fz h L (.lptr n r o) (.pointer (some ⟨nm,r * (L n).es + o,none⟩))
  | lslnil (L : Nat → LI) (n : Nat) (ok : (L n).ok = true) (hn : (L n).nm = none) : VL Fz h L (.lsl n 0 0) (.slice none 0 0)
  | lsl (L : Nat → LI) (n o len nm : Nat) (ok : (L n).ok = true) (hn : (L n).nm = some nm) (hle : o + len ≤ (L n).tot) : VL Fz h L (.lsl n o len) (.slice (some ⟨nm,o * (L n).es,none⟩) len ((L n).tot - o))

structure VLs (Fz : Nat → Prop) (h : List Blk) (L : Nat → LI) (l : List TV) (l' : List Value) : Prop where
  len : l'.length = l.length
  at' : ∀ (i : Nat) p x,l[i]? = some p → l'[i]? = some x → VL Fz h L p x

section
variable {Fz Fz' : Nat → Prop} {h h' : List Blk} {L L' : Nat → LI}
theorem VLs.at {l : List TV} {l' : List Value} (hs : VLs Fz h L l l') {i : Nat} {p : TV} (hp : l[i]? = some p) : ∃ x,l'[i]? = some x ∧ VL Fz h L p x:=by
  have hi:=(List.getElem?_eq_some_iff.1 hp).1
  have hi' : i < l'.length:=by rw [hs.len];exact hi
  exact ⟨l'[i],List.getElem?_eq_getElem hi',hs.at' i _ _ hp (List.getElem?_eq_getElem hi')⟩
theorem VLs.nil : VLs Fz h L [] []:=⟨rfl,fun i p x hp=>by simp at hp⟩
theorem VLs.cons {p : TV} {x : Value} {l : List TV} {l' : List Value} (hp : VL Fz h L p x) (hs : VLs Fz h L l l') : VLs Fz h L (p :: l) (x :: l'):=by
  refine ⟨by simp [hs.len],fun i q y hq hy=>?_⟩
  cases i with
  | zero=>simp at hq hy;subst hq hy;exact hp
  | succ i=>simp at hq hy;exact hs.at' i _ _ hq hy
theorem VLs.append {l1 l2 : List TV} {x1 x2 : List Value} (ha : VLs Fz h L l1 x1) (hb : VLs Fz h L l2 x2) : VLs Fz h L (l1 ++ l2) (x1 ++ x2):=by
  refine ⟨by simp [ha.len,hb.len],fun i p x hp hx=>?_⟩
  rw [List.getElem?_append] at hp hx
  rw [ha.len] at hx
  split at hp
  · rename_i hi;rw [if_pos hi] at hx;exact ha.at' i _ _ hp hx
  · rename_i hi;rw [if_neg hi] at hx;exact hb.at' _ _ _ hp hx
theorem VLs.extract {l : List TV} {x : List Value} (hs : VLs Fz h L l x) (i j : Nat) : VLs Fz h L ((l.drop i).take j) ((x.drop i).take j):=by
  refine ⟨by simp [hs.len],fun k p y hp hy=>?_⟩
  simp only [List.getElem?_take,List.getElem?_drop] at hp hy
  split at hp
  · rename_i hk;rw [if_pos hk] at hy;exact hs.at' _ _ _ hp hy
  · cases hp
theorem VLs.set {l : List TV} {l' : List Value} (hs : VLs Fz h L l l') (i : Nat) {p : TV} {x : Value} (hp : VL Fz h L p x) : VLs Fz h L (l.set i p) (l'.set i x):=by
  refine ⟨by simp [hs.len],fun k q y hq hy=>?_⟩
  rw [List.getElem?_set] at hq hy
  split at hq
  · rename_i hk
    rw [if_pos hk,hs.len] at hy
    split at hq
    · rename_i hlt;rw [if_pos hlt] at hy;cases hq;cases hy;exact hp
    · cases hq
  · rename_i hk;rw [if_neg hk] at hy;exact hs.at' _ _ _ hq hy
theorem VLs.replicate {p : TV} {x : Value} (hp : VL Fz h L p x) (n : Nat) : VLs Fz h L (List.replicate n p) (List.replicate n x):=by
  refine ⟨by simp,fun k q y hq hy=>?_⟩
  rw [List.getElem?_replicate] at hq hy
  split at hq
  · rename_i hk;rw [if_pos hk] at hy;cases hq;cases hy;exact hp
  · cases hq
theorem VL.agg' {l : List TV} {l' : List Value} (hs : VLs Fz h L l l') : VL Fz h L (.agg l) (.agg ⟨l'⟩):=.agg L l l' hs.len hs.at'
theorem VL.tuple' {l : List TV} {l' : List Value} (hs : VLs Fz h L l l') : VL Fz h L (.tuple l) (.tuple ⟨l'⟩):=.tuple L l l' hs.len hs.at'

theorem VL.mono {p : TV} {x : Value} (hp : VL Fz h L p x) (hF : ∀ n,Fz n → Fz' n) (hh : ∀ n,Fz n → h'[n]? = h[n]?) : VL Fz' h' L p x:=by
  induction hp with
  | junk L x=>exact .junk L x
  | v L x hx=>exact .v L x hx
  | agg L l l' hl ha ih=>exact .agg L l l' hl ih
  | tuple L l l' hl ha ih=>exact .tuple L l l' hl ih
  | func L f a b a' b' la ha lb hb iha ihb=>exact .func L f a b a' b' la iha lb ihb
  | nillist L es=>exact .nillist L es
  | vague L es=>exact .vague L es
  | list L es rows n o c cs eb hn hb he hw hc hle ha ih=>exact .list L es rows n o c cs eb (hF n hn) (by rw [hh n hn];exact hb) he hw hc hle ih
  | fptr L vb row off n base es cs hn hb hv hle ha ih=>exact .fptr L vb row off n base es cs (hF n hn) (by rw [hh n hn];exact hb) hv hle ih
  | lptr L n r o nm ok hn=>exact .lptr L n r o nm ok hn
  | lslnil L n ok hn=>exact .lslnil L n ok hn
  | lsl L n o len nm ok hn hle=>exact .lsl L n o len nm ok hn hle
theorem VLs.mono {l : List TV} {l' : List Value} (hs : VLs Fz h L l l') (hF : ∀ n,Fz n → Fz' n) (hh : ∀ n,Fz n → h'[n]? = h[n]?) : VLs Fz' h' L l l' :=
  ⟨hs.len,fun i p x hp hx=>(hs.at' i p x hp hx).mono hF hh⟩

/-- own blocks beside those that were -/
theorem VL.own {p : TV} {x : Value} (hp : VL Fz h L p x) (hL : ∀ n,(L n).ok = true → L' n = L n) : VL Fz h L' p x:=by
  induction hp generalizing L' with
  | junk L x=>exact .junk L' x
  | v L x hx=>exact .v L' x hx
  | agg L l l' hl ha ih=>exact .agg L' l l' hl (fun i p x h1 h2=>ih i p x h1 h2 hL)
  | tuple L l l' hl ha ih=>exact .tuple L' l l' hl (fun i p x h1 h2=>ih i p x h1 h2 hL)
  | func L f a b a' b' la ha lb hb iha ihb=>exact .func L' f a b a' b' la ha lb hb
  | nillist L es=>exact .nillist L' es
  | vague L es=>exact .vague L' es
  | list L es rows n o c cs eb hn hb he hw hc hle ha ih=>exact .list L' es rows n o c cs eb hn hb he hw hc hle ha
  | fptr L vb row off n base es cs hn hb hv hle ha ih=>exact .fptr L' vb row off n base es cs hn hb hv hle ha
  | lptr L n r o nm ok hn=>have e:=hL n ok;rw [← e] at ok hn ⊢;exact .lptr L' n r o nm ok hn
  | lslnil L n ok hn=>have e:=hL n ok;rw [← e] at ok hn;exact .lslnil L' n ok hn
  | lsl L n o len nm ok hn hle=>have e:=hL n ok;rw [← e] at ok hn hle ⊢;exact .lsl L' n o len nm ok hn hle
theorem VLs.own {l : List TV} {l' : List Value} (hs : VLs Fz h L l l') (hL : ∀ n,(L n).ok = true → L' n = L n) : VLs Fz h L' l l' :=
  ⟨hs.len,fun i p x hp hx=>(hs.at' i p x hp hx).own hL⟩
theorem VL.ofNo {p : TV} {x : Value} (hp : VL Fz h noL p x) : VL Fz h L p x:=hp.own (fun n hn=>by simp [noL] at hn)
/-- what names an own block is forgotten -/
def kill (n : Nat) : Nat → TV → TV
  | 0,_=>.junk
  | d + 1,p=>match p with
    | .lptr m r o=>if m = n then .junk else .lptr m r o
    | .lsl m o l=>if m = n then .junk else .lsl m o l
    | .agg l=>.agg (l.map (kill n d))
    | .tuple l=>.tuple (l.map (kill n d))
    | p=>p
theorem VL.kill {n : Nat} (hL : ∀ m,m ≠ n → L' m = L m) : ∀ (d : Nat) {p : TV} {x : Value},VL Fz h L p x → VL Fz h L' (kill n d p) x
  | 0,p,x,hp=>by rw [Rex.kill];exact .junk L' x
  | d + 1,p,x,hp=>by
    have key : ∀ (l : List TV) (l' : List Value),(∀ (i : Nat) p x,l[i]? = some p → l'[i]? = some x → VL Fz h L p x) → ∀ (i : Nat) p x,(l.map (Rex.kill n d))[i]? = some p → l'[i]? = some x → VL Fz h L' p x:=by
      intro l l' ha i p x hp hx
      rw [List.getElem?_map] at hp
      cases hq : l[i]? with
      | none=>rw [hq] at hp;cases hp
      | some q=>rw [hq] at hp;obtain rfl:=Option.some.inj hp;exact VL.kill hL d (ha i q x hq hx)
    cases hp with
    | junk _ x=>exact .junk L' x
    | v _ x hx=>exact .v L' x hx
    | agg _ l l' hl ha=>exact .agg L' _ l' (by simp [hl]) (key l l' ha)
    | tuple _ l l' hl ha=>exact .tuple L' _ l' (by simp [hl]) (key l l' ha)
    | func _ f a b a' b' la ha lb hb=>exact .func L' f a b a' b' la ha lb hb
    | nillist _ es=>exact .nillist L' es
    | vague _ es=>exact .vague L' es
    | list _ es rows n o c cs eb hn hb he hw hc hle ha=>exact .list L' es rows n o c cs eb hn hb he hw hc hle ha
    | fptr _ vb row off n base es cs hn hb hv hle ha=>exact .fptr L' vb row off n base es cs hn hb hv hle ha
    | lptr _ m r o nm ok hn =>
      simp only [Rex.kill]
      split
      · exact .junk L' _
      · rename_i hne;rw [← hL m hne] at ok hn ⊢;exact .lptr L' m r o nm ok hn
    | lslnil _ m ok hn =>
      simp only [Rex.kill]
      split
      · exact .junk L' _
      · rename_i hne;rw [← hL m hne] at ok hn;exact .lslnil L' m ok hn
    | lsl _ m o len nm ok hn hle =>
      simp only [Rex.kill]
      split
      · exact .junk L' _
      · rename_i hne;rw [← hL m hne] at ok hn hle ⊢;exact .lsl L' m o len nm ok hn hle

/-- no own block is named -/
def lf : Nat → TV → Bool
  | 0,_=>false
  | d + 1,p=>match p with
    | .lptr ..=>false
    | .lsl ..=>false
    | .agg l=>l.all (lf d)
    | .tuple l=>l.all (lf d)
    | _=>true
theorem VL.toNo : ∀ (d : Nat) {p : TV} {x : Value},lf d p = true → VL Fz h L p x → VL Fz h L' p x
  | 0,p,x,hl,hp=>by simp [lf] at hl
  | d + 1,p,x,hl,hp=>by
    have key : ∀ (l : List TV) (l' : List Value),l.all (lf d) = true → (∀ (i : Nat) p x,l[i]? = some p → l'[i]? = some x → VL Fz h L p x) → ∀ (i : Nat) p x,l[i]? = some p → l'[i]? = some x → VL Fz h L' p x:=by
      intro l l' hall ha i p x hp hx
      exact VL.toNo d (by simpa using (List.all_eq_true.1 hall) p (List.mem_of_getElem? hp)) (ha i p x hp hx)
    cases hp with
    | junk _ x=>exact .junk L' x
    | v _ x hx=>exact .v L' x hx
    | agg _ l l' hl' ha=>exact .agg L' _ l' hl' (key l l' (by simpa [lf] using hl) ha)
    | tuple _ l l' hl' ha=>exact .tuple L' _ l' hl' (key l l' (by simpa [lf] using hl) ha)
    | func _ f a b a' b' la ha lb hb=>exact .func L' f a b a' b' la ha lb hb
    | nillist _ es=>exact .nillist L' es
    | vague _ es=>exact .vague L' es
    | list _ es rows n o c cs eb hn hb he hw hc hle ha=>exact .list L' es rows n o c cs eb hn hb he hw hc hle ha
    | fptr _ vb row off n base es cs hn hb hv hle ha=>exact .fptr L' vb row off n base es cs hn hb hv hle ha
    | lptr=>simp [lf] at hl
    | lslnil=>simp [lf] at hl
    | lsl=>simp [lf] at hl

/-- nothing is named but own slices -/
def cl : Nat → TV → Bool
  | 0,_=>false
  | d + 1,p=>match p with
    | .junk=>true
    | .v _=>true
    | .lptr ..=>true
    | .lsl ..=>true
    | .agg l=>l.all (cl d)
    | .tuple l=>l.all (cl d)
    | _=>false
theorem VL.ofCl : ∀ (d : Nat) {p : TV} {x : Value},cl d p = true → VL Fz h L p x → VL Fz' h' L p x
  | 0,p,x,hl,hp=>by simp [cl] at hl
  | d + 1,p,x,hl,hp=>by
    have key : ∀ (l : List TV) (l' : List Value),l.all (cl d) = true → (∀ (i : Nat) p x,l[i]? = some p → l'[i]? = some x → VL Fz h L p x) → ∀ (i : Nat) p x,l[i]? = some p → l'[i]? = some x → VL Fz' h' L p x:=by
      intro l l' hall ha i p x hp hx
      exact VL.ofCl d (by simpa using (List.all_eq_true.1 hall) p (List.mem_of_getElem? hp)) (ha i p x hp hx)
    cases hp with
    | junk _ x=>exact .junk L x
    | v _ x hx=>exact .v L x hx
    | agg _ l l' hl' ha=>exact .agg L _ l' hl' (key l l' (by simpa [cl] using hl) ha)
    | tuple _ l l' hl' ha=>exact .tuple L _ l' hl' (key l l' (by simpa [cl] using hl) ha)
    | func=>simp [cl] at hl
    | nillist _ es=>simp [cl] at hl
    | vague _ es=>simp [cl] at hl
    | list=>simp [cl] at hl
    | fptr=>simp [cl] at hl
    | lptr _ n r o nm ok hn=>exact .lptr L n r o nm ok hn
    | lslnil _ n ok hn=>exact .lslnil L n ok hn
    | lsl _ n o len nm ok hn hle=>exact .lsl L n o len nm ok hn hle

/-- a value without names -/
def er : Nat → TV → Option Value
  | 0,_=>none
  | d + 1,p=>match p with
    | .v x=>some x
    | .agg l=>(l.mapM (er d)).map fun l'=>.agg ⟨l'⟩
    | _=>none
theorem mapM_some {α β : Type} {f : α → Option β} : ∀ {l : List α} {l' : List β},l.mapM f = some l' → l'.length = l.length ∧ ∀ (i : Nat) a b,l[i]? = some a → l'[i]? = some b → f a = some b
  | [],l',hl=>by simp at hl;subst hl;simp
  | a :: l,l',hl=>by
    simp only [List.mapM_cons,bind,Option.bind_eq_some_iff,pure] at hl
    obtain ⟨b,hb,r,hr,he⟩:=hl
    obtain rfl:=Option.some.inj he
    obtain ⟨h1,h2⟩:=mapM_some hr
    refine ⟨by simp [h1],fun i x y hx hy=>?_⟩
    cases i with
    | zero=>simp at hx hy;subst hx hy;exact hb
    | succ i=>simp at hx hy;exact h2 i x y hx hy
theorem VL.er : ∀ (d : Nat) {p : TV} {x y : Value},er d p = some y → VL Fz h L p x → x = y
  | 0,p,x,y,he,hp=>by simp [Rex.er] at he
  | d + 1,p,x,y,he,hp=>by
    cases hp with
    | v _ x hx=>simpa [Rex.er] using he
    | agg _ l l' hl ha =>
      simp only [Rex.er,Option.map_eq_some_iff] at he
      obtain ⟨r,hr,rfl⟩:=he
      obtain ⟨h1,h2⟩:=mapM_some hr
      congr 2
      apply List.ext_getElem?
      intro i
      cases hx : l'[i]? with
      | none =>
        rw [List.getElem?_eq_none_iff] at hx
        rw [eq_comm,List.getElem?_eq_none_iff]
        omega
      | some x =>
        have hi:=(List.getElem?_eq_some_iff.1 hx).1
        have hp : l[i]? = some l[i]:=List.getElem?_eq_getElem (by omega)
        have hy : r[i]? = some r[i]:=List.getElem?_eq_getElem (by omega)
        rw [hy,VL.er d (h2 i _ _ hp hy) (ha i _ _ hp hx)]
    | _=>simp [Rex.er] at he
/-- a tree of a value without names -/
def inj : Nat → Value → TV
  | 0,x=>.v x
  | d + 1,x=>match x with
    | .agg ⟨l⟩=>.agg (l.map (inj d))
    | .tuple ⟨l⟩=>.tuple (l.map (inj d))
    | x=>.v x
def injOk : Nat → Value → Bool
  | 0,x=>isAtom x
  | d + 1,x=>match x with
    | .agg ⟨l⟩=>l.all (injOk d)
    | .tuple ⟨l⟩=>l.all (injOk d)
    | x=>isAtom x
theorem VL.inj : ∀ (d : Nat) {x : Value},injOk d x = true → VL Fz h L (inj d x) x
  | 0,x,hx=>.v L x (by simpa [injOk] using hx)
  | d + 1,x,hx=>by
    have key : ∀ (l : List Value),l.all (injOk d) = true → VLs Fz h L (l.map (Rex.inj d)) l:=by
      intro l hl
      refine ⟨by simp,fun i p x hp hx=>?_⟩
      rw [List.getElem?_map,hx] at hp
      obtain rfl:=Option.some.inj hp
      exact VL.inj d (by simpa using (List.all_eq_true.1 hl) x (List.mem_of_getElem? hx))
    unfold Rex.inj
    unfold injOk at hx
    split at hx
    · exact .agg' (key _ hx)
    · exact .tuple' (key _ hx)
    · exact .v L _ hx
end
end Go.Rex

namespace Go.Rex
open Go.RowKit
/-- an own block -/
inductive TB
  | dead
  | rows (es : Nat) (rows : List (List TV))
  | var (row : List TV)
structure TS where
  tm : List TV
  hp : List TB

def BR (lo : Nat) (Fz : Nat → Prop) (h : List Blk) (L : Nat → LI) (n : Nat) : TB → Prop
  | .dead=>True
  | .rows es rows => (L n).ok = true ∧ (L n).es = es ∧ (L n).tot = rows.length ∧ (∀ r ∈ rows, r.length = es) ∧
      (((L n).nm = none ∧ rows = []) ∨ ∃ nm cs,(L n).nm = some nm ∧ lo ≤ nm ∧ ¬ Fz nm ∧ h[nm]? = some (.cells es cs) ∧ VLs Fz h noL rows.flatten cs)
  | .var row=>(L n).ok = true ∧ ∃ nm cs,(L n).nm = some nm ∧ lo ≤ nm ∧ ¬ Fz nm ∧ h[nm]? = some (.cells 0 cs) ∧ VLs Fz h L row cs
def TB.live : TB → Bool
  | .dead=>false
  | _=>true

structure St (h0 : List Blk) (Fz : Nat → Prop) (L : Nat → LI) (s : TS) (tm : List Value) (h : List Blk) : Prop where
  tmr : VLs Fz h L s.tm tm
  blk : ∀ n b,s.hp[n]? = some b → BR h0.length Fz h L n b
  dom : ∀ n,(L n).ok = true → n < s.hp.length
  inj : ∀ n n' b b' nm,s.hp[n]? = some b → s.hp[n']? = some b' → b.live = true → b'.live = true → (L n).nm = some nm → (L n').nm = some nm → n = n'
  fz : ∀ n,Fz n → n < h.length
  ext : Ext h0 h

/-- what is frozen stays so, and as it is -/
structure Grow (h0 : List Blk) (Fz Fz' : Nat → Prop) (h h' : List Blk) : Prop where
  fz : ∀ n,Fz n → Fz' n
  new : ∀ n,Fz' n → Fz n ∨ h0.length ≤ n
  same : ∀ n,Fz n → h'[n]? = h[n]?
theorem Grow.refl (h0 : List Blk) (Fz : Nat → Prop) {h : List Blk} : Grow h0 Fz Fz h h:=⟨fun _ h=>h,fun _ h=>.inl h,fun _ _=>rfl⟩
theorem Grow.trans {h0 h h1 h2 : List Blk} {A B C : Nat → Prop} (a : Grow h0 A B h h1) (b : Grow h0 B C h1 h2) : Grow h0 A C h h2 :=
  ⟨fun n h=>b.1 n (a.1 n h),fun n h=>by rcases b.2 n h with h|h;exact a.2 n h;exact .inr h,fun n hn=>(b.3 n (a.1 n hn)).trans (a.3 n hn)⟩
theorem Grow.ext {h0 h h' : List Blk} {Fz : Nat → Prop} (hz : ∀ n,Fz n → n < h.length) (he : Ext h h') : Grow h0 Fz Fz h h' :=
  ⟨fun _ h=>h,fun _ h=>.inl h,fun n hn=>by obtain ⟨t,rfl⟩:=he;exact List.getElem?_append_left (hz n hn)⟩
theorem Grow.set {h0 h : List Blk} {Fz : Nat → Prop} {nm : Nat} {b : Blk} (hn : ¬ Fz nm) : Grow h0 Fz Fz h (h.set nm b) :=
  ⟨fun _ h=>h,fun _ h=>.inl h,fun n hf=>List.getElem?_set_ne (by rintro rfl;exact hn hf)⟩

/-- a state is one that says less -/
def Wk (s s' : TS) : Prop:=∀ h0 Fz L tm h,St h0 Fz L s tm h → ∃ Fz' L',Grow h0 Fz Fz' h h ∧ St h0 Fz' L' s' tm h
section
variable {C : Ctx} {P : Program}
def TX (C : Ctx) (P : Program) (c : Code) (s : TS) (Q : Exit → TS → Prop) : Prop :=
  ∀ h0 Fz L tm h,St h0 Fz L s tm h → XP C P none h0.length c ⟨tm,[]⟩ h (fun e a' h'=>a'.df = [] ∧ ∃ s' Fz' L',Q e s' ∧ Grow h0 Fz Fz' h h' ∧ St h0 Fz' L' s' a'.tm h')
variable {s s' : TS} {Q Q' : Exit → TS → Prop}
theorem TX.mono {c : Code} (hx : TX C P c s Q) (hq : ∀ e s,Q e s → Q' e s) : TX C P c s Q':=by
  intro h0 Fz L tm h hs
  refine (hx h0 Fz L tm h hs).mono ?_
  rintro e a' h' ⟨hd,s',F',L',q,g,hs'⟩
  exact ⟨hd,s',F',L',hq _ _ q,g,hs'⟩
theorem TX.weak {c : Code} (hw : Wk s s') (hx : TX C P c s' Q) : TX C P c s Q:=by
  intro h0 Fz L tm h hs
  obtain ⟨F1,L1,g1,s1⟩:=hw h0 Fz L tm h hs
  refine (hx h0 F1 L1 tm h s1).mono ?_
  rintro e a' h' ⟨hd,s',F',L',q,g,hs'⟩
  exact ⟨hd,s',F',L',q,g1.trans g,hs'⟩
theorem TX.post {c : Code} (hx : TX C P c s (fun e s=>∃ s',Wk s s' ∧ Q e s')) : TX C P c s Q:=by
  intro h0 Fz L tm h hs
  refine (hx h0 Fz L tm h hs).mono ?_
  rintro e a' h' ⟨hd,s',F',L',⟨s2,w,q⟩,g,hs'⟩
  obtain ⟨F2,L2,g2,hs2⟩:=w h0 F' L' a'.tm h' hs'
  exact ⟨hd,s2,F2,L2,q,g.trans g2,hs2⟩
theorem TX.skip (hq : Q .normal s) : TX C P .skip s Q:=fun _ Fz L _ _ hs=>XP.skip ⟨rfl,s,Fz,L,hq,Grow.refl _ _,hs⟩
theorem TX.exit {id : Nat} (hq : Q (.exit id) s) : TX C P (.exit id) s Q:=fun _ Fz L _ _ hs=>XP.exit ⟨rfl,s,Fz,L,hq,Grow.refl _ _,hs⟩
theorem TX.ret (hq : Q .ret s) : TX C P .ret s Q:=fun _ Fz L _ _ hs=>XP.ret ⟨rfl,s,Fz,L,hq,Grow.refl _ _,hs⟩
def seqT (next : TS → Prop) (Q : Exit → TS → Prop) : Exit → TS → Prop
  | .normal,s=>next s
  | e,s=>Q e s
theorem TX.seq {x y : Code} (hx : TX C P x s (seqT (fun s=>TX C P y s Q) Q)) : TX C P (.seq x y) s Q:=by
  intro h0 Fz L tm h hs
  refine XP.seq ((hx h0 Fz L tm h hs).mono ?_)
  rintro e ⟨tm',df'⟩ h' ⟨hd,s',F',L',q,g,hs'⟩
  obtain rfl : df' = []:=hd
  cases e with
  | normal =>
    refine seqQ_n ?_
    refine (q h0 F' L' tm' h' hs').mono ?_
    rintro e a' h' ⟨hd,s',F',L',q,g',hs'⟩
    exact ⟨hd,s',F',L',q,g.trans g',hs'⟩
  | _=>exact ⟨rfl,s',F',L',q,g,hs'⟩
def blockT (id : Nat) (Q : Exit → TS → Prop) : Exit → TS → Prop
  | .exit id',s=>if id' = id then Q .normal s else Q (.exit id') s
  | e,s=>Q e s
theorem TX.block {id : Nat} {b : Code} (hx : TX C P b s (blockT id Q)) : TX C P (.block id b) s Q:=by
  intro h0 Fz L tm h hs
  refine XP.block ((hx h0 Fz L tm h hs).mono ?_)
  rintro e ⟨tm',df'⟩ h' ⟨hd,s',F',L',q,g,hs'⟩
  cases e with
  | exit id' =>
    simp only [blockT] at q
    simp only [blockQ]
    split at q
    · rename_i hi;rw [if_pos hi];exact ⟨hd,s',F',L',q,g,hs'⟩
    · rename_i hi;rw [if_neg hi];exact ⟨hd,s',F',L',q,g,hs'⟩
  | _=>exact ⟨hd,s',F',L',q,g,hs'⟩
theorem seqT_n {next : TS → Prop} (hq : next s) : seqT next Q .normal s:=hq
theorem seqT_e {next : TS → Prop} {id : Nat} (hq : Q (.exit id) s) : seqT next Q (.exit id) s:=hq
theorem seqT_r {next : TS → Prop} (hq : Q .ret s) : seqT next Q .ret s:=hq
theorem blockT_n {id : Nat} (hq : Q .normal s) : blockT id Q .normal s:=hq
theorem blockT_r {id : Nat} (hq : Q .ret s) : blockT id Q .ret s:=hq
theorem blockT_e {id : Nat} (hq : Q .normal s) : blockT id Q (.exit id) s:=by simpa only [blockT,if_true] using hq
def tnth : List TV → Nat → TV
  | [],_=>.tuple []
  | v :: _,0=>v
  | _ :: l,n + 1=>tnth l n
theorem tnth_eq : ∀ (l : List TV) (n : Nat),tnth l n = l[n]?.getD (.tuple [])
  | [],n=>by simp [tnth]
  | v :: l,0=>by simp [tnth]
  | v :: l,n + 1=>by simp [tnth,tnth_eq l n]
def tev (tm : List TV) : Operand → TV
  | .tmp t=>tnth tm t
  | .const v=>if injOk 3 v = true then inj 3 v else .junk
  | .global _=>.junk
  | .func f=>.func f [] []
theorem tev_vl {Fz : Nat → Prop} {h : List Blk} {L : Nat → LI} {tm : List TV} {vm : List Value} (hs : VLs Fz h L tm vm) (x : Operand) : VL Fz h L (tev tm x) (ev vm x):=by
  cases x with
  | tmp t =>
    simp only [tev,ev]
    rw [tnth_eq,nth_eq]
    cases hp : tm[t]? with
    | none =>
      have : vm[t]? = none:=by
        rw [List.getElem?_eq_none_iff] at hp ⊢
        rw [hs.len];exact hp
      rw [this]
      exact .tuple L [] [] rfl (fun i p x h=>by simp at h)
    | some p =>
      obtain ⟨x,hx,hv⟩:=hs.at hp
      rw [hx];exact hv
  | const v =>
    simp only [tev,ev]
    split
    · rename_i hi;exact VL.inj 3 hi
    · exact .junk L _
  | global g=>exact .junk L _
  | func f=>exact .func L f [] [] [] [] rfl (fun i p x h=>by simp at h) rfl (fun i p x h=>by simp at h)
def tput (tm : List TV) (dst : Option Tmp) (v : TV) : List TV :=
  match dst with
  | some d=>tm.set d v
  | none=>tm
theorem tput_vl {Fz : Nat → Prop} {h : List Blk} {L : Nat → LI} {tm : List TV} {vm : List Value} (hs : VLs Fz h L tm vm) (dst : Option Tmp) {p : TV} {x : Value} (hp : VL Fz h L p x) : VLs Fz h L (tput tm dst p) (putL vm dst x):=by
  cases dst with
  | none=>exact hs
  | some d=>exact hs.set d hp

theorem VL.bool_inv {Fz : Nat → Prop} {h : List Blk} {L : Nat → LI} {x y : Value} (hp : VL Fz h L (.v x) y) : y = x:=by cases hp;rfl
theorem TX.cond_true {c : Operand} {x y : Code} (ho : opndOk c = true) (hc : tev s.tm c = .v (.bool true)) (hx : TX C P x s Q) : TX C P (.cond c x y) s Q:=by
  intro h0 Fz L tm h hs
  have:=tev_vl hs.tmr c
  rw [hc] at this
  exact XP.cond_true ho this.bool_inv (hx h0 Fz L tm h hs)
theorem TX.cond_false {c : Operand} {x y : Code} (ho : opndOk c = true) (hc : tev s.tm c = .v (.bool false)) (hx : TX C P y s Q) : TX C P (.cond c x y) s Q:=by
  intro h0 Fz L tm h hs
  have:=tev_vl hs.tmr c
  rw [hc] at this
  exact XP.cond_false ho this.bool_inv (hx h0 Fz L tm h hs)

/-! ### loops: a step over and over -/
inductive Runs {σ ε : Type} (step : σ → Option (σ ⊕ ε)) : σ → ε → Prop
  | stop {s : σ} {e : ε} (h : step s = some (.inr e)) : Runs step s e
  | next {s s' : σ} {e : ε} (h : step s = some (.inl s')) (hr : Runs step s' e) : Runs step s e
theorem Runs.det {σ ε : Type} {step : σ → Option (σ ⊕ ε)} {s : σ} {e e' : ε} (h : Runs step s e) (h' : Runs step s e') : e = e':=by
  induction h with
  | stop h=>cases h' with
    | stop g=>rw [h] at g;injection g with g;injection g
    | next g _=>rw [h] at g;injection g with g;cases g
  | next h _ ih=>cases h' with
    | stop g=>rw [h] at g;injection g with g;cases g
    | next g gr=>rw [h] at g;injection g with g;injection g with g;subst g;exact ih gr
open Classical in
noncomputable def run {σ ε : Type} (step : σ → Option (σ ⊕ ε)) (s : σ) : Option ε:=if h : ∃ e,Runs step s e then some (Classical.choose h) else none
theorem run_iff {σ ε : Type} {step : σ → Option (σ ⊕ ε)} {s : σ} {e : ε} : run step s = some e ↔ Runs step s e:=by
  unfold run
  constructor
  · intro h
    split at h
    · rename_i hx
      obtain rfl:=Option.some.inj h
      exact Classical.choose_spec hx
    · cases h
  · intro h
    have hx : ∃ e,Runs step s e:=⟨e,h⟩
    rw [dif_pos hx]
    exact congrArg some (Runs.det (Classical.choose_spec hx) h)
theorem run_stop {σ ε : Type} {step : σ → Option (σ ⊕ ε)} {s : σ} {e : ε} (h : step s = some (.inr e)) : run step s = some e:=run_iff.2 (.stop h)
theorem run_next {σ ε : Type} {step : σ → Option (σ ⊕ ε)} {s s' : σ} (h : step s = some (.inl s')) : run step s = run step s':=by
  cases hr : run step s' with
  | none =>
    cases hs : run step s with
    | none=>rfl
    | some e =>
      have:=run_iff.1 hs
      cases this with
      | stop g=>rw [h] at g;injection g with g;cases g
      | next g gr=>rw [h] at g;injection g with g;injection g with g;subst g;rw [run_iff.2 gr] at hr;cases hr
  | some e=>exact run_iff.2 (.next h (run_iff.1 hr))
theorem TX.loop {σ ε : Type} {b : Code} {step : σ → Option (σ ⊕ ε)} {x : σ} {e : ε} (hr : run step x = some e) (I : σ → TS) (J : ε → Exit → TS → Prop)
    (hI : ∀ x x',step x = some (.inl x') → TX C P b (I x) (fun ex st=>ex = .normal ∧ Wk st (I x'))) (hJ : ∀ x e,step x = some (.inr e) → TX C P b (I x) (fun ex st=>ex ≠ .normal ∧ J e ex st)) : TX C P (.loop b) (I x) (J e):=by
  have hr':=run_iff.1 hr
  clear hr
  induction hr' with
  | @stop x e h =>
    intro h0 Fz L tm hh hs
    obtain ⟨K,ex,a',h',wr,h1,h2,hd,s',F',L',⟨hne,q⟩,g,hs'⟩:=hJ _ _ h h0 Fz L tm hh hs
    cases ex with
    | normal=>exact absurd rfl hne
    | _=>exact ⟨K + 1,_,a',h',wr,by simp only [exec,h1],h2,hd,s',F',L',q,g,hs'⟩
  | @next x x1 e h hr ih =>
    intro h0 Fz L tm hh hs
    obtain ⟨K,ex,⟨tm',df'⟩,h',wr,h1,h2,hd,s',F',L',⟨rfl,hw⟩,g,hs'⟩:=hI _ _ h h0 Fz L tm hh hs
    obtain rfl : df' = []:=hd
    obtain ⟨F2,L2,g2,hs2⟩:=hw h0 F' L' tm' h' hs'
    obtain ⟨K2,ex,a2,h2',wr2,k1,k2,kd,s3,F3,L3,q,g3,hs3⟩:=ih h0 F2 L2 tm' h' hs2
    refine ⟨max K K2 + 1,ex,a2,h2',wmin wr wr2,?_,wge_min h2 k2,kd,s3,F3,L3,q,(g.trans g2).trans g3,hs3⟩
    simp only [exec]
    rw [exec_le (Nat.le_max_left K K2) h1]
    simp only
    rw [exec_le (Nat.le_max_right K K2) k1]
    rfl
end
end Go.Rex

namespace Go.Rex
open Go.RowKit
section
variable {h0 h h' : List Blk} {Fz Fz' : Nat → Prop} {L L' : Nat → LI} {s s' : TS} {tm : List Value}

theorem St.put (hs : St h0 Fz L s tm h) (dst : Option Tmp) {p : TV} {v : Value} (hp : VL Fz h L p v) : St h0 Fz L ⟨tput s.tm dst p,s.hp⟩ (putL tm dst v) h :=
  ⟨tput_vl hs.tmr dst hp,hs.blk,hs.dom,hs.inj,hs.fz,hs.ext⟩

theorem BR.mono {lo n : Nat} {b : TB} (hb : BR lo Fz h L n b) (hF : ∀ n,Fz n → Fz' n) (hh : ∀ n,Fz n → h'[n]? = h[n]?) (hn : ∀ nm b,¬ Fz nm → h[nm]? = some b → (L n).nm = some nm → h'[nm]? = some b ∧ ¬ Fz' nm) : BR lo Fz' h' L n b:=by
  cases b with
  | dead=>trivial
  | rows es rows =>
    obtain ⟨h1,h2,h3,h4,h5⟩:=hb
    refine ⟨h1,h2,h3,h4,?_⟩
    rcases h5 with h5|⟨nm,cs,e1,e2,e3,e4,e5⟩
    · exact .inl h5
    · obtain ⟨q1,q2⟩:=hn nm _ e3 e4 e1
      exact .inr ⟨nm,cs,e1,e2,q2,q1,e5.mono hF hh⟩
  | var row =>
    obtain ⟨h1,nm,cs,e1,e2,e3,e4,e5⟩:=hb
    obtain ⟨q1,q2⟩:=hn nm _ e3 e4 e1
    exact ⟨h1,nm,cs,e1,e2,q2,q1,e5.mono hF hh⟩
theorem BR.own {lo n n' : Nat} {b : TB} (hb : BR lo Fz h L n b) (hL : ∀ n,(L n).ok = true → L' n = L n) (hn : L' n' = L n) : BR lo Fz h L' n' b:=by
  cases b with
  | dead=>trivial
  | rows es rows =>
    obtain ⟨h1,h2,h3,h4,h5⟩:=hb
    unfold BR
    rw [hn]
    exact ⟨h1,h2,h3,h4,h5⟩
  | var row =>
    obtain ⟨h1,nm,cs,e1,e2,e3,e4,e5⟩:=hb
    unfold BR
    rw [hn]
    exact ⟨h1,nm,cs,e1,e2,e3,e4,e5.own hL⟩

/-- the heap has grown, and what is new may be frozen -/
theorem St.heap (hs : St h0 Fz L s tm h) (hx : Ext h h') (hF : ∀ n,Fz n → Fz' n) (hF2 : ∀ n,Fz' n → Fz n ∨ (h.length ≤ n ∧ n < h'.length)) : St h0 Fz' L s tm h':=by
  have hh : ∀ n,Fz n → h'[n]? = h[n]?:=fun n hn=>by
    have:=hs.fz n hn
    rw [List.getElem?_eq_getElem this]
    exact hx.at (List.getElem?_eq_getElem this)
  refine ⟨hs.tmr.mono hF hh,fun n b hb=>(hs.blk n b hb).mono hF hh (fun nm b hn hb _=>⟨hx.at hb,fun hf=>?_⟩),hs.dom,hs.inj,fun n hn=>?_,hs.ext.trans hx⟩
  · rcases hF2 nm hf with h1|h1
    · exact hn h1
    · have:=(List.getElem?_eq_some_iff.1 hb).1;omega
  · have:=hx.le
    rcases hF2 n hn with h1|h1
    · have:=hs.fz n h1;omega
    · exact h1.2

def shift (k : Nat) : Nat → TV → TV
  | 0,_=>.junk
  | d + 1,p=>match p with
    | .lptr m r o=>.lptr (k + m) r o
    | .lsl m o l=>.lsl (k + m) o l
    | .agg l=>.agg (l.map (shift k d))
    | .tuple l=>.tuple (l.map (shift k d))
    | p=>p
theorem VL.shift {k : Nat} (hL : ∀ n,(L n).ok = true → L' (k + n) = L n) : ∀ (d : Nat) {p : TV} {x : Value},VL Fz h L p x → VL Fz h L' (shift k d p) x
  | 0,p,x,hp=>by rw [Rex.shift];exact .junk L' x
  | d + 1,p,x,hp=>by
    have key : ∀ (l : List TV) (l' : List Value),(∀ (i : Nat) p x,l[i]? = some p → l'[i]? = some x → VL Fz h L p x) → ∀ (i : Nat) p x,(l.map (Rex.shift k d))[i]? = some p → l'[i]? = some x → VL Fz h L' p x:=by
      intro l l' ha i p x hp hx
      rw [List.getElem?_map] at hp
      cases hq : l[i]? with
      | none=>rw [hq] at hp;cases hp
      | some q=>rw [hq] at hp;obtain rfl:=Option.some.inj hp;exact VL.shift hL d (ha i q x hq hx)
    cases hp with
    | junk _ x=>exact .junk L' x
    | v _ x hx=>exact .v L' x hx
    | agg _ l l' hl ha=>exact .agg L' _ l' (by simp [hl]) (key l l' ha)
    | tuple _ l l' hl ha=>exact .tuple L' _ l' (by simp [hl]) (key l l' ha)
    | func _ f a b a' b' la ha lb hb=>exact .func L' f a b a' b' la ha lb hb
    | nillist _ es=>exact .nillist L' es
    | vague _ es=>exact .vague L' es
    | list _ es rows n o c cs eb hn hb he hw hc hle ha=>exact .list L' es rows n o c cs eb hn hb he hw hc hle ha
    | fptr _ vb row off n base es cs hn hb hv hle ha=>exact .fptr L' vb row off n base es cs hn hb hv hle ha
    | lptr _ m r o nm ok hn =>
      have e:=hL m ok
      simp only [Rex.shift]
      rw [← e] at ok hn ⊢
      exact .lptr L' (k + m) r o nm ok hn
    | lslnil _ m ok hn =>
      have e:=hL m ok
      simp only [Rex.shift]
      rw [← e] at ok hn
      exact .lslnil L' (k + m) ok hn
    | lsl _ m o len nm ok hn hle =>
      have e:=hL m ok
      simp only [Rex.shift]
      rw [← e] at ok hn hle ⊢
      exact .lsl L' (k + m) o len nm ok hn hle

def resTB : TB → Bool
  | .var row=>row.all (lf 4)
  | _=>true
/-- a result, with the blocks that it owns, becomes one's own -/
theorem St.adopt (hs : St h0 Fz L s tm h) (dst : Option Tmp) {p : TV} {v : Value} {th : List TB} {L2 : Nat → LI} (hr : St h Fz' L2 ⟨[p], th⟩ [v] h') (hth : th.all resTB = true) (g : Grow h Fz Fz' h h') :
    ∃ L3,St h0 Fz' L3 ⟨tput s.tm dst (shift s.hp.length 4 p),s.hp ++ th⟩ (putL tm dst v) h':=by
  have hle:=hr.ext.le
  have hh1 : St h0 Fz' L s tm h':=hs.heap hr.ext g.1 (fun n hn=>by
    rcases g.2 n hn with h1|h1
    · exact .inl h1
    · exact .inr ⟨h1,hr.fz n hn⟩)
  refine ⟨fun n=>if n < s.hp.length then L n else L2 (n - s.hp.length),?_⟩
  have hold : ∀ n,(L n).ok = true → (fun n=>if n < s.hp.length then L n else L2 (n - s.hp.length)) n = L n:=fun n hn=>by
    have:=hs.dom n hn
    simp only [if_pos this]
  have hnew : ∀ n,(L2 n).ok = true → (fun n=>if n < s.hp.length then L n else L2 (n - s.hp.length)) (s.hp.length + n) = L2 n:=fun n _=>by
    simp;omega
  have hlow : ∀ n b nm,s.hp[n]? = some b → b.live = true → (L n).nm = some nm → nm < h.length:=by
    intro n b nm hb hlv hn
    have:=hs.blk n b hb
    cases b with
    | dead=>cases hlv
    | rows es rows =>
      obtain ⟨-,-,-,-,h5⟩:=this
      rcases h5 with h5|⟨nm',cs,e1,e2,e3,e4,e5⟩
      · rw [h5.1] at hn;cases hn
      · rw [e1] at hn;obtain rfl:=Option.some.inj hn
        exact (List.getElem?_eq_some_iff.1 e4).1
    | var row =>
      obtain ⟨-,nm',cs,e1,e2,e3,e4,e5⟩:=this
      rw [e1] at hn;obtain rfl:=Option.some.inj hn
      exact (List.getElem?_eq_some_iff.1 e4).1
  have hhigh : ∀ n b nm,th[n]? = some b → b.live = true → (L2 n).nm = some nm → h.length ≤ nm:=by
    intro n b nm hb hlv hn
    have:=hr.blk n b hb
    cases b with
    | dead=>cases hlv
    | rows es rows =>
      obtain ⟨-,-,-,-,h5⟩:=this
      rcases h5 with h5|⟨nm',cs,e1,e2,e3,e4,e5⟩
      · rw [h5.1] at hn;cases hn
      · rw [e1] at hn;obtain rfl:=Option.some.inj hn
        exact e2
    | var row =>
      obtain ⟨-,nm',cs,e1,e2,e3,e4,e5⟩:=this
      rw [e1] at hn;obtain rfl:=Option.some.inj hn
      exact e2
  have hp : VL Fz' h' L2 p v:=hr.tmr.at' 0 p v rfl rfl
  refine ⟨tput_vl (hh1.tmr.own hold) dst (hp.shift hnew 4),?_,?_,?_,hr.fz,hh1.ext⟩
  · intro n b hb
    rcases Nat.lt_or_ge n s.hp.length with hlt|hge
    · rw [List.getElem?_append_left hlt] at hb
      exact (hh1.blk n b hb).own hold (by simp only [if_pos hlt])
    · rw [List.getElem?_append_right hge] at hb
      have hb':=hr.blk _ b hb
      have e : (fun n=>if n < s.hp.length then L n else L2 (n - s.hp.length)) n = L2 (n - s.hp.length):=by
        simp only [if_neg (show ¬ n < s.hp.length by omega)]
      cases b with
      | dead=>trivial
      | rows es rows =>
        obtain ⟨h1,h2,h3,h4,h5⟩:=hb'
        unfold BR
        rw [e]
        refine ⟨h1,h2,h3,h4,?_⟩
        rcases h5 with h5|⟨nm,cs,e1,e2,e3,e4,e5⟩
        · exact .inl h5
        · exact .inr ⟨nm,cs,e1,Nat.le_trans hs.ext.le e2,e3,e4,e5⟩
      | var row =>
        obtain ⟨h1,nm,cs,e1,e2,e3,e4,e5⟩:=hb'
        have hlf : row.all (lf 4) = true:=by
          have:=List.all_eq_true.1 hth _ (List.mem_of_getElem? hb)
          simpa [resTB] using this
        unfold BR
        rw [e]
        refine ⟨h1,nm,cs,e1,Nat.le_trans hs.ext.le e2,e3,e4,e5.len,fun i p x hp hx=>?_⟩
        exact VL.toNo 4 (by simpa using List.all_eq_true.1 hlf p (List.mem_of_getElem? hp)) (e5.at' i p x hp hx)
  · intro n hn
    rw [List.length_append]
    rcases Nat.lt_or_ge n s.hp.length with hlt|hge
    · omega
    · simp only [if_neg (show ¬ n < s.hp.length by omega)] at hn
      have:=hr.dom _ hn
      simp only at this
      omega
  · intro n n' b b' nm hb hb' l1 l2 e1 e2
    rcases Nat.lt_or_ge n s.hp.length with hlt|hge<;>rcases Nat.lt_or_ge n' s.hp.length with hlt'|hge'
    · rw [List.getElem?_append_left hlt] at hb
      rw [List.getElem?_append_left hlt'] at hb'
      simp only [if_pos hlt] at e1
      simp only [if_pos hlt'] at e2
      exact hs.inj n n' b b' nm hb hb' l1 l2 e1 e2
    · rw [List.getElem?_append_left hlt] at hb
      rw [List.getElem?_append_right hge'] at hb'
      simp only [if_pos hlt] at e1
      simp only [if_neg (show ¬ n' < s.hp.length by omega)] at e2
      have:=hlow n b nm hb l1 e1
      have:=hhigh _ b' nm hb' l2 e2
      omega
    · rw [List.getElem?_append_right hge] at hb
      rw [List.getElem?_append_left hlt'] at hb'
      simp only [if_neg (show ¬ n < s.hp.length by omega)] at e1
      simp only [if_pos hlt'] at e2
      have:=hlow n' b' nm hb' l2 e2
      have:=hhigh _ b nm hb l1 e1
      omega
    · rw [List.getElem?_append_right hge] at hb
      rw [List.getElem?_append_right hge'] at hb'
      simp only [if_neg (show ¬ n < s.hp.length by omega)] at e1
      simp only [if_neg (show ¬ n' < s.hp.length by omega)] at e2
      have:=hr.inj _ _ b b' nm hb hb' l1 l2 e1 e2
      omega

/-- a store into an own block -/
theorem St.write (hs : St h0 Fz L s tm h) {n nm es : Nat} {b b' : TB} {cs cs' : List Value} (hb : s.hp[n]? = some b) (hlv : b.live = true) (hn : (L n).nm = some nm) (hc : h[nm]? = some (.cells es cs)) (hlo : h0.length ≤ nm) (hnf : ¬ Fz nm)
    (hb' : BR h0.length Fz (h.set nm (.cells es cs')) L n b') : St h0 Fz L ⟨s.tm,s.hp.set n b'⟩ tm (h.set nm (.cells es cs')):=by
  have hlt:=(List.getElem?_eq_some_iff.1 hc).1
  have hh : ∀ k,Fz k → (h.set nm (.cells es cs'))[k]? = h[k]?:=fun k hk=>by
    rw [List.getElem?_set_ne];rintro rfl;exact hnf hk
  refine ⟨hs.tmr.mono (fun _ h=>h) hh,?_,fun k hk=>by simpa using hs.dom k hk,?_,fun k hk=>by simpa using hs.fz k hk,?_⟩
  · intro k bk hk
    rw [List.getElem?_set] at hk
    split at hk
    · rename_i e
      subst e
      split at hk
      · obtain rfl:=Option.some.inj hk;exact hb'
      · cases hk
    · rename_i e
      by_cases hlk : bk.live = true
      · refine (hs.blk k bk hk).mono (fun _ h=>h) hh (fun nm' b hf hb hn'=>⟨?_,hf⟩)
        rw [List.getElem?_set_ne]
        · exact hb
        · rintro rfl
          exact e (hs.inj n k _ bk nm (by assumption) hk hlv hlk hn hn')
      · cases bk with
        | dead=>trivial
        | _=>exact absurd rfl hlk
  · intro k k' c c' nm' h1 h2 l1 l2 e1 e2
    have f : ∀ (k : Nat) (c : TB),(s.hp.set n b')[k]? = some c → c.live = true → ∃ c0 : TB,s.hp[k]? = some c0 ∧ c0.live = true:=by
      intro k c hk hl
      rw [List.getElem?_set] at hk
      split at hk
      · rename_i e;subst e;exact ⟨b,hb,hlv⟩
      · exact ⟨c,hk,hl⟩
    obtain ⟨c1,g1,g2⟩:=f k c h1 l1
    obtain ⟨c2,g3,g4⟩:=f k' c' h2 l2
    exact hs.inj k k' c1 c2 nm' g1 g3 g2 g4 e1 e2
  · obtain ⟨t,rfl⟩:=hs.ext
    exact ⟨t.set (nm - h0.length) (.cells es cs'),by rw [List.set_append_right _ _ hlo]⟩
end
end Go.Rex
