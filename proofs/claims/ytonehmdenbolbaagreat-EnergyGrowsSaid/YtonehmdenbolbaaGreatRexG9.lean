/- An executor of the program's functions on trees of values, proved sound. -/
import Derived.Test.YtonehmdenbolbaaGreatRexG5
set_option linter.unusedSimpArgs false
set_option linter.unusedVariables false
set_option linter.defProp false
namespace Go.Rex
open Go.RowKit
/-! ### calls that are known: what they return is told by what they can reach -/
def al2 {α β : Type} (p : α → β → Bool) : List α → List β → Bool
  | [], [] => true
  | a :: s, b :: t => p a b && al2 p s t
  | _, _ => false
theorem al2_at {α β : Type} {p : α → β → Bool} : ∀ {s : List α} {t : List β}, al2 p s t = true → t.length = s.length ∧ ∀ (i : Nat) a b, s[i]? = some a → t[i]? = some b → p a b = true
  | [], [], _ => ⟨rfl, fun i a b h => by simp at h⟩
  | [], _ :: _, hh => by simp [al2] at hh
  | _ :: _, [], hh => by simp [al2] at hh
  | a :: s, b :: t, hh => by
    simp only [al2, Bool.and_eq_true] at hh
    obtain ⟨h1, h2⟩ := al2_at hh.2
    refine ⟨by simp [h1], fun i x y hx hy => ?_⟩
    cases i with
    | zero => simp at hx hy; subst hx hy; exact hh.1
    | succ i => exact h2 i x y (by simpa using hx) (by simpa using hy)
theorem al2_eq {α : Type} {p : α → α → Bool} (h : ∀ a b, p a b = true → a = b) {s t : List α} (hh : al2 p s t = true) : s = t := by
  obtain ⟨h1, h2⟩ := al2_at hh
  apply List.ext_getElem?
  intro i
  cases hs : s[i]? with
  | none => rw [List.getElem?_eq_none_iff] at hs; rw [eq_comm, List.getElem?_eq_none_iff]; omega
  | some a =>
    have hi := (List.getElem?_eq_some_iff.1 hs).1
    have ht : t[i]? = some t[i] := List.getElem?_eq_getElem (by omega)
    rw [ht, h a _ (h2 i a _ hs ht)]
def addrM (σ : List Nat) : Addr → Addr → Bool
  | ⟨n, o, none⟩, ⟨n', o', none⟩ => (match σ[n]? with | some k => Nat.beq k n' | none => false) && Nat.beq o o'
  | _, _ => false
/-- b is a with its names as σ has them -/
def mV (σ : List Nat) : Nat → Value → Value → Bool
  | 0, _, _ => false
  | d + 1, a, b => match a, b with
    | .bool x, .bool y => x == y
    | .int k x, .int k' y => decide (k = k') && decide (x = y)
    | .float k x, .float k' y => decide (k = k') && Nat.beq x y
    | .complex k x z, .complex k' y u => decide (k = k') && (Nat.beq x y && Nat.beq z u)
    | .string ⟨⟨s⟩⟩, .string ⟨⟨t⟩⟩ => decide (s = t)
    | .pointer none, .pointer none => true
    | .pointer (some x), .pointer (some y) => addrM σ x y
    | .slice none l c, .slice none l' c' => Nat.beq l l' && Nat.beq c c'
    | .slice (some x) l c, .slice (some y) l' c' => addrM σ x y && (Nat.beq l l' && Nat.beq c c')
    | .map none, .map none => true
    | .func (.func f) ⟨a⟩ ⟨b⟩, .func (.func g) ⟨a'⟩ ⟨b'⟩ => Nat.beq f g && (al2 (mV σ d) a a' && al2 (mV σ d) b b')
    | .nilFunc, .nilFunc => true
    | .nilIface, .nilIface => true
    | .iface t v, .iface t' v' => Nat.beq t t' && mV σ d v v'
    | .agg ⟨a⟩, .agg ⟨a'⟩ => al2 (mV σ d) a a'
    | .tuple ⟨a⟩, .tuple ⟨a'⟩ => al2 (mV σ d) a a'
    | _, _ => false
def dS (σ : List Nat) (D : Nat → Prop) : Nat → Prop := fun n => ∃ k, σ[n]? = some k ∧ D k
def mS (σ : List Nat) (m : NMap) : NMap := fun n => m (σ[n]?.getD 0)
theorem mV_vr {σ : List Nat} {D : Nat → Prop} {m : NMap} : ∀ (d : Nat) (a b b' : Value), mV σ d a b = true → VR D m b b' → VR (dS σ D) (mS σ m) a b' := by
  intro d
  induction d with
  | zero => intro a b b' h; cases h
  | succ d ih =>
    intro a b b' h hr
    have hl : ∀ {s t t' : List Value}, al2 (mV σ d) s t = true → VRs D m t t' → VRs (dS σ D) (mS σ m) s t' := by
      intro s t t' hh hs
      obtain ⟨h1, h2⟩ := al2_at hh
      refine ⟨hs.len.trans h1, fun i v v' hv hv' => ?_⟩
      have hi := (List.getElem?_eq_some_iff.1 hv).1
      have ht : t[i]? = some t[i] := List.getElem?_eq_getElem (by omega)
      exact ih v _ v' (h2 i v _ hv ht) (hs.at' i _ v' ht hv')
    have ha : ∀ {x y : Addr}, addrM σ x y = true → ∃ n o k, x = ⟨n, o, none⟩ ∧ y = ⟨k, o, none⟩ ∧ σ[n]? = some k := by
      intro x y hh
      obtain ⟨n, o, s⟩ := x
      obtain ⟨n', o', s'⟩ := y
      cases s <;> cases s' <;> simp only [addrM] at hh <;> try (cases hh; done)
      simp only [Bool.and_eq_true] at hh
      obtain ⟨h1, h2⟩ := hh
      have h2 := Nat.eq_of_beq_eq_true h2
      subst h2
      split at h1
      · rename_i k hk
        have h1 := Nat.eq_of_beq_eq_true h1
        subst h1
        exact ⟨n, o, k, rfl, rfl, hk⟩
      · cases h1
    have hms : ∀ {n k : Nat}, σ[n]? = some k → mS σ m n = m k := fun hk => by unfold mS; rw [hk]; rfl
    unfold mV at h
    split at h
    · cases hr; rw [eq_of_beq h]; exact .bool _
    · simp only [Bool.and_eq_true, decide_eq_true_eq] at h; cases hr; rw [h.1, h.2]; exact .int _ _
    · simp only [Bool.and_eq_true, decide_eq_true_eq] at h; cases hr; rw [h.1, Nat.eq_of_beq_eq_true h.2]; exact .float _ _
    · simp only [Bool.and_eq_true, decide_eq_true_eq] at h; cases hr; rw [h.1, Nat.eq_of_beq_eq_true h.2.1, Nat.eq_of_beq_eq_true h.2.2]; exact .complex _ _ _
    · simp only [decide_eq_true_eq] at h; cases hr; rw [h]; exact .string _
    · cases hr; exact .nilPtr
    · obtain ⟨n, o, k, rfl, rfl, hk⟩ := ha h
      cases hr
      rename_i hD
      have := VR.ptr (D := dS σ D) (m := mS σ m) n o ⟨k, hk, hD⟩
      rwa [hms hk] at this
    · simp only [Bool.and_eq_true] at h; cases hr; rw [Nat.eq_of_beq_eq_true h.1, Nat.eq_of_beq_eq_true h.2]; exact .nilSlice _ _
    · simp only [Bool.and_eq_true] at h
      obtain ⟨n, o, k, rfl, rfl, hk⟩ := ha h.1
      have e1 := Nat.eq_of_beq_eq_true h.2.1
      have e2 := Nat.eq_of_beq_eq_true h.2.2
      subst e1 e2
      cases hr with
      | slice _ _ _ _ c' hD hlc hcc he =>
        have := VR.slice (D := dS σ D) (m := mS σ m) n o _ _ c' ⟨k, hk, hD⟩ hlc hcc (by rw [hms hk]; exact he)
        rwa [hms hk] at this
    · cases hr; exact .nilMap
    · simp only [Bool.and_eq_true] at h
      cases hr with
      | func _ _ _ a' b' la ha' lb hb' =>
        rw [Nat.eq_of_beq_eq_true h.1]
        have h1 := hl h.2.1 ⟨la, ha'⟩
        have h2 := hl h.2.2 ⟨lb, hb'⟩
        exact .func _ _ _ _ _ h1.len h1.at' h2.len h2.at'
    · cases hr; exact .nilFunc
    · cases hr; exact .nilIface
    · simp only [Bool.and_eq_true] at h
      cases hr with
      | iface _ _ v' hv => rw [Nat.eq_of_beq_eq_true h.1]; exact .iface _ _ _ (ih _ _ _ h.2 hv)
    · cases hr with
      | agg _ a' la ha' => exact .agg' (hl h ⟨la, ha'⟩)
    · cases hr with
      | tuple _ a' la ha' => exact .tuple' (hl h ⟨la, ha'⟩)
    · cases h
/-- a block with its names as σ has them -/
def mB (σ : List Nat) : Blk → Option Blk → Bool
  | .cells es c, some (.cells es' c') => Nat.beq es es' && al2 (mV σ 60) c c'
  | _, _ => false
def mH (σ : List Nat) (h : List Blk) : List Nat → List Blk → Bool
  | [], [] => true
  | n :: t, b :: s => mB σ b h[n]? && mH σ h t s
  | _, _ => false
theorem mH_at {σ : List Nat} {h : List Blk} : ∀ {t : List Nat} {s : List Blk}, mH σ h t s = true → s.length = t.length ∧ ∀ (i : Nat) b, s[i]? = some b → ∃ n, t[i]? = some n ∧ mB σ b h[n]? = true
  | [], [], _ => ⟨rfl, fun i b h => by simp at h⟩
  | [], _ :: _, hh => by simp [mH] at hh
  | _ :: _, [], hh => by simp [mH] at hh
  | n :: t, b :: s, hh => by
    simp only [mH, Bool.and_eq_true] at hh
    obtain ⟨h1, h2⟩ := mH_at hh.2
    refine ⟨by simp [h1], fun i x hx => ?_⟩
    cases i with
    | zero => simp at hx; subst hx; exact ⟨n, rfl, hh.1⟩
    | succ i => exact h2 i x (by simpa using hx)
/-! the names, in the order in which they are met -/
def addN (σ : List Nat) : Option Addr → List Nat
  | some ⟨n, _, none⟩ => if σ.contains n then σ else σ ++ [n]
  | _ => σ
def namesV : Nat → List Nat → Value → List Nat
  | 0, σ, _ => σ
  | d + 1, σ, v => match v with
    | .pointer a => addN σ a
    | .slice a _ _ => addN σ a
    | .func _ ⟨a⟩ ⟨b⟩ => b.foldl (namesV d) (a.foldl (namesV d) σ)
    | .iface _ v => namesV d σ v
    | .agg ⟨a⟩ => a.foldl (namesV d) σ
    | .tuple ⟨a⟩ => a.foldl (namesV d) σ
    | _ => σ
def reach (h : List Blk) : Nat → Nat → List Nat → List Nat
  | 0, _, σ => σ
  | k + 1, i, σ => match σ[i]? with
    | none => σ
    | some n => match h[n]? with
      | some (.cells _ c) => reach h k (i + 1) (c.foldl (namesV 60) σ)
      | _ => reach h k (i + 1) σ
def namesOf (args : List Value) (h : List Blk) : List Nat := reach h 1000 0 (args.foldl (namesV 60) [])
structure Piece where
  f : FuncId
  args : List Value
  h : List Blk
  v : Value
def fits (p : Piece) (args : List Value) (h : List Blk) (σ : List Nat) : Bool := al2 (mV σ 60) p.args args && mH σ h σ p.h
def look : List Piece → FuncId → List Value → List Blk → Option Value
  | [], _, _, _ => none
  | p :: t, f, args, h => match Nat.beq p.f f with
    | true => (match fits p args h (namesOf args h) with
      | true => some p.v
      | false => look t f args h)
    | false => look t f args h
/-- a call, whatever the world -/
def CallOk (P : Program) (p : Piece) : Prop := isClean p.v = true ∧
  ∀ {D : Nat → Prop} {m : NMap} {w : World} {args' : List Value}, Rel w.heap.size p.h.length D m p.h w → VRs D m p.args args' → Calls P p.f ⟨args'⟩ w (fun e w' => e = .returned p.v ∧ Below w.heap.size w w')
theorem look_ok {P : Program} : ∀ {tab : List Piece}, (∀ p ∈ tab, CallOk P p) → ∀ {f : FuncId} {args : List Value} {h : List Blk} {v : Value}, look tab f args h = some v →
    ∀ (B lo : Nat) (D : Nat → Prop) (m : NMap) (w : World) (args' : List Value), Rel B lo D m h w → VRs D m args args' → Calls P f ⟨args'⟩ w (Good B lo D m h w v h)
  | [], _, f, args, h, v, hv => by cases hv
  | p :: t, ht, f, args, h, v, hv => by
    intro B lo D m w args' hr hargs
    simp only [look] at hv
    split at hv
    · rename_i hf
      have hf := Nat.eq_of_beq_eq_true hf
      subst hf
      split at hv
      · rename_i hb
        obtain rfl := Option.some.inj hv
        generalize namesOf args h = σ at hb
        simp only [fits, Bool.and_eq_true] at hb
        obtain ⟨h1, h2⟩ := hb
        obtain ⟨hcl, hc⟩ := ht p (by simp)
        obtain ⟨hlen, hat⟩ := mH_at h2
        have hargs0 : VRs (dS σ D) (mS σ m) p.args args' := by
          obtain ⟨k1, k2⟩ := al2_at h1
          refine ⟨hargs.len.trans k1, fun i v v' hv hv' => ?_⟩
          have hi := (List.getElem?_eq_some_iff.1 hv).1
          have hb : args[i]? = some args[i] := List.getElem?_eq_getElem (by omega)
          exact mV_vr 60 v _ v' (k2 i v _ hv hb) (hargs.at' i _ v' hb hv')
        have blk : ∀ n b, dS σ D n → p.h[n]? = some b → BlkOk (dS σ D) (mS σ m) w n b ∧ (mS σ m n).block < w.heap.size := by
          rintro n b ⟨k, hk, hD⟩ hb
          obtain ⟨k', hk', hm⟩ := hat n b hb
          obtain rfl := Option.some.inj (hk.symm.trans hk')
          have ems : mS σ m n = m k := by unfold mS; rw [hk]; rfl
          cases hx : h[k]? with
          | none => rw [hx] at hm; cases b <;> simp [mB] at hm
          | some b' =>
            rw [hx] at hm
            cases b <;> cases b' <;> simp only [mB] at hm <;> try (cases hm; done)
            rename_i es c es' c'
            simp only [Bool.and_eq_true] at hm
            have e1 := Nat.eq_of_beq_eq_true hm.1
            subst e1
            obtain ⟨o1, o2⟩ := hr.ok k _ hD hx
            have o3 := hr.lt k _ hD hx (by simp)
            rw [← ems] at o1 o2 o3
            obtain ⟨l1, l2⟩ := al2_at hm.2
            refine ⟨⟨o1, fun i v hv => ?_⟩, o3⟩
            have hi := (List.getElem?_eq_some_iff.1 hv).1
            have hc' : c'[i]? = some c'[i] := List.getElem?_eq_getElem (by omega)
            obtain ⟨v', q1, q2⟩ := o2 i _ hc'
            exact ⟨v', q1, mV_vr 60 v _ v' (l2 i v _ hv hc') q2⟩
        have dom : ∀ n, dS σ D n → n < p.h.length := by
          rintro n ⟨k, hk, _⟩
          have := (List.getElem?_eq_some_iff.1 hk).1
          omega
        have hR : Rel w.heap.size p.h.length (dS σ D) (mS σ m) p.h w :=
          ⟨Nat.le_refl _, dom, fun n b hD hb => (blk n b hD hb).1, fun n b hD hb _ => (blk n b hD hb).2, fun n b hD hl => absurd (dom n hD) (by omega), fun n b hD _ hb _ => (blk n b hD hb).2,
           fun n b hD hl => absurd (dom n hD) (by omega), fun n n' b b' hD _ hl => absurd (dom n hD) (by omega)⟩
        refine (hc hR hargs0).mono ?_
        rintro e w' ⟨rfl, hbel⟩
        exact ⟨_, m, rfl, Post.frame hr hbel, VR.of_clean depth _ hcl⟩
      · exact look_ok (fun p hp => ht p (by simp [hp])) hv B lo D m w args' hr hargs
    · exact look_ok (fun p hp => ht p (by simp [hp])) hv B lo D m w args' hr hargs
def ctxT (P : Program) (tab : List Piece) (k : Nat) : Nat → Ctx
  | 0 => ⟨fun _ _ _ => none, fun _ _ _ => none⟩
  | d + 1 => ⟨fun f args h => match look tab f args h with
      | some v => some (v, h, none)
      | none => runCall (ctxT P tab k d) P k f args h, runRound (ctxT P tab k d) P k⟩
theorem ctxT_ok {P : Program} (hm : P.follows .mixedOrders = true) {tab : List Piece} (ht : ∀ p ∈ tab, CallOk P p) (k : Nat) : ∀ d, CtxOk P (ctxT P tab k d)
  | 0 => ⟨fun h => by simp [ctxT] at h, fun h => by simp [ctxT] at h⟩
  | d + 1 =>
    have hD : DrawSound P (ctxT P tab k d) := fun {_ _ _ _ _ _ _} hv {_ _ _ _ _ _ _ _ _} hr hlo hA hw hQ => drawSound (ctxT_ok hm ht k d) hm hv hr hlo hA hw hQ
    ⟨fun {f args h v h' wr} hv {B lo D m w args'} hr hlo hw hargs => by
      simp only [ctxT] at hv
      split at hv
      · rename_i r hl
        have hv := Option.some.inj hv
        obtain ⟨rfl, rfl, rfl⟩ : r = v ∧ h = h' ∧ none = wr := by simpa using hv
        exact look_ok ht hl B lo D m w args' hr hargs
      · exact runCall_sound (ctxT_ok hm ht k d) hD hv hr hlo hw hargs, fun h => runRound_sound (ctxT_ok hm ht k d) hD h⟩
/-- one call more is known: the function itself is run, what it calls may be known -/
def pieceRun (P : Program) (tab : List Piece) (k d : Nat) (p : Piece) : AOut := runCall (ctxT P tab k d) P k p.f p.args p.h
def eqO (p : Piece) : AOut → Bool
  | some (v, _, none) => mV [] 60 p.v v && isClean v
  | _ => false
theorem piece_ok {P : Program} (hm : P.follows .mixedOrders = true) {tab : List Piece} (ht : ∀ p ∈ tab, CallOk P p) {k d : Nat} {p : Piece} (hv : eqO p (pieceRun P tab k d p) = true) : CallOk P p := by
  unfold eqO at hv
  split at hv
  · rename_i v h hx
    simp only [Bool.and_eq_true] at hv
    obtain ⟨h1, h2⟩ := hv
    -- a clean value matched is itself
    have e : v = p.v := by
      have := mV_vr (σ := []) (D := fun _ => False) (m := fun _ => ⟨0, 0, 0, 0⟩) 60 p.v v v h1 (VR.of_clean depth v h2)
      have key : ∀ (d : Nat) (a b : Value), mV [] d a b = true → a = b := by
        intro d
        induction d with
        | zero => intro a b h; cases h
        | succ d ih =>
          intro a b h
          have hl : ∀ {s t : List Value}, al2 (mV [] d) s t = true → s = t := fun hh => al2_eq ih hh
          have ha : ∀ {x y : Addr}, addrM [] x y = true → False := by
            intro x y hh
            obtain ⟨n, o, s⟩ := x
            obtain ⟨n', o', s'⟩ := y
            cases s <;> cases s' <;> simp [addrM] at hh
          unfold mV at h
          split at h
          · rw [eq_of_beq h]
          · simp only [Bool.and_eq_true, decide_eq_true_eq] at h; rw [h.1, h.2]
          · simp only [Bool.and_eq_true, decide_eq_true_eq] at h; rw [h.1, Nat.eq_of_beq_eq_true h.2]
          · simp only [Bool.and_eq_true, decide_eq_true_eq] at h; rw [h.1, Nat.eq_of_beq_eq_true h.2.1, Nat.eq_of_beq_eq_true h.2.2]
          · simp only [decide_eq_true_eq] at h; rw [h]
          · rfl
          · exact (ha h).elim
          · simp only [Bool.and_eq_true] at h; rw [Nat.eq_of_beq_eq_true h.1, Nat.eq_of_beq_eq_true h.2]
          · simp only [Bool.and_eq_true] at h; exact (ha h.1).elim
          · rfl
          · simp only [Bool.and_eq_true] at h; rw [Nat.eq_of_beq_eq_true h.1, hl h.2.1, hl h.2.2]
          · rfl
          · rfl
          · simp only [Bool.and_eq_true] at h; rw [Nat.eq_of_beq_eq_true h.1, ih _ _ h.2]
          · rw [hl h]
          · rw [hl h]
          · cases h
      exact (key 60 _ _ h1).symm
    subst e
    refine ⟨h2, fun {D m w args'} hr hargs => ?_⟩
    have hD : DrawSound P (ctxT P tab k d) := fun {_ _ _ _ _ _ _} hv {_ _ _ _ _ _ _ _ _} hr hlo hA hw hQ => drawSound (ctxT_ok hm ht k d) hm hv hr hlo hA hw hQ
    refine (runCall_sound (ctxT_ok hm ht k d) hD hx hr (Nat.le_refl _) (fun n hn => by cases hn) hargs).mono ?_
    rintro e w' ⟨v', m', rfl, hp, hvr⟩
    obtain rfl := hvr.eq_of_clean depth _ _ h2
    exact ⟨rfl, hp.below⟩
  · cases hv
theorem awT_of_pieces {P : Program} (hm : P.follows .mixedOrders = true) {tab : List Piece} (ht : ∀ p ∈ tab, CallOk P p) {k d : Nat} {f : FuncId} (hv : isTrue ((ctxT P tab k d).call f [] []) = true) : AwT P f := by
  intro w
  unfold isTrue at hv
  split at hv
  · rename_i h' wr hx
    refine ((ctxT_ok hm ht k d).call hx (Rel.empty w fun _ => ⟨0, 0, 0, 0⟩) (Nat.le_refl _) (fun n _ => Nat.zero_le _) VRs.nil).mono ?_
    rintro e w' ⟨v', m', rfl, hp, hvr⟩
    cases hvr
    exact ⟨rfl, hp.below⟩
  · cases hv
theorem tab_nil {P : Program} : ∀ p ∈ ([] : List Piece), CallOk P p := fun p hp => by simp at hp
theorem tab_cons {P : Program} {p : Piece} {tab : List Piece} (h : CallOk P p) (ht : ∀ p ∈ tab, CallOk P p) : ∀ q ∈ p :: tab, CallOk P q := by
  intro q hq
  rcases List.mem_cons.1 hq with rfl | hq
  · exact h
  · exact ht q hq
end Go.Rex
