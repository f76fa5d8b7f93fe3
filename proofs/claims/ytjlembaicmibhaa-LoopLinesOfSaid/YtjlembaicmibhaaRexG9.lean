/- An executor of the program's functions on trees of values, proved sound. -/
import Derived.Test.YtjlembaicmibhaaRexG8
set_option linter.unusedSimpArgs false
set_option linter.unusedVariables false
set_option linter.defProp false
namespace Go.Rex
open Go.RowKit

/-- what a function makes, told as one new block alone -/
theorem Good.tidy {B lo : Nat} {D : Nat → Prop} {m : NMap} {h h' : List Blk} {w w' : World} {e : Ending} {nm l c es : Nat} {cs : List Value} (hr : Rel B lo D m h w) (hlo : lo ≤ h.length) (hnm : h.length ≤ nm) (hb : h'[nm]? = some (.cells es cs)) (hc : ∀ v ∈ cs, isClean v = true)
    (hg : Good w.heap.size h.length D m h w (.slice (some ⟨nm, 0, none⟩) l c) h' e w') : Good B lo D m h w (.slice (some ⟨h.length, 0, none⟩) l c) (h ++ [.cells es cs]) e w' := by
  obtain ⟨v', m', rfl, hp, hv⟩ := hg
  have hlt := (List.getElem?_eq_some_iff.1 hb).1
  have hag := hp.agree
  have hdn : Dx D h.length h'.length nm := .inr ⟨hnm, hlt⟩
  have e1 : upd m h.length (m' nm) h.length = m' nm := upd_same
  have e2 : ∀ n, D n → upd m h.length (m' nm) n = m n := fun n hn => upd_other (by have := hr.dom n hn; omega)
  have hl2 : (h ++ [Blk.cells es cs]).length = h.length + 1 := by simp
  have par : ∀ n b, Dx D h.length (h ++ [Blk.cells es cs]).length n → (h ++ [Blk.cells es cs])[n]? = some b → (D n ∧ h[n]? = some b) ∨ (n = h.length ∧ b = .cells es cs) := by
    rintro n b (hn | hn) hbn
    · left
      rw [List.getElem?_append_left (hr.dom n hn)] at hbn
      exact ⟨hn, hbn⟩
    · right
      rw [hl2] at hn
      obtain rfl : n = h.length := by omega
      rw [List.getElem?_append_right (Nat.le_refl _), Nat.sub_self] at hbn
      exact ⟨rfl, (Option.some.inj hbn).symm⟩
  have hok := hp.rel.ok nm _ hdn hb
  have hblt := hp.rel.lt nm _ hdn hb (by simp)
  have hbase := hp.rel.base nm _ hdn hnm hb (by simp)
  have hown := hp.rel.own nm _ hdn hnm hb
  have hBw := hr.le
  refine ⟨v', upd m h.length (m' nm), rfl, ⟨e2, ⟨Nat.le_trans hr.le hp.below.size, ?_, ?_, ?_, ?_, ?_, ?_, ?_⟩, hp.below.mono hr.le, by simp⟩, ?_⟩
  · rintro n (hn | hn)
    · have := hr.dom n hn; rw [hl2]; omega
    · exact hn.2
  · intro n b hn hbn
    rcases par n b hn hbn with ⟨h1, h2⟩ | ⟨rfl, rfl⟩
    · exact ((hr.ok n b h1 h2).keep fun hd => hp.below.block _ (hr.lt n b h1 h2 hd)).mono (fun _ h => .inl h) e2 (e2 n h1)
    · obtain ⟨a1, a2⟩ := hok
      refine ⟨by rw [e1]; exact a1, fun i v hvi => ?_⟩
      obtain ⟨u, hu1, hu2⟩ := a2 i v hvi
      have hcl := hc v (List.mem_of_getElem? hvi)
      obtain rfl := hu2.eq_of_clean depth _ _ hcl
      rw [e1]
      exact ⟨u, hu1, VR.of_clean depth _ hcl⟩
  · intro n b hn hbn hd
    rcases par n b hn hbn with ⟨h1, h2⟩ | ⟨rfl, rfl⟩
    · rw [e2 n h1]; exact Nat.lt_of_lt_of_le (hr.lt n b h1 h2 hd) hp.below.size
    · rw [e1]; exact hblt
  · intro n b hn hl hbn hd
    rcases par n b hn hbn with ⟨h1, h2⟩ | ⟨rfl, rfl⟩
    · rw [e2 n h1]; exact hr.base n b h1 hl h2 hd
    · rw [e1]; omega
  · intro n b hn hl hbn hd
    rcases par n b hn hbn with ⟨h1, h2⟩ | ⟨rfl, rfl⟩
    · rw [e2 n h1]; exact hr.low n b h1 hl h2 hd
    · omega
  · intro n b hn hl hbn
    rcases par n b hn hbn with ⟨h1, h2⟩ | ⟨rfl, rfl⟩
    · exact ((hr.own n b h1 hl h2).keep fun hd => hp.below.block _ (hr.lt n b h1 h2 hd)).congr (e2 n h1)
    · unfold Owns at hown ⊢; rw [e1]; exact hown
  · intro n n' b b' hn hn' hl hl' hbn hbn' hd hd' he
    rcases par n b hn hbn with ⟨h1, h2⟩ | ⟨rfl, rfl⟩ <;> rcases par n' b' hn' hbn' with ⟨h1', h2'⟩ | ⟨rfl, rfl⟩
    · rw [e2 n h1, e2 n' h1'] at he; exact hr.inj n n' b b' h1 h1' hl hl' h2 h2' hd hd' he
    · rw [e2 n h1, e1] at he; have := hr.lt n b h1 h2 hd; omega
    · rw [e1, e2 n' h1'] at he; have := hr.lt n' b' h1' h2' hd'; omega
    · rfl
  · cases hv with
    | slice _ _ _ _ c' hD hlc hcc hce =>
      have := VR.slice (D := Dx D h.length (h ++ [Blk.cells es cs]).length) (m := upd m h.length (m' nm)) h.length 0 l c c' (.inr ⟨Nat.le_refl _, by simp⟩) hlc hcc (by rw [e1]; exact hce)
      rw [e1] at this
      exact this

/-! ### an executor that knows what one function returns -/
def ctxO (P : Program) (g : FuncId) (res : List Blk → Value × List Blk) (k : Nat) : Nat → Ctx
  | 0 => ⟨fun _ _ _ => none, fun _ _ _ => none⟩
  | d + 1 => ⟨fun f args h => if f = g then (match args with | [] => some ((res h).1, (res h).2, none) | _ => none) else runCall (ctxO P g res k d) P k f args h, runRound (ctxO P g res k d) P k⟩
def ResOk (P : Program) (g : FuncId) (res : List Blk → Value × List Blk) : Prop :=
  ∀ (h : List Blk) (B lo : Nat) (D : Nat → Prop) (m : NMap) (w : World), Rel B lo D m h w → lo ≤ h.length → Calls P g ⟨[]⟩ w (Good B lo D m h w (res h).1 (res h).2)
theorem ctxO_ok {P : Program} (hm : P.follows .mixedOrders = true) {g : FuncId} {res : List Blk → Value × List Blk} (hres : ResOk P g res) (k : Nat) : ∀ d, CtxOk P (ctxO P g res k d)
  | 0 => ⟨fun h => by simp [ctxO] at h, fun h => by simp [ctxO] at h⟩
  | d + 1 =>
    have hD : DrawSound P (ctxO P g res k d) := fun {_ _ _ _ _ _ _} hv {_ _ _ _ _ _ _ _ _} hr hlo hA hw hQ => drawSound (ctxO_ok hm hres k d) hm hv hr hlo hA hw hQ
    ⟨fun {f args h v h' wr} hv {B lo D m w args'} hr hlo hw hargs => by
      simp only [ctxO] at hv
      split at hv
      · rename_i hf
        subst hf
        split at hv
        · obtain ⟨rfl, rfl, rfl⟩ : (res h).1 = v ∧ (res h).2 = h' ∧ none = wr := by simpa using hv
          obtain rfl : args' = [] := by have := hargs.len; simpa using this
          exact hres _ _ _ _ _ _ hr hlo
        · cases hv
      · exact runCall_sound (ctxO_ok hm hres k d) hD hv hr hlo hw hargs, fun h => runRound_sound (ctxO_ok hm hres k d) hD h⟩
def ecallO (P : Program) (g : FuncId) (res : List Blk → Value × List Blk) (k d : Nat) (f : FuncId) (args : List Value) (h : List Blk) : AOut := (ctxO P g res k d).call f args h
theorem awT_of_ecallO {P : Program} (hm : P.follows .mixedOrders = true) {g : FuncId} {res : List Blk → Value × List Blk} (hres : ResOk P g res) {k d : Nat} {f : FuncId} (hv : isTrue (ecallO P g res k d f [] []) = true) : AwT P f := by
  intro w
  unfold isTrue at hv
  split at hv
  · rename_i h' wr hx
    refine ((ctxO_ok hm hres k d).call hx (Rel.empty w fun _ => ⟨0, 0, 0, 0⟩) (Nat.le_refl _) (fun n _ => Nat.zero_le _) VRs.nil).mono ?_
    rintro e w' ⟨v', m', rfl, hp, hvr⟩
    cases hvr
    exact ⟨rfl, hp.below⟩
  · cases hv
/-- a table that a function makes: rows of atoms -/
def tabRes (es : Nat) (cs : List Value) (l : Nat) (h : List Blk) : Value × List Blk := (.slice (some ⟨h.length, 0, none⟩) l l, h ++ [.cells es cs])
theorem vls_atoms {Fz : Nat → Prop} {h : List Blk} {L : Nat → LI} : ∀ {l : List TV} {x : List Value}, VLs Fz h L l x → ∀ cs : List Value, l = cs.map .v → x = cs := by
  intro l x hx cs hl
  apply List.ext_getElem?
  intro i
  cases hi : x[i]? with
  | none =>
    have := hx.len
    rw [List.getElem?_eq_none_iff] at hi
    rw [eq_comm, List.getElem?_eq_none_iff]
    rw [hl, List.length_map] at this
    omega
  | some y =>
    have hlt := (List.getElem?_eq_some_iff.1 hi).1
    have hlen : x.length = cs.length := by rw [hx.len, hl, List.length_map]
    have hc : cs[i]? = some cs[i] := List.getElem?_eq_getElem (by omega)
    have hp : l[i]? = some (.v cs[i]) := by rw [hl, List.getElem?_map, hc]; rfl
    have := (hx.at' i _ y hp hi).bool_inv
    rw [this, hc]
theorem res_of_spec {P : Program} (hm : P.follows .mixedOrders = true) {g : FuncId} {es : Nat} {rows : List (List TV)} {cs : List Value} (hs : Spec (lim P) g [] ⟨[.lsl 0 0 rows.length], [.rows es rows]⟩) (hcs : rows.flatten = cs.map .v) (hcl : ∀ v ∈ cs, isClean v = true) (hne : rows ≠ []) : ResOk P g (tabRes es cs rows.length) := by
  intro h B lo D m w hr hlo
  obtain ⟨v, h', F1, L1, hc, g1, hst⟩ := hs (fun _ => False) h [] (fun _ h => h.elim) VLs.nil
  have hv := hst.tmr.at' 0 _ v rfl rfl
  obtain ⟨q1, q2, q3, q4, q5⟩ := hst.blk 0 _ rfl
  rcases q5 with ⟨_, q5⟩ | ⟨nm, c0, e1, e2, e3, e4, e5⟩
  · exact absurd q5 hne
  · have hv' := hv.lsl_some e1
    rw [q3, Nat.sub_zero, Nat.zero_mul] at hv'
    subst hv'
    obtain rfl := vls_atoms e5 cs hcs
    refine ((lim_ok hm).call hc (hr.still h.length (Nat.le_refl _)) (Nat.le_refl _) (fun n hn => by cases hn) VRs.nil).mono ?_
    intro e w' hg
    exact Good.tidy hr hlo e2 e4 hcl hg
end Go.Rex
