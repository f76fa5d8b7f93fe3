/- An executor of the program's functions on trees of values, proved sound. -/
import Derived.Test.YtojekkfmnnoabaaTexB
set_option linter.unusedSimpArgs false
set_option linter.unusedVariables false
set_option linter.defProp false
namespace Go.Rex
open Go.RowKit
section
variable {h0 h h' : List Blk} {Fz Fz' : Nat → Prop} {L L' : Nat → LI} {s s' : TS} {tm : List Value}

theorem St.put (hs : St h0 Fz L s tm h) (dst : Option Tmp) {p : TV} {v : Value} (hp : VL Fz h L p v) : St h0 Fz L ⟨tput s.tm dst p, s.hp⟩ (putL tm dst v) h :=
  ⟨tput_vl hs.tmr dst hp, hs.blk, hs.dom, hs.inj, hs.fz, hs.ext⟩

theorem BR.mono {lo n : Nat} {b : TB} (hb : BR lo Fz h L n b) (hF : ∀ n, Fz n → Fz' n) (hh : ∀ n, Fz n → h'[n]? = h[n]?) (hn : ∀ nm b, ¬ Fz nm → h[nm]? = some b → (L n).nm = some nm → h'[nm]? = some b ∧ ¬ Fz' nm) : BR lo Fz' h' L n b := by
  cases b with
  | dead => trivial
  | rows es rows =>
    obtain ⟨h1, h2, h3, h4, h5⟩ := hb
    refine ⟨h1, h2, h3, h4, ?_⟩
    rcases h5 with h5 | ⟨nm, cs, e1, e2, e3, e4, e5⟩
    · exact .inl h5
    · obtain ⟨q1, q2⟩ := hn nm _ e3 e4 e1
      exact .inr ⟨nm, cs, e1, e2, q2, q1, e5.mono hF hh⟩
  | var row =>
    obtain ⟨h1, nm, cs, e1, e2, e3, e4, e5⟩ := hb
    obtain ⟨q1, q2⟩ := hn nm _ e3 e4 e1
    exact ⟨h1, nm, cs, e1, e2, q2, q1, e5.mono hF hh⟩
theorem BR.own {lo n n' : Nat} {b : TB} (hb : BR lo Fz h L n b) (hL : ∀ n, (L n).ok = true → L' n = L n) (hn : L' n' = L n) : BR lo Fz h L' n' b := by
  cases b with
  | dead => trivial
  | rows es rows =>
    obtain ⟨h1, h2, h3, h4, h5⟩ := hb
    unfold BR
    rw [hn]
    exact ⟨h1, h2, h3, h4, h5⟩
  | var row =>
    obtain ⟨h1, nm, cs, e1, e2, e3, e4, e5⟩ := hb
    unfold BR
    rw [hn]
    exact ⟨h1, nm, cs, e1, e2, e3, e4, e5.own hL⟩

/-- the heap has grown, and what is new may be frozen -/
theorem St.heap (hs : St h0 Fz L s tm h) (hx : Ext h h') (hF : ∀ n, Fz n → Fz' n) (hF2 : ∀ n, Fz' n → Fz n ∨ (h.length ≤ n ∧ n < h'.length)) : St h0 Fz' L s tm h' := by
  have hh : ∀ n, Fz n → h'[n]? = h[n]? := fun n hn => by
    have := hs.fz n hn
    rw [List.getElem?_eq_getElem this]
    exact hx.at (List.getElem?_eq_getElem this)
  refine ⟨hs.tmr.mono hF hh, fun n b hb => (hs.blk n b hb).mono hF hh (fun nm b hn hb _ => ⟨hx.at hb, fun hf => ?_⟩), hs.dom, hs.inj, fun n hn => ?_, hs.ext.trans hx⟩
  · rcases hF2 nm hf with h1 | h1
    · exact hn h1
    · have := (List.getElem?_eq_some_iff.1 hb).1; omega
  · have := hx.le
    rcases hF2 n hn with h1 | h1
    · have := hs.fz n h1; omega
    · exact h1.2

def shift (k : Nat) : Nat → TV → TV
  | 0, _ => .junk
  | d + 1, p => match p with
    | .lptr m r o => .lptr (k + m) r o
    | .lsl m o l => .lsl (k + m) o l
    | .agg l => .agg (l.map (shift k d))
    | .tuple l => .tuple (l.map (shift k d))
    | p => p
theorem VL.shift {k : Nat} (hL : ∀ n, (L n).ok = true → L' (k + n) = L n) : ∀ (d : Nat) {p : TV} {x : Value}, VL Fz h L p x → VL Fz h L' (shift k d p) x
  | 0, p, x, hp => by rw [Rex.shift]; exact .junk L' x
  | d + 1, p, x, hp => by
    have key : ∀ (l : List TV) (l' : List Value), (∀ (i : Nat) p x, l[i]? = some p → l'[i]? = some x → VL Fz h L p x) → ∀ (i : Nat) p x, (l.map (Rex.shift k d))[i]? = some p → l'[i]? = some x → VL Fz h L' p x := by
      intro l l' ha i p x hp hx
      rw [List.getElem?_map] at hp
      cases hq : l[i]? with
      | none => rw [hq] at hp; cases hp
      | some q => rw [hq] at hp; obtain rfl := Option.some.inj hp; exact VL.shift hL d (ha i q x hq hx)
    cases hp with
    | junk _ x => exact .junk L' x
    | v _ x hx => exact .v L' x hx
    | agg _ l l' hl ha => exact .agg L' _ l' (by simp [hl]) (key l l' ha)
    | tuple _ l l' hl ha => exact .tuple L' _ l' (by simp [hl]) (key l l' ha)
    | func _ f a b a' b' la ha lb hb => exact .func L' f a b a' b' la ha lb hb
    | nillist _ es => exact .nillist L' es
    | list _ es rows n o c cs eb hn hb he hw hc hle ha => exact .list L' es rows n o c cs eb hn hb he hw hc hle ha
    | fptr _ vb row off n base es cs hn hb hv hle ha => exact .fptr L' vb row off n base es cs hn hb hv hle ha
    | lptr _ m r o nm ok hn =>
      have e := hL m ok
      simp only [Rex.shift]
      rw [← e] at ok hn ⊢
      exact .lptr L' (k + m) r o nm ok hn
    | lslnil _ m ok hn =>
      have e := hL m ok
      simp only [Rex.shift]
      rw [← e] at ok hn
      exact .lslnil L' (k + m) ok hn
    | lsl _ m o len nm ok hn hle =>
      have e := hL m ok
      simp only [Rex.shift]
      rw [← e] at ok hn hle ⊢
      exact .lsl L' (k + m) o len nm ok hn hle

def resTB : TB → Bool
  | .var row => row.all (lf 4)
  | _ => true
/-- a result, with the blocks that it owns, becomes one's own -/
theorem St.adopt (hs : St h0 Fz L s tm h) (dst : Option Tmp) {p : TV} {v : Value} {th : List TB} {L2 : Nat → LI} (hr : St h Fz' L2 ⟨[p], th⟩ [v] h') (hth : th.all resTB = true) (g : Grow h Fz Fz') :
    ∃ L3, St h0 Fz' L3 ⟨tput s.tm dst (shift s.hp.length 4 p), s.hp ++ th⟩ (putL tm dst v) h' := by
  have hle := hr.ext.le
  have hh1 : St h0 Fz' L s tm h' := hs.heap hr.ext g.1 (fun n hn => by
    rcases g.2 n hn with h1 | h1
    · exact .inl h1
    · exact .inr ⟨h1, hr.fz n hn⟩)
  refine ⟨fun n => if n < s.hp.length then L n else L2 (n - s.hp.length), ?_⟩
  have hold : ∀ n, (L n).ok = true → (fun n => if n < s.hp.length then L n else L2 (n - s.hp.length)) n = L n := fun n hn => by
    have := hs.dom n hn
    simp only [if_pos this]
  have hnew : ∀ n, (L2 n).ok = true → (fun n => if n < s.hp.length then L n else L2 (n - s.hp.length)) (s.hp.length + n) = L2 n := fun n _ => by
    simp; omega
  have hlow : ∀ n b nm, s.hp[n]? = some b → b.live = true → (L n).nm = some nm → nm < h.length := by
    intro n b nm hb hlv hn
    have := hs.blk n b hb
    cases b with
    | dead => cases hlv
    | rows es rows =>
      obtain ⟨-, -, -, -, h5⟩ := this
      rcases h5 with h5 | ⟨nm', cs, e1, e2, e3, e4, e5⟩
      · rw [h5.1] at hn; cases hn
      · rw [e1] at hn; obtain rfl := Option.some.inj hn
        exact (List.getElem?_eq_some_iff.1 e4).1
    | var row =>
      obtain ⟨-, nm', cs, e1, e2, e3, e4, e5⟩ := this
      rw [e1] at hn; obtain rfl := Option.some.inj hn
      exact (List.getElem?_eq_some_iff.1 e4).1
  have hhigh : ∀ n b nm, th[n]? = some b → b.live = true → (L2 n).nm = some nm → h.length ≤ nm := by
    intro n b nm hb hlv hn
    have := hr.blk n b hb
    cases b with
    | dead => cases hlv
    | rows es rows =>
      obtain ⟨-, -, -, -, h5⟩ := this
      rcases h5 with h5 | ⟨nm', cs, e1, e2, e3, e4, e5⟩
      · rw [h5.1] at hn; cases hn
      · rw [e1] at hn; obtain rfl := Option.some.inj hn
        exact e2
    | var row =>
      obtain ⟨-, nm', cs, e1, e2, e3, e4, e5⟩ := this
      rw [e1] at hn; obtain rfl := Option.some.inj hn
      exact e2
  have hp : VL Fz' h' L2 p v := hr.tmr.at' 0 p v rfl rfl
  refine ⟨tput_vl (hh1.tmr.own hold) dst (hp.shift hnew 4), ?_, ?_, ?_, hr.fz, hh1.ext⟩
  · intro n b hb
    rcases Nat.lt_or_ge n s.hp.length with hlt | hge
    · rw [List.getElem?_append_left hlt] at hb
      exact (hh1.blk n b hb).own hold (by simp only [if_pos hlt])
    · rw [List.getElem?_append_right hge] at hb
      have hb' := hr.blk _ b hb
      have e : (fun n => if n < s.hp.length then L n else L2 (n - s.hp.length)) n = L2 (n - s.hp.length) := by
        simp only [if_neg (show ¬ n < s.hp.length by omega)]
      cases b with
      | dead => trivial
      | rows es rows =>
        obtain ⟨h1, h2, h3, h4, h5⟩ := hb'
        unfold BR
        rw [e]
        refine ⟨h1, h2, h3, h4, ?_⟩
        rcases h5 with h5 | ⟨nm, cs, e1, e2, e3, e4, e5⟩
        · exact .inl h5
        · exact .inr ⟨nm, cs, e1, Nat.le_trans hs.ext.le e2, e3, e4, e5⟩
      | var row =>
        obtain ⟨h1, nm, cs, e1, e2, e3, e4, e5⟩ := hb'
        have hlf : row.all (lf 4) = true := by
          have := List.all_eq_true.1 hth _ (List.mem_of_getElem? hb)
          simpa [resTB] using this
        unfold BR
        rw [e]
        refine ⟨h1, nm, cs, e1, Nat.le_trans hs.ext.le e2, e3, e4, e5.len, fun i p x hp hx => ?_⟩
        exact VL.toNo 4 (by simpa using List.all_eq_true.1 hlf p (List.mem_of_getElem? hp)) (e5.at' i p x hp hx)
  · intro n hn
    rw [List.length_append]
    rcases Nat.lt_or_ge n s.hp.length with hlt | hge
    · omega
    · simp only [if_neg (show ¬ n < s.hp.length by omega)] at hn
      have := hr.dom _ hn
      simp only at this
      omega
  · intro n n' b b' nm hb hb' l1 l2 e1 e2
    rcases Nat.lt_or_ge n s.hp.length with hlt | hge <;> rcases Nat.lt_or_ge n' s.hp.length with hlt' | hge'
    · rw [List.getElem?_append_left hlt] at hb
      rw [List.getElem?_append_left hlt'] at hb'
      simp only [if_pos hlt] at e1
      simp only [if_pos hlt'] at e2
      exact hs.inj n n' b b' nm hb hb' l1 l2 e1 e2
    · rw [List.getElem?_append_left hlt] at hb
      rw [List.getElem?_append_right hge'] at hb'
      simp only [if_pos hlt] at e1
      simp only [if_neg (show ¬ n' < s.hp.length by omega)] at e2
      have := hlow n b nm hb l1 e1
      have := hhigh _ b' nm hb' l2 e2
      omega
    · rw [List.getElem?_append_right hge] at hb
      rw [List.getElem?_append_left hlt'] at hb'
      simp only [if_neg (show ¬ n < s.hp.length by omega)] at e1
      simp only [if_pos hlt'] at e2
      have := hlow n' b' nm hb' l2 e2
      have := hhigh _ b nm hb l1 e1
      omega
    · rw [List.getElem?_append_right hge] at hb
      rw [List.getElem?_append_right hge'] at hb'
      simp only [if_neg (show ¬ n < s.hp.length by omega)] at e1
      simp only [if_neg (show ¬ n' < s.hp.length by omega)] at e2
      have := hr.inj _ _ b b' nm hb hb' l1 l2 e1 e2
      omega

/-- a store into an own block -/
theorem St.write (hs : St h0 Fz L s tm h) {n nm es : Nat} {b b' : TB} {cs cs' : List Value} (hb : s.hp[n]? = some b) (hlv : b.live = true) (hn : (L n).nm = some nm) (hc : h[nm]? = some (.cells es cs)) (hlo : h0.length ≤ nm) (hnf : ¬ Fz nm)
    (hb' : BR h0.length Fz (h.set nm (.cells es cs')) L n b') : St h0 Fz L ⟨s.tm, s.hp.set n b'⟩ tm (h.set nm (.cells es cs')) := by
  have hlt := (List.getElem?_eq_some_iff.1 hc).1
  have hh : ∀ k, Fz k → (h.set nm (.cells es cs'))[k]? = h[k]? := fun k hk => by
    rw [List.getElem?_set_ne]; rintro rfl; exact hnf hk
  refine ⟨hs.tmr.mono (fun _ h => h) hh, ?_, fun k hk => by simpa using hs.dom k hk, ?_, fun k hk => by simpa using hs.fz k hk, ?_⟩
  · intro k bk hk
    rw [List.getElem?_set] at hk
    split at hk
    · rename_i e
      subst e
      split at hk
      · obtain rfl := Option.some.inj hk; exact hb'
      · cases hk
    · rename_i e
      by_cases hlk : bk.live = true
      · refine (hs.blk k bk hk).mono (fun _ h => h) hh (fun nm' b hf hb hn' => ⟨?_, hf⟩)
        rw [List.getElem?_set_ne]
        · exact hb
        · rintro rfl
          exact e (hs.inj n k _ bk nm (by assumption) hk hlv hlk hn hn')
      · cases bk with
        | dead => trivial
        | _ => exact absurd rfl hlk
  · intro k k' c c' nm' h1 h2 l1 l2 e1 e2
    have f : ∀ (k : Nat) (c : TB), (s.hp.set n b')[k]? = some c → c.live = true → ∃ c0 : TB, s.hp[k]? = some c0 ∧ c0.live = true := by
      intro k c hk hl
      rw [List.getElem?_set] at hk
      split at hk
      · rename_i e; subst e; exact ⟨b, hb, hlv⟩
      · exact ⟨c, hk, hl⟩
    obtain ⟨c1, g1, g2⟩ := f k c h1 l1
    obtain ⟨c2, g3, g4⟩ := f k' c' h2 l2
    exact hs.inj k k' c1 c2 nm' g1 g3 g2 g4 e1 e2
  · obtain ⟨t, rfl⟩ := hs.ext
    exact ⟨t.set (nm - h0.length) (.cells es cs'), by rw [List.set_append_right _ _ hlo]⟩
end
end Go.Rex
