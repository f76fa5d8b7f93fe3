/- An executor of the program's functions on trees of values, proved sound. -/
import Derived.Test.YtojekkfmnnoabaaRexU
set_option linter.unusedSimpArgs false
set_option linter.unusedVariables false
set_option linter.defProp false
namespace Go.Rex
open Go.RowKit
/-! ## values as trees: what is frozen is seen as a list, what is a function's own is named by number -/
inductive TV
  | junk
  | v (x : Value)
  | agg (l : List TV)
  | tuple (l : List TV)
  | func (f : FuncId) (first caps : List TV)
  | list (es : Nat) (rows : List (List TV))
  | fptr (vb : Bool) (row : List TV) (off : Nat)
  | lptr (n r o : Nat)
  | lsl (n o len : Nat)

/-- where an own block is -/
structure LI where
  ok : Bool
  nm : Option Nat
  es : Nat
  tot : Nat
def noL : Nat → LI := fun _ => ⟨false, none, 0, 0⟩

def isAtom : Value → Bool
  | .agg _ => false
  | .tuple _ => false
  | .func .. => false
  | x => isClean x

inductive VL (Fz : Nat → Prop) (h : List Blk) : (Nat → LI) → TV → Value → Prop
  | junk (L : Nat → LI) (x : Value) : VL Fz h L .junk x
  | v (L : Nat → LI) (x : Value) (hx : isAtom x = true) : VL Fz h L (.v x) x
  | agg (L : Nat → LI) (l : List TV) (l' : List Value) (hl : l'.length = l.length) (ha : ∀ (i : Nat) p x, l[i]? = some p → l'[i]? = some x → VL Fz h L p x) : VL Fz h L (.agg l) (.agg ⟨l'⟩)
  | tuple (L : Nat → LI) (l : List TV) (l' : List Value) (hl : l'.length = l.length) (ha : ∀ (i : Nat) p x, l[i]? = some p → l'[i]? = some x → VL Fz h L p x) : VL Fz h L (.tuple l) (.tuple ⟨l'⟩)
  | func (L : Nat → LI) (f : FuncId) (a b : List TV) (a' b' : List Value) (la : a'.length = a.length) (ha : ∀ (i : Nat) p x, a[i]? = some p → a'[i]? = some x → VL Fz h noL p x)
      (lb : b'.length = b.length) (hb : ∀ (i : Nat) p x, b[i]? = some p → b'[i]? = some x → VL Fz h noL p x) : VL Fz h L (.func f a b) (.func (.func f) ⟨a'⟩ ⟨b'⟩)
  | nillist (L : Nat → LI) (es : Nat) : VL Fz h L (.list es []) (.slice none 0 0)
  | list (L : Nat → LI) (es : Nat) (rows : List (List TV)) (n o c : Nat) (cs : List Value) (eb : Nat) (hn : Fz n) (hb : h[n]? = some (.cells eb cs)) (he : eb = es ∨ eb = 0) (hw : ∀ r ∈ rows, r.length = es) (hc : rows.length ≤ c) (hle : o + rows.length * es ≤ cs.length)
      (ha : ∀ (j : Nat) p x, rows.flatten[j]? = some p → cs[o + j]? = some x → VL Fz h noL p x) : VL Fz h L (.list es rows) (.slice (some ⟨n, o, none⟩) rows.length c)
  | fptr (L : Nat → LI) (vb : Bool) (row : List TV) (off n base es : Nat) (cs : List Value) (hn : Fz n) (hb : h[n]? = some (.cells es cs)) (hv : vb = true → es = 0) (hle : base + row.length ≤ cs.length)
      (ha : ∀ (j : Nat) p x, row[j]? = some p → cs[base + j]? = some x → VL Fz h noL p x) : VL Fz h L (.fptr vb row off) (.pointer (some ⟨n, base + off, none⟩))
  | lptr (L : Nat → LI) (n r o nm : Nat) (ok : (L n).ok = true) (hn : (L n).nm = some nm) : VL Fz h L (.lptr n r o) (.pointer (some ⟨nm, r * (L n).es + o, none⟩))
  | lslnil (L : Nat → LI) (n : Nat) (ok : (L n).ok = true) (hn : (L n).nm = none) : VL Fz h L (.lsl n 0 0) (.slice none 0 0)
  | lsl (L : Nat → LI) (n o len nm : Nat) (ok : (L n).ok = true) (hn : (L n).nm = some nm) (hle : o + len ≤ (L n).tot) : VL Fz h L (.lsl n o len) (.slice (some ⟨nm, o * (L n).es, none⟩) len ((L n).tot - o))

structure VLs (Fz : Nat → Prop) (h : List Blk) (L : Nat → LI) (l : List TV) (l' : List Value) : Prop where
  len : l'.length = l.length
  at' : ∀ (i : Nat) p x, l[i]? = some p → l'[i]? = some x → VL Fz h L p x

section
variable {Fz Fz' : Nat → Prop} {h h' : List Blk} {L L' : Nat → LI}
theorem VLs.at {l : List TV} {l' : List Value} (hs : VLs Fz h L l l') {i : Nat} {p : TV} (hp : l[i]? = some p) : ∃ x, l'[i]? = some x ∧ VL Fz h L p x := by
  have hi := (List.getElem?_eq_some_iff.1 hp).1
  have hi' : i < l'.length := by rw [hs.len]; exact hi
  exact ⟨l'[i], List.getElem?_eq_getElem hi', hs.at' i _ _ hp (List.getElem?_eq_getElem hi')⟩
theorem VLs.nil : VLs Fz h L [] [] := ⟨rfl, fun i p x hp => by simp at hp⟩
theorem VLs.cons {p : TV} {x : Value} {l : List TV} {l' : List Value} (hp : VL Fz h L p x) (hs : VLs Fz h L l l') : VLs Fz h L (p :: l) (x :: l') := by
  refine ⟨by simp [hs.len], fun i q y hq hy => ?_⟩
  cases i with
  | zero => simp at hq hy; subst hq hy; exact hp
  | succ i => simp at hq hy; exact hs.at' i _ _ hq hy
theorem VLs.append {l1 l2 : List TV} {x1 x2 : List Value} (ha : VLs Fz h L l1 x1) (hb : VLs Fz h L l2 x2) : VLs Fz h L (l1 ++ l2) (x1 ++ x2) := by
  refine ⟨by simp [ha.len, hb.len], fun i p x hp hx => ?_⟩
  rw [List.getElem?_append] at hp hx
  rw [ha.len] at hx
  split at hp
  · rename_i hi; rw [if_pos hi] at hx; exact ha.at' i _ _ hp hx
  · rename_i hi; rw [if_neg hi] at hx; exact hb.at' _ _ _ hp hx
theorem VLs.extract {l : List TV} {x : List Value} (hs : VLs Fz h L l x) (i j : Nat) : VLs Fz h L ((l.drop i).take j) ((x.drop i).take j) := by
  refine ⟨by simp [hs.len], fun k p y hp hy => ?_⟩
  simp only [List.getElem?_take, List.getElem?_drop] at hp hy
  split at hp
  · rename_i hk; rw [if_pos hk] at hy; exact hs.at' _ _ _ hp hy
  · cases hp
theorem VLs.set {l : List TV} {l' : List Value} (hs : VLs Fz h L l l') (i : Nat) {p : TV} {x : Value} (hp : VL Fz h L p x) : VLs Fz h L (l.set i p) (l'.set i x) := by
  refine ⟨by simp [hs.len], fun k q y hq hy => ?_⟩
  rw [List.getElem?_set] at hq hy
  split at hq
  · rename_i hk
    rw [if_pos hk, hs.len] at hy
    split at hq
    · rename_i hlt; rw [if_pos hlt] at hy; cases hq; cases hy; exact hp
    · cases hq
  · rename_i hk; rw [if_neg hk] at hy; exact hs.at' _ _ _ hq hy
theorem VLs.replicate {p : TV} {x : Value} (hp : VL Fz h L p x) (n : Nat) : VLs Fz h L (List.replicate n p) (List.replicate n x) := by
  refine ⟨by simp, fun k q y hq hy => ?_⟩
  rw [List.getElem?_replicate] at hq hy
  split at hq
  · rename_i hk; rw [if_pos hk] at hy; cases hq; cases hy; exact hp
  · cases hq
theorem VL.agg' {l : List TV} {l' : List Value} (hs : VLs Fz h L l l') : VL Fz h L (.agg l) (.agg ⟨l'⟩) := .agg L l l' hs.len hs.at'
theorem VL.tuple' {l : List TV} {l' : List Value} (hs : VLs Fz h L l l') : VL Fz h L (.tuple l) (.tuple ⟨l'⟩) := .tuple L l l' hs.len hs.at'

theorem VL.mono {p : TV} {x : Value} (hp : VL Fz h L p x) (hF : ∀ n, Fz n → Fz' n) (hh : ∀ n, Fz n → h'[n]? = h[n]?) : VL Fz' h' L p x := by
  induction hp with
  | junk L x => exact .junk L x
  | v L x hx => exact .v L x hx
  | agg L l l' hl ha ih => exact .agg L l l' hl ih
  | tuple L l l' hl ha ih => exact .tuple L l l' hl ih
  | func L f a b a' b' la ha lb hb iha ihb => exact .func L f a b a' b' la iha lb ihb
  | nillist L es => exact .nillist L es
  | list L es rows n o c cs eb hn hb he hw hc hle ha ih => exact .list L es rows n o c cs eb (hF n hn) (by rw [hh n hn]; exact hb) he hw hc hle ih
  | fptr L vb row off n base es cs hn hb hv hle ha ih => exact .fptr L vb row off n base es cs (hF n hn) (by rw [hh n hn]; exact hb) hv hle ih
  | lptr L n r o nm ok hn => exact .lptr L n r o nm ok hn
  | lslnil L n ok hn => exact .lslnil L n ok hn
  | lsl L n o len nm ok hn hle => exact .lsl L n o len nm ok hn hle
theorem VLs.mono {l : List TV} {l' : List Value} (hs : VLs Fz h L l l') (hF : ∀ n, Fz n → Fz' n) (hh : ∀ n, Fz n → h'[n]? = h[n]?) : VLs Fz' h' L l l' :=
  ⟨hs.len, fun i p x hp hx => (hs.at' i p x hp hx).mono hF hh⟩

/-- own blocks beside those that were -/
theorem VL.own {p : TV} {x : Value} (hp : VL Fz h L p x) (hL : ∀ n, (L n).ok = true → L' n = L n) : VL Fz h L' p x := by
  induction hp generalizing L' with
  | junk L x => exact .junk L' x
  | v L x hx => exact .v L' x hx
  | agg L l l' hl ha ih => exact .agg L' l l' hl (fun i p x h1 h2 => ih i p x h1 h2 hL)
  | tuple L l l' hl ha ih => exact .tuple L' l l' hl (fun i p x h1 h2 => ih i p x h1 h2 hL)
  | func L f a b a' b' la ha lb hb iha ihb => exact .func L' f a b a' b' la ha lb hb
  | nillist L es => exact .nillist L' es
  | list L es rows n o c cs eb hn hb he hw hc hle ha ih => exact .list L' es rows n o c cs eb hn hb he hw hc hle ha
  | fptr L vb row off n base es cs hn hb hv hle ha ih => exact .fptr L' vb row off n base es cs hn hb hv hle ha
  | lptr L n r o nm ok hn => have e := hL n ok; rw [← e] at ok hn ⊢; exact .lptr L' n r o nm ok hn
  | lslnil L n ok hn => have e := hL n ok; rw [← e] at ok hn; exact .lslnil L' n ok hn
  | lsl L n o len nm ok hn hle => have e := hL n ok; rw [← e] at ok hn hle ⊢; exact .lsl L' n o len nm ok hn hle
theorem VLs.own {l : List TV} {l' : List Value} (hs : VLs Fz h L l l') (hL : ∀ n, (L n).ok = true → L' n = L n) : VLs Fz h L' l l' :=
  ⟨hs.len, fun i p x hp hx => (hs.at' i p x hp hx).own hL⟩
theorem VL.ofNo {p : TV} {x : Value} (hp : VL Fz h noL p x) : VL Fz h L p x := hp.own (fun n hn => by simp [noL] at hn)
theorem VLs.ofNo {l : List TV} {l' : List Value} (hs : VLs Fz h noL l l') : VLs Fz h L l l' := ⟨hs.len, fun i p x hp hx => (hs.at' i p x hp hx).ofNo⟩

/-- what names an own block is forgotten -/
def kill (n : Nat) : Nat → TV → TV
  | 0, _ => .junk
  | d + 1, p => match p with
    | .lptr m r o => if m = n then .junk else .lptr m r o
    | .lsl m o l => if m = n then .junk else .lsl m o l
    | .agg l => .agg (l.map (kill n d))
    | .tuple l => .tuple (l.map (kill n d))
    | p => p
theorem VL.kill {n : Nat} (hL : ∀ m, m ≠ n → L' m = L m) : ∀ (d : Nat) {p : TV} {x : Value}, VL Fz h L p x → VL Fz h L' (kill n d p) x
  | 0, p, x, hp => by rw [Rex.kill]; exact .junk L' x
  | d + 1, p, x, hp => by
    have key : ∀ (l : List TV) (l' : List Value), (∀ (i : Nat) p x, l[i]? = some p → l'[i]? = some x → VL Fz h L p x) → ∀ (i : Nat) p x, (l.map (Rex.kill n d))[i]? = some p → l'[i]? = some x → VL Fz h L' p x := by
      intro l l' ha i p x hp hx
      rw [List.getElem?_map] at hp
      cases hq : l[i]? with
      | none => rw [hq] at hp; cases hp
      | some q => rw [hq] at hp; obtain rfl := Option.some.inj hp; exact VL.kill hL d (ha i q x hq hx)
    cases hp with
    | junk _ x => exact .junk L' x
    | v _ x hx => exact .v L' x hx
    | agg _ l l' hl ha => exact .agg L' _ l' (by simp [hl]) (key l l' ha)
    | tuple _ l l' hl ha => exact .tuple L' _ l' (by simp [hl]) (key l l' ha)
    | func _ f a b a' b' la ha lb hb => exact .func L' f a b a' b' la ha lb hb
    | nillist _ es => exact .nillist L' es
    | list _ es rows n o c cs eb hn hb he hw hc hle ha => exact .list L' es rows n o c cs eb hn hb he hw hc hle ha
    | fptr _ vb row off n base es cs hn hb hv hle ha => exact .fptr L' vb row off n base es cs hn hb hv hle ha
    | lptr _ m r o nm ok hn =>
      simp only [Rex.kill]
      split
      · exact .junk L' _
      · rename_i hne; rw [← hL m hne] at ok hn ⊢; exact .lptr L' m r o nm ok hn
    | lslnil _ m ok hn =>
      simp only [Rex.kill]
      split
      · exact .junk L' _
      · rename_i hne; rw [← hL m hne] at ok hn; exact .lslnil L' m ok hn
    | lsl _ m o len nm ok hn hle =>
      simp only [Rex.kill]
      split
      · exact .junk L' _
      · rename_i hne; rw [← hL m hne] at ok hn hle ⊢; exact .lsl L' m o len nm ok hn hle

/-- no own block is named -/
def lf : Nat → TV → Bool
  | 0, _ => false
  | d + 1, p => match p with
    | .lptr .. => false
    | .lsl .. => false
    | .agg l => l.all (lf d)
    | .tuple l => l.all (lf d)
    | _ => true
theorem VL.toNo : ∀ (d : Nat) {p : TV} {x : Value}, lf d p = true → VL Fz h L p x → VL Fz h L' p x
  | 0, p, x, hl, hp => by simp [lf] at hl
  | d + 1, p, x, hl, hp => by
    have key : ∀ (l : List TV) (l' : List Value), l.all (lf d) = true → (∀ (i : Nat) p x, l[i]? = some p → l'[i]? = some x → VL Fz h L p x) → ∀ (i : Nat) p x, l[i]? = some p → l'[i]? = some x → VL Fz h L' p x := by
      intro l l' hall ha i p x hp hx
      exact VL.toNo d (by simpa using (List.all_eq_true.1 hall) p (List.mem_of_getElem? hp)) (ha i p x hp hx)
    cases hp with
    | junk _ x => exact .junk L' x
    | v _ x hx => exact .v L' x hx
    | agg _ l l' hl' ha => exact .agg L' _ l' hl' (key l l' (by simpa [lf] using hl) ha)
    | tuple _ l l' hl' ha => exact .tuple L' _ l' hl' (key l l' (by simpa [lf] using hl) ha)
    | func _ f a b a' b' la ha lb hb => exact .func L' f a b a' b' la ha lb hb
    | nillist _ es => exact .nillist L' es
    | list _ es rows n o c cs eb hn hb he hw hc hle ha => exact .list L' es rows n o c cs eb hn hb he hw hc hle ha
    | fptr _ vb row off n base es cs hn hb hv hle ha => exact .fptr L' vb row off n base es cs hn hb hv hle ha
    | lptr => simp [lf] at hl
    | lslnil => simp [lf] at hl
    | lsl => simp [lf] at hl

/-- nothing is named but own slices -/
def cl : Nat → TV → Bool
  | 0, _ => false
  | d + 1, p => match p with
    | .junk => true
    | .v _ => true
    | .lptr .. => true
    | .lsl .. => true
    | .agg l => l.all (cl d)
    | .tuple l => l.all (cl d)
    | _ => false
theorem VL.ofCl : ∀ (d : Nat) {p : TV} {x : Value}, cl d p = true → VL Fz h L p x → VL Fz' h' L p x
  | 0, p, x, hl, hp => by simp [cl] at hl
  | d + 1, p, x, hl, hp => by
    have key : ∀ (l : List TV) (l' : List Value), l.all (cl d) = true → (∀ (i : Nat) p x, l[i]? = some p → l'[i]? = some x → VL Fz h L p x) → ∀ (i : Nat) p x, l[i]? = some p → l'[i]? = some x → VL Fz' h' L p x := by
      intro l l' hall ha i p x hp hx
      exact VL.ofCl d (by simpa using (List.all_eq_true.1 hall) p (List.mem_of_getElem? hp)) (ha i p x hp hx)
    cases hp with
    | junk _ x => exact .junk L x
    | v _ x hx => exact .v L x hx
    | agg _ l l' hl' ha => exact .agg L _ l' hl' (key l l' (by simpa [cl] using hl) ha)
    | tuple _ l l' hl' ha => exact .tuple L _ l' hl' (key l l' (by simpa [cl] using hl) ha)
    | func => simp [cl] at hl
    | nillist _ es => simp [cl] at hl
    | list => simp [cl] at hl
    | fptr => simp [cl] at hl
    | lptr _ n r o nm ok hn => exact .lptr L n r o nm ok hn
    | lslnil _ n ok hn => exact .lslnil L n ok hn
    | lsl _ n o len nm ok hn hle => exact .lsl L n o len nm ok hn hle

/-- a value without names -/
def er : Nat → TV → Option Value
  | 0, _ => none
  | d + 1, p => match p with
    | .v x => some x
    | .agg l => (l.mapM (er d)).map fun l' => .agg ⟨l'⟩
    | _ => none
theorem mapM_some {α β : Type} {f : α → Option β} : ∀ {l : List α} {l' : List β}, l.mapM f = some l' → l'.length = l.length ∧ ∀ (i : Nat) a b, l[i]? = some a → l'[i]? = some b → f a = some b
  | [], l', hl => by simp at hl; subst hl; simp
  | a :: l, l', hl => by
    simp only [List.mapM_cons, bind, Option.bind_eq_some_iff, pure] at hl
    obtain ⟨b, hb, r, hr, he⟩ := hl
    obtain rfl := Option.some.inj he
    obtain ⟨h1, h2⟩ := mapM_some hr
    refine ⟨by simp [h1], fun i x y hx hy => ?_⟩
    cases i with
    | zero => simp at hx hy; subst hx hy; exact hb
    | succ i => simp at hx hy; exact h2 i x y hx hy
theorem VL.er : ∀ (d : Nat) {p : TV} {x y : Value}, er d p = some y → VL Fz h L p x → x = y
  | 0, p, x, y, he, hp => by simp [Rex.er] at he
  | d + 1, p, x, y, he, hp => by
    cases hp with
    | v _ x hx => simpa [Rex.er] using he
    | agg _ l l' hl ha =>
      simp only [Rex.er, Option.map_eq_some_iff] at he
      obtain ⟨r, hr, rfl⟩ := he
      obtain ⟨h1, h2⟩ := mapM_some hr
      congr 2
      apply List.ext_getElem?
      intro i
      cases hx : l'[i]? with
      | none =>
        rw [List.getElem?_eq_none_iff] at hx
        rw [eq_comm, List.getElem?_eq_none_iff]
        omega
      | some x =>
        have hi := (List.getElem?_eq_some_iff.1 hx).1
        have hp : l[i]? = some l[i] := List.getElem?_eq_getElem (by omega)
        have hy : r[i]? = some r[i] := List.getElem?_eq_getElem (by omega)
        rw [hy, VL.er d (h2 i _ _ hp hy) (ha i _ _ hp hx)]
    | _ => simp [Rex.er] at he
/-- a tree of a value without names -/
def inj : Nat → Value → TV
  | 0, x => .v x
  | d + 1, x => match x with
    | .agg ⟨l⟩ => .agg (l.map (inj d))
    | .tuple ⟨l⟩ => .tuple (l.map (inj d))
    | x => .v x
def injOk : Nat → Value → Bool
  | 0, x => isAtom x
  | d + 1, x => match x with
    | .agg ⟨l⟩ => l.all (injOk d)
    | .tuple ⟨l⟩ => l.all (injOk d)
    | x => isAtom x
theorem VL.inj : ∀ (d : Nat) {x : Value}, injOk d x = true → VL Fz h L (inj d x) x
  | 0, x, hx => .v L x (by simpa [injOk] using hx)
  | d + 1, x, hx => by
    have key : ∀ (l : List Value), l.all (injOk d) = true → VLs Fz h L (l.map (Rex.inj d)) l := by
      intro l hl
      refine ⟨by simp, fun i p x hp hx => ?_⟩
      rw [List.getElem?_map, hx] at hp
      obtain rfl := Option.some.inj hp
      exact VL.inj d (by simpa using (List.all_eq_true.1 hl) x (List.mem_of_getElem? hx))
    unfold Rex.inj
    unfold injOk at hx
    split at hx
    · exact .agg' (key _ hx)
    · exact .tuple' (key _ hx)
    · exact .v L _ hx
end
end Go.Rex
