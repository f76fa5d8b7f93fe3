/- An executor of the program's functions on trees of values, proved sound. -/
import Derived.Test.YtojekkfmnnoabaaRexE
set_option linter.unusedSimpArgs false
set_option linter.unusedVariables false
set_option linter.defProp false
namespace Go.Rex
open Go.RowKit

/-- cells behind the last one, in the room that the name has -/
theorem Rel.extend {B lo : Nat} {D : Nat → Prop} {m : NMap} {h : List Blk} {w : World} (hr : Rel B lo D m h w) {n es : Nat} {c vs vs' : List Value} (hD : D n) (hl : lo ≤ n) (hn : h[n]? = some (.cells es c))
    (hfit : c.length + vs.length ≤ (m n).ext) (hv : VRs D m vs vs') : Post B lo D m h w m (h.set n (.cells es (c ++ vs))) (w.setCells (m n).block ((m n).off + c.length) vs') := by
  obtain ⟨s1, s2, s3, s4, s5⟩ := setCells_below (b := (m n).block) vs' ((m n).off + c.length) w
  have hown := hr.own n _ hD hl hn
  have hok := hr.ok n _ hD hn
  have hx : ∀ j, j < vs'.length → (w.cell? ⟨(m n).block, (m n).off + c.length + j, none⟩).isSome = true := fun j hj => by
    rw [hv.len] at hj
    obtain ⟨⟨u, hu⟩, _⟩ := hown.2 (c.length + j) (by omega)
    rw [Nat.add_assoc, hu]; rfl
  refine hr.modify hD hl hn (by simp) s1 s2 s3 s4 s5 _ ⟨hok.1, fun i v hi => ?_⟩ ⟨by simp; exact hfit, fun k hk => ?_⟩
  · rcases Nat.lt_or_ge i c.length with hlt | hge
    · rw [List.getElem?_append_left hlt] at hi
      obtain ⟨v', hc, hvr⟩ := hok.2 i v hi
      exact ⟨v', by rw [World.cell?_setCells_out _ _ _ _ _ (fun _ _ => by simp; omega)]; exact hc, hvr⟩
    · rw [List.getElem?_append_right hge] at hi
      obtain ⟨v', hv', hvr⟩ := hv.at hi
      have hj : i - c.length < vs'.length := (List.getElem?_eq_some_iff.1 hv').1
      have := World.cell?_setCells_in (m n).block vs' ((m n).off + c.length) w hx (i - c.length) hj
      rw [show (m n).off + c.length + (i - c.length) = (m n).off + i by omega] at this
      exact ⟨v', by rw [this, ← hv', List.getElem?_eq_getElem hj], hvr⟩
  · obtain ⟨⟨u, hu⟩, hf⟩ := hown.2 k hk
    refine ⟨?_, by rw [World.frozen?_setCells]; exact hf⟩
    by_cases hin : c.length ≤ k ∧ k < c.length + vs'.length
    · have := World.cell?_setCells_in (m n).block vs' ((m n).off + c.length) w hx (k - c.length) (by omega)
      rw [show (m n).off + c.length + (k - c.length) = (m n).off + k by omega] at this
      exact ⟨_, this⟩
    · exact ⟨u, by rw [World.cell?_setCells_out _ _ _ _ _ (fun _ _ => by simp; omega)]; exact hu⟩

/-- a block under a new name, from a cell on; the old name is forgotten -/
theorem Rel.move {B lo : Nat} {D : Nat → Prop} {m : NMap} {h : List Blk} {w : World} (hr : Rel B lo D m h w) (hlo : lo ≤ h.length) {n es : Nat} {c : List Value} (hD : D n) (hl : lo ≤ n) (hn : h[n]? = some (.cells es c)) (o : Nat) (ho : o ≤ (m n).ext) :
    Post B lo D m h w (upd m h.length ⟨(m n).block, (m n).off + o, (m n).ext - o, es⟩) (h.set n .dead ++ [.cells es (c.drop o)]) w := by
  have hlt := hr.dom n hD
  have hm : ∀ k, D k → upd m h.length ⟨(m n).block, (m n).off + o, (m n).ext - o, es⟩ k = m k := fun k hk => upd_other (by have := hr.dom k hk; omega)
  have hok := hr.ok n _ hD hn
  have hown := hr.own n _ hD hl hn
  have hlen : (h.set n Blk.dead).length = h.length := by simp
  have old : ∀ k (b' : Blk), Dx D h.length (h.length + 1) k → (h.set n Blk.dead ++ [.cells es (c.drop o)])[k]? = some b' → b' ≠ .dead → (D k ∧ k ≠ n ∧ h[k]? = some b') ∨ (k = h.length ∧ b' = .cells es (c.drop o)) := by
    intro k b' hk hb' hd
    rcases hk with hk | hk
    · left
      have hkl := hr.dom k hk
      rw [List.getElem?_append_left (by rw [hlen]; exact hkl)] at hb'
      by_cases e : k = n
      · subst e
        rw [List.getElem?_set_self hlt] at hb'
        exact absurd (Option.some.inj hb').symm hd
      · rw [List.getElem?_set_ne (Ne.symm e)] at hb'
        exact ⟨hk, e, hb'⟩
    · right
      obtain rfl : k = h.length := by omega
      rw [List.getElem?_append_right (by rw [hlen]; exact Nat.le_refl _), hlen] at hb'
      simp at hb'
      exact ⟨rfl, hb'.symm⟩
  refine ⟨hm, ?_, Below.refl _ _, by simp⟩
  rw [show (h.set n Blk.dead ++ [Blk.cells es (c.drop o)]).length = h.length + 1 by simp]
  refine ⟨hr.le, ?_, ?_, ?_, ?_, ?_, ?_, ?_⟩
  · intro k hk
    rcases hk with hk | hk
    · have := hr.dom k hk; simp; omega
    · simp; omega
  · intro k b' hk hb'
    by_cases hd : b' = .dead
    · subst hd; trivial
    rcases old k b' hk hb' hd with ⟨hDk, hne, h'⟩ | ⟨rfl, rfl⟩
    · exact (hr.ok k b' hDk h').mono (fun _ => .inl) hm (hm k hDk)
    · refine ⟨by rw [upd_same], fun i v hi => ?_⟩
      rw [List.getElem?_drop] at hi
      obtain ⟨v', hc, hvr⟩ := hok.2 _ v hi
      refine ⟨v', ?_, hvr.mono (fun _ => .inl) hm⟩
      rw [upd_same, Nat.add_assoc]
      exact hc
  · intro k b' hk hb' hd
    rcases old k b' hk hb' hd with ⟨hDk, hne, h'⟩ | ⟨rfl, rfl⟩
    · rw [hm k hDk]; exact hr.lt k b' hDk h' hd
    · rw [upd_same]; exact hr.lt n _ hD hn (by simp)
  · intro k b' hk hl' hb' hd
    rcases old k b' hk hb' hd with ⟨hDk, hne, h'⟩ | ⟨rfl, rfl⟩
    · rw [hm k hDk]; exact hr.base k b' hDk hl' h' hd
    · rw [upd_same]; exact hr.base n _ hD hl hn (by simp)
  · intro k b' hk hl' hb' hd
    rcases old k b' hk hb' hd with ⟨hDk, hne, h'⟩ | ⟨rfl, rfl⟩
    · rw [hm k hDk]; exact hr.low k b' hDk hl' h' hd
    · omega
  · intro k b' hk hl' hb'
    by_cases hd : b' = .dead
    · subst hd; trivial
    rcases old k b' hk hb' hd with ⟨hDk, hne, h'⟩ | ⟨rfl, rfl⟩
    · exact (hr.own k b' hDk hl' h').congr (hm k hDk)
    · unfold Owns
      rw [upd_same]
      have := hown.1
      refine ⟨by simp; omega, fun j hj => ?_⟩
      have := hown.2 (o + j) (by simp at hj; omega)
      simpa [Nat.add_assoc] using this
  · intro k k' b1 b2 hk hk' hl1 hl2 h1 h2 hd hd' he
    rcases old k b1 hk h1 hd with ⟨hDk, hne, h1'⟩ | ⟨rfl, rfl⟩ <;> rcases old k' b2 hk' h2 hd' with ⟨hDk', hne', h2'⟩ | ⟨rfl, rfl⟩
    · rw [hm k hDk, hm k' hDk'] at he; exact hr.inj k k' b1 b2 hDk hDk' hl1 hl2 h1' h2' hd hd' he
    · rw [hm k hDk, upd_same] at he; exact absurd (hr.inj k n b1 _ hDk hD hl1 hl h1' hn hd (by simp) he) hne
    · rw [hm k' hDk', upd_same] at he; exact absurd (hr.inj n k' _ b2 hD hDk' hl hl2 hn h2' (by simp) hd' he).symm hne'
    · rfl

/-- what is appended -/
def srcCells (h : List Blk) (size : Nat) : Value → Option (Nat × List Value)
  | .slice none 0 _ => some (0, [])
  | .slice (some ⟨n, o, none⟩) l _ => (readCells h n o (l * size)).map fun c => (l, c)
  | .string s => some (s.size, (s.extract 0 s.size).data.toList.map fun b => .int .u8 b.toNat)
  | _ => none
theorem srcCells_sound {P : Program} {B lo : Nat} {D : Nat → Prop} {m : NMap} {h : List Blk} {w : World} (hr : Rel B lo D m h w) {size n : Nat} {x x' : Value} {l : List Value} (hx : VR D m x x') (hs : srcCells h size x = some (n, l)) :
    ∃ l', (Builtin.lenOf x').run P w = .ok n w ∧ (Builtin.firstCells size n x').run P w = .ok ⟨l'⟩ w ∧ VRs D m l l' := by
  unfold srcCells at hs
  split at hs
  · obtain ⟨rfl, rfl⟩ := Prod.mk.inj (Option.some.inj hs)
    cases hx
    exact ⟨[], rfl, rfl, VRs.nil⟩
  · rename_i n' o l0 c
    cases hc : readCells h n' o (l0 * size) with
    | none => rw [hc] at hs; cases hs
    | some cs =>
      rw [hc] at hs
      obtain ⟨rfl, rfl⟩ := Prod.mk.inj (Option.some.inj hs)
      cases hx with
      | slice _ _ _ _ c' hD hl hcc he =>
        obtain ⟨l', hvr, hk, hcl⟩ := readCells_sound hr hD hc
        exact ⟨l', rfl, loadCells_sound hcl _ (hvr.len.trans hk), hvr⟩
  · rename_i s
    obtain ⟨rfl, rfl⟩ := Prod.mk.inj (Option.some.inj hs)
    cases hx
    refine ⟨(s.extract 0 s.size).data.toList.map fun b => .int .u8 b.toNat, rfl, by simp only [Builtin.firstCells, Sem.run_pure]; congr 1; apply Array.ext'; simp, VRs.refl_of fun v hv => ?_⟩
    simp only [List.mem_map] at hv
    obtain ⟨b, _, rfl⟩ := hv
    exact .int _ _
  · cases hs

def notInt (P : Program) (t : Option TypeId) : Bool :=
  match t with
  | none => true
  | some t => match P.underlying t with
    | some (.int _) => false
    | some _ => true
    | none => false
theorem notInt_run {P : Program} {t : Option TypeId} (h : notInt P t = true) (w : World) :
    (match t with | some xType => do pure ((← underlying xType) matches .int _) | none => pure false : Sem Bool).run P w = .ok false w := by
  cases t with
  | none => rfl
  | some t =>
    simp only [notInt] at h
    cases hu : P.underlying t with
    | none => rw [hu] at h; cases h
    | some d =>
      rw [hu] at h
      simp only [Sem.run_bind, run_underlying hu, Result.andThen_ok, Sem.run_pure]
      cases d <;> first | rfl | cases h

def appendV (P : Program) (argTypes : Array TypeId) (s x : Value) (h : List Blk) : AOut :=
  match argTypes[0]? with
  | none => none
  | some st =>
    match P.underlying st with
    | some (.slice e) =>
      match P.info? e with
      | none => none
      | some i =>
        if notInt P argTypes[1]? = true then
          match srcCells h i.size x with
          | none => none
          | some (n, new) =>
            match s with
            | .slice none 0 0 =>
              if n = 0 then (if new.isEmpty = true then some (.slice none 0 0, h, none) else none)
              else if n ≤ 2 ^ 40 ∧ n * i.bytes ≤ 140737488355328 ∧ ((i.zero.map fun z => z.cells.size) = some i.size) ∧ new.length = n * i.size then
                some (.slice (some ⟨h.length, 0, none⟩) n n, h ++ [.cells i.size new], none)
              else none
            | .slice (some ⟨nm, o, none⟩) len c =>
              if n = 0 then (if new.isEmpty = true then some (s, h, none) else none)
              else if len + n ≤ c then (writeBlk h nm (o + len * i.size) new).map fun h' => (.slice (some ⟨nm, o, none⟩) (len + n) c, h', some nm)
              else
                match h[nm]? with
                | some (.cells es cs) =>
                  if es = i.size ∧ o + len * i.size = cs.length ∧ new.length = n * i.size ∧ new.all (·.oneCell') = true ∧ len + n ≤ 2 ^ 40 ∧ (len + n) * i.bytes ≤ 140737488355328 ∧ ((i.zero.map fun z => z.cells.size) = some i.size) then
                    some (.slice (some ⟨h.length, 0, none⟩) (len + n) (len + n), h.set nm .dead ++ [.cells es (cs.drop o ++ new)], some nm)
                  else none
                | _ => none
            | _ => none
        else none
    | _ => none
end Go.Rex
