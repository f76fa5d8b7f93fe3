/- A region that draws, within a round of a loop over an iterator: the same walk as outside (Tame, Hole). (No program.) -/
import Derived.Test.YtekieoamelahkaaGreatM04
import Derived.OrdersIn
import Derived.RegionIn
set_option linter.unusedVariables false
set_option linter.unusedSimpArgs false
namespace Go
open Go.RowKit
variable {P : Program} {ops : Array Oper} {C : World → Prop} {ef : Oper → Bool} {md : Region.Mode}

theorem Oper.uponIn_of_upon {l₀ n : Nat} {o : Oper} {a : Act} {K : Act → World → Prop} {Q : Exit → Act → World → Prop} {r : Result Next} (h : o.upon P a K Q r) :
 o.uponIn (Fence.wide.inRound l₀) n P a K Q r := by
 cases r with
 | ok x w =>
  cases x <;> simp only [Oper.upon, Oper.uponIn] at h ⊢
  all_goals first
   | exact h
   | exact ⟨fun h0 => (by simp [Fence.wide] at h0), CallsIn.inRound l₀ (callsIn_wide.2 h)⟩
   | exact ⟨fun h0 => (by simp [Fence.wide] at h0), fun c cs _ => let ⟨v, w', r, s⟩ := h c cs; ⟨v, w', r, stepsIn_wide.2 s⟩⟩
 | halt x w => cases x <;> simp only [Oper.upon, Oper.uponIn] at h ⊢ <;> exact h

def Oper.isDefer (o : Oper) : Bool := match o.op with | .defer _ => true | _ => false
theorem Oper.not_defer {o : Oper} (h : o.isDefer = false) (c) : o.op ≠ .defer c := fun e => by simp [Oper.isDefer, e] at h

theorem Oper.wpIn_of_wp {l₀ n : Nat} {o : Oper} {a : Act} {w : World} {K : Act → World → Prop} {Q : Exit → Act → World → Prop} (hd : o.isDefer = false) (h : o.wp P a w K Q) :
 o.wpIn (Fence.wide.inRound l₀) n P a w K Q := by
 refine ⟨fun _ _ => trivial, ?_⟩
 have : (Fence.wide.inRound l₀).round = some l₀ := rfl
 rw [this, Oper.semAt_eq _ _ _ (Oper.not_defer hd)]
 exact Oper.uponIn_of_upon h

theorem wpOpIn_of_wpOp {l₀ n : Nat} {i : Nat} {a : Act} {w : World} {K : Act → World → Prop} {Q : Exit → Act → World → Prop} (hd : ∀ (j : Nat) (o : Oper), ops[j]? = some o → o.isDefer = false)
 (h : ∃ (K' : Act → World → Prop), (∀ a w, K' a w → K a w) ∧ (match ops[i]? with | none => K' a w | some o => if Region.wanted o (yielded ops a.tmps) then o.wp P a w K' Q else K' (a.put o.dst undef) w)) :
 wpOpIn (Fence.wide.inRound l₀) n P ops Q i K a w := by
 obtain ⟨K', hK, h⟩ := h
 unfold wpOpIn
 split
 · rename_i ho; simp only [ho] at h; exact hK _ _ h
 · rename_i o ho
   simp only [ho] at h
   split
   · rename_i hw; simp only [hw, if_true] at h; exact Oper.wpIn_mono hK (Oper.wpIn_of_wp (hd _ _ ho) h)
   · rename_i hw; simp only [hw] at h; exact ⟨fun _ _ => trivial, hK _ _ h⟩

unseal tOp in
theorem wpOpIn_of_tOp {l₀ n : Nat} (hd : ∀ (j : Nat) (o : Oper), ops[j]? = some o → o.isDefer = false) {i : Nat} {a : Act} {w : World} {K K' : Act → World → Prop} {Q : Exit → Act → World → Prop} (hC : C w) (h : ∀ a w, C w → K a w → K' a w)
 (hh : tOp P ops ef C i K a w) : wpOpIn (Fence.wide.inRound l₀) n P ops Q i K' a w := by
 refine wpOpIn_of_wpOp hd ⟨fun a w => K' a w, fun _ _ h => h, ?_⟩
 unfold tOp at hh
 split
 · rename_i ho; simp only [ho] at hh; exact h _ _ hC hh
 · rename_i o ho
   simp only [ho] at hh
   split
   · rename_i hw
     simp only [hw, if_true] at hh
     unfold Oper.tame at hh
     split at hh
     · exact Oper.wp_exits (Oper.wp_mono (fun a' w' h' => h a' w' h'.2.1 h'.2.2) hh)
     · obtain ⟨v, h1, h2⟩ := hh
       have h3 := h1 w hC
       unfold Oper.pureAt at h3
       unfold Oper.wp
       generalize (execOp a.eval o).run P w = r at *
       cases r with
       | ok n w' =>
        cases n <;> simp only [Oper.pureUpon] at h3 <;> simp only [Oper.upon]
        · obtain ⟨e1, e2⟩ := h3
          rw [e1, e2]
          exact h _ _ hC h2
        · obtain ⟨e1, e2⟩ := h3
          rw [e1, ← e2]
          exact h _ _ hC h2
       | halt x w' => simp only [Oper.pureUpon] at h3
   · rename_i hw; simp only [hw] at hh; exact h _ _ hC hh

unseal wpAnyT in
theorem wpAnyIn_of_T {l₀ n : Nat} (hd : ∀ (j : Nat) (o : Oper), ops[j]? = some o → o.isDefer = false) {Q : Act → World → Prop} {Q' : Exit → Act → World → Prop} (hQ : ∀ a w, C w → Q a w → Q' .normal a w) : ∀ (fuel : Nat) (listed : Array Bool) (a : Act) (w : World), C w →
 wpAnyT P md ops ef C Q fuel listed a w → wpAnyIn (Fence.wide.inRound l₀) n P md ops Q' fuel listed a w
 | 0, _, _, _, hC, h => ⟨h.1, hQ _ _ hC h.2⟩
 | fuel + 1, _, _, _, hC, h => ⟨fun h0 => hQ _ _ hC (h.1 h0), fun i hi => wpOpIn_of_tOp hd hC (fun a' w' hC' => wpAnyIn_of_T hd hQ fuel _ a' w' hC') (h.2 i hi)⟩

def noDefer (l : List Oper) : Bool := l.all fun o => !o.isDefer
theorem noDefer_spec {l : List Oper} (h : noDefer l = true) (j : Nat) (o : Oper) (ho : l.toArray[j]? = some o) : o.isDefer = false := by
 simp only [noDefer, List.all_eq_true] at h
 have := h o (List.mem_of_getElem? (by simpa using ho))
 simpa using this

theorem wpIn_region_tame {l₀ n : Nat} {id : Nat} {Q : Exit → Act → World → Prop} {a : Act} {w : World} {l : List Oper} (C : World → Prop) (ef : Oper → Bool) (hm : P.follows .mixedOrders = true) (hB : (noDefer l && Region.tameB .any ef l) = true)
 (hC : C w.drew) (h : wpTame P l.toArray ef C (fun a' w' => Q .normal a' w') l a w.drew) : (Code.region id l.toArray true).wpIn (Fence.wide.inRound l₀) n P Q a w := by
 simp only [Region.tameB, Bool.and_eq_true] at hB
 refine wpIn_region_any hm (wpAnyIn_of_T (noDefer_spec hB.1) (ef := ef) (Q := fun a' w' => Q .normal a' w') (fun _ _ _ h => h) _ _ _ _ hC ?_)
 have := wpAnyT_lex (C := C) (md := .any) (P := P) (ef := ef) hB.2.1.1 l 0 (Array.replicate l.toArray.size false) none a w.drew (by simp) hC
  (fun j oj _ hl => by
   exfalso
   rcases Nat.lt_or_ge j l.length with h' | h' <;> simp [h'] at hl)
  (fun j hj => absurd hj (Nat.not_lt_zero j)) (by simpa using hB.2.1.2) hB.2.2 h
 simpa using this

theorem wpIn_region_tameX {l₀ n : Nat} {id : Nat} {Q : Exit → Act → World → Prop} {a : Act} {w : World} {l : List Oper} (hm : P.follows .mixedOrders = true) (hB : (noDefer l && Region.tameB .any Oper.isEff l) = true)
 (h : wpTame P l.toArray Oper.isEff (fun w' => ∃ x, w' = w.ext x) (fun a' w' => Q .normal a' w') l a w.drew) : (Code.region id l.toArray true).wpIn (Fence.wide.inRound l₀) n P Q a w :=
 wpIn_region_tame (fun w' => ∃ x, w' = w.ext x) Oper.isEff hm hB ⟨_, World.drew_ext w⟩ h

theorem wpIn_region_tree {l₀ n : Nat} {id : Nat} {Q : Exit → Act → World → Prop} {a : Act} {w : World} {l : List Oper} (hm : P.follows .mixedOrders = true) (hd : noDefer l = true)
 (h : wpAnyT P .any l.toArray Oper.isEff (fun w' => ∃ x, w' = w.ext x) (fun a' w' => Q .normal a' w') l.length (Array.replicate l.length false) a w.drew) : (Code.region id l.toArray true).wpIn (Fence.wide.inRound l₀) n P Q a w := by
 refine wpIn_region_any hm (wpAnyIn_of_T (noDefer_spec hd) (C := fun w' => ∃ x, w' = w.ext x) (ef := Oper.isEff) (Q := fun a' w' => Q .normal a' w') (fun _ _ _ h => h) _ _ _ _ ⟨_, World.drew_ext w⟩ ?_)
 simpa using h
end Go
