/- What these functions return: facts on lists and numbers. -/
import Derived.Test.YtpjccpokiaefjaaGreatDoorRexG8
import Derived.Test.YtpjccpokiaefjaaGreatDoorS
import Derived.ProofKit
import Derived.OpenShut
import Derived.ShutString
import Derived.ChangeOld
import Derived.Below
import Derived.Lib.SmallJoins
import Derived.ChangeShapes
import Derived.ChangeArms
import Derived.WideShapes
import Derived.Lay
import Derived.MakeChecks
import Derived.SevenTiedAt
set_option linter.unusedSimpArgs false
set_option linter.unusedVariables false
set_option linter.defProp false
namespace Go.Rex
/-! ### plain facts for shallow functions -/
theorem w64 {x : Int} (h : -9223372036854775808 ≤ x ∧ x ≤ 9223372036854775807) : IntKind.i64.wrap x = x:=IntWalk.i64_in x (by omega)
theorem getI_nat {α : Type} {xs : List α} {k : Nat} : getI xs (k : Int) = xs[k]?:=by
  unfold getI
  rw [if_pos (by omega),Int.toNat_natCast]
end Go.Rex

namespace Go.Rex
/-! ### a loop that walks a list,gathers,and may end early -/
end Go.Rex

open Go Go.Rex
namespace Go.Rex
set_option maxRecDepth 100000
/-! ### loops,once more -/
/-- the first one that has an answer -/
def firstOf {ε : Type} (p : Nat → Option ε) (n : Nat) : Option ε:=(List.range n).findSome? p
theorem firstOf_none {ε : Type} {p : Nat → Option ε} {n : Nat} : firstOf p n = none ↔ ∀ k,k < n → p k = none:=by
  unfold firstOf
  rw [List.findSome?_eq_none_iff]
  constructor
  · intro h k hk;exact h k (List.mem_range.2 hk)
  · intro h k hk;exact h k (List.mem_range.1 hk)
theorem firstOf_succ {ε : Type} {p : Nat → Option ε} {n : Nat} : firstOf p (n + 1) = match firstOf p n with|some e=>some e|none=>p n:=by
  unfold firstOf
  rw [List.range_succ,List.findSome?_append]
  cases h : List.findSome? p (List.range n) with
  | some e=>rfl
  | none=>simp
theorem run_find {ε δ : Type} {step : Int → Option (Int ⊕ (ε ⊕ δ))} {n : Nat} {p : Nat → Option ε} {r : δ}
    (h : ∀ k : Nat,k < n → (∀ j,j < k → p j = none) → step (k : Int) = some (match p k with|none=>.inl ((k + 1 : Nat) : Int)|some e=>.inr (.inl e))) (he : (∀ j,j < n → p j = none) → step (n : Int) = some (.inr (.inr r))) : run step 0 = some (match firstOf p n with|some e=>.inl e|none=>.inr r):=by
  suffices H : ∀ m,m ≤ n → firstOf p m = none → run step 0 = run step (m : Int) by
    cases hf : firstOf p n with
    | none =>
      simp only
      rw [H n (Nat.le_refl _) hf]
      exact run_stop (he (firstOf_none.1 hf))
    | some e =>
      simp only
      have : ∃ m,m < n ∧ firstOf p m = none ∧ p m = some e:=by
        clear h he H
        induction n with
        | zero=>simp [firstOf] at hf
        | succ n ih =>
          rw [firstOf_succ] at hf
          cases hn : firstOf p n with
          | none=>rw [hn] at hf;exact ⟨n,by omega,hn,hf⟩
          | some e'=>rw [hn] at hf;cases hf;obtain ⟨m,h1,h2⟩:=ih hn;exact ⟨m,by omega,h2⟩
      obtain ⟨m,hm,h1,h2⟩:=this
      rw [H m (by omega) h1]
      have:=h m hm (firstOf_none.1 h1)
      rw [h2] at this
      exact run_stop this
  intro m
  induction m with
  | zero=>intro _ _;rfl
  | succ m ih =>
    intro hm hf
    have hf':=firstOf_none.1 hf
    rw [ih (by omega) (firstOf_none.2 fun k hk=>hf' k (by omega))]
    have:=h m (by omega) (fun j hj=>hf' j (by omega))
    rw [hf' m (by omega)] at this
    exact run_next this
def iter {β : Type} (g : Nat → β → β) : Nat → β → β
  | 0,b=>b
  | k + 1,b=>g k (iter g k b)
/-! ### small things -/
/-! ### sums of lists -/
end Go.Rex

namespace Go.Rex
open Go.RowKit
/-! ## whole floats -/
structure FOk (f : Ieee.Format) (q : Nat) : Prop where
  lp : f.leastPlace = -(q : Int)
  le : f.fractionBits + 1 ≤ q
  inf : (q + 2) * f.binade ≤ f.infRung
  sgn : f.infRung < f.signWeight
theorem shl (m s : Nat) : m <<< s = m * 2 ^ s:=Nat.shiftLeft_eq m s
/-- a whole float: a sign and a size -/
def fz (k : FloatKind) (s : Bool) (m : Nat) : Nat:=k.encode (.number s m 0)
end Go.Rex

namespace Go.Rex
/-! ### floats that are whole numbers -/
end Go.Rex

namespace Go.Rex
/-! ### roots and ways -/
def inP (x : Int) : Prop:=-5000 ≤ x ∧ x ≤ 5000
end Go.Rex

namespace Go.Rex
/-! ### which arrays and seats are right -/
abbrev Spk:=Int × Int × Int × Int × Int
instance (x : Int) : Decidable (inP x):=inferInstanceAs (Decidable (_ ∧ _))
theorem awithin_eq (x lo hi : Int) : array_within x lo hi = some (!decide (lo ≤ x ∧ x ≤ hi),2):=by
  unfold array_within array_refuse
  by_cases q : x < lo
  · rw [if_pos (by simpa using q),decide_eq_false (by omega)];rfl
  · rw [if_neg (by simpa using q)]
    by_cases q2 : x > hi
    · rw [decide_eq_true q2,decide_eq_false (by omega)];rfl
    · rw [decide_eq_false q2,decide_eq_true (by omega)];rfl
theorem arefuse1 (b : Bool) (e : Int) : array_refuse_c1_11f9 b e = some (if b = true then e else 0):=by
  unfold array_refuse_c1_11f9;cases b<;>rfl
theorem adj_eq (g d : Int) : array_adjusted_c1_b585 g d = some (if (0 ≤ g ∧ g ≤ 1000) ∧ (0 ≤ d ∧ d ≤ 10000) then 0 else 2):=by
  unfold array_adjusted_c1_b585 array_firstError_751b
  simp only [awithin_eq,Option.bind_some,arefuse1]
  by_cases q : 0 ≤ g ∧ g ≤ 1000
  · by_cases q2 : 0 ≤ d ∧ d ≤ 10000
    · simp [q,q2]
    · simp [q,q2]
  · simp [q]
theorem aud_eq (g d : Int) : array_audible_c1_eebc g d = some (if (8000 ≤ g ∧ g ≤ 192000) ∧ (30000 ≤ d ∧ d ≤ 40000) then 0 else 2):=by
  unfold array_audible_c1_eebc array_firstError_751b
  simp only [awithin_eq,Option.bind_some,arefuse1]
  by_cases q : 8000 ≤ g ∧ g ≤ 192000
  · by_cases q2 : 30000 ≤ d ∧ d ≤ 40000
    · simp [q,q2]
    · simp [q,q2]
  · simp [q]
def okS (s : Spk) : Prop:=(inP s.1 ∧ inP s.2.1 ∧ inP s.2.2.1) ∧ (0 ≤ s.2.2.2.1 ∧ s.2.2.2.1 ≤ 1000) ∧ (0 ≤ s.2.2.2.2 ∧ s.2.2.2.2 ≤ 10000)
theorem placed_is (x y z : Int) : array_placed x y z = some ((([x,y,z] : List Int).length : Int),[x,y,z],-5000,5000):=rfl
end Go.Rex

open Go Go.Rex
namespace Go.Rex
set_option maxRecDepth 100000
/-! ### errors,exactly -/
theorem within_ex (x lo hi : Int) : base_Within x lo hi = some (decide (lo ≤ x ∧ x ≤ hi)):=by
  unfold base_Within
  by_cases q : lo ≤ x
  · rw [if_pos (by simpa using q)];simp [q]
  · rw [if_neg (by simpa using q)];simp [q]
theorem bwithin {x lo hi : Int} {β : Type} {f : Bool → Option β} : ((base_Within x lo hi).bind f) = if lo ≤ x ∧ x ≤ hi then f true else f false:=by
  rw [within_ex,Option.bind_some]
  by_cases q : lo ≤ x ∧ x ≤ hi
  · rw [if_pos q,decide_eq_true q]
  · rw [if_neg q,decide_eq_false q]
theorem placeR_ex (x y z : Int) : ref07_PlaceErr x y z = some (if inP x ∧ inP y ∧ inP z then 0 else 2):=by
  unfold ref07_PlaceErr inP
  simp only [bwithin]
  repeat' split
  all_goals first|rfl|omega|simp_all
theorem gainR_ex (g d : Int) : ref07_GainErr g d = some (if (0 ≤ g ∧ g ≤ 1000) ∧ (0 ≤ d ∧ d ≤ 10000) then 0 else 2):=by
  unfold ref07_GainErr
  simp only [bwithin]
  repeat' split
  all_goals first|rfl|omega|simp_all
theorem soundR_ex (g d : Int) : ref07_SoundErr g d = some (if (8000 ≤ g ∧ g ≤ 192000) ∧ (30000 ≤ d ∧ d ≤ 40000) then 0 else 2):=by
  unfold ref07_SoundErr
  simp only [bwithin]
  repeat' split
  all_goals first|rfl|omega|simp_all
theorem placed_ex (x y z : Int) : array_each_c1_6239 (([x,y,z] : List Int).length : Int) [x,y,z] (-5000) 5000 = some (if inP x ∧ inP y ∧ inP z then 0 else 2):=by
  unfold array_each_c1_6239
  have hw : ∀ k : Nat,k < ([x,y,z] : List Int).length → array_allWithin_c1_ea58 (k : Int) [x,y,z] (-5000) 5000 = some (if inP (([x,y,z] : List Int).getD k 0) then 0 else 2):=fun k hk=>by
    unfold array_allWithin_c1_ea58
    rw [getI_nat,List.getElem?_eq_getElem hk,Option.bind_some,awithin_eq,Option.bind_some]
    dsimp only
    rw [arefuse1,Option.bind_some,show ([x,y,z] : List Int).getD k 0 = ([x,y,z] : List Int)[k] by rw [List.getD_eq_getElem?_getD,List.getElem?_eq_getElem hk];rfl]
    by_cases q : inP ([x,y,z] : List Int)[k]
    · have q' : -5000 ≤ ([x,y,z] : List Int)[k] ∧ ([x,y,z] : List Int)[k] ≤ 5000:=q
      rw [decide_eq_true q',if_pos q];rfl
    · have q' : ¬ (-5000 ≤ ([x,y,z] : List Int)[k] ∧ ([x,y,z] : List Int)[k] ≤ 5000):=q
      rw [decide_eq_false q',if_neg q];rfl
  have h:=run_find (step:=array_each_c1_6239_l1 (([x,y,z] : List Int).length : Int) [x,y,z] (-5000) 5000) (n:=3) (r:=()) (p:=fun k=>if inP (([x,y,z] : List Int).getD k 0) then none else some (2 : Int)) (fun k hk _=>by
    dsimp only [array_each_c1_6239_l1]
    rw [if_pos (by simp;omega),hw k hk,Option.bind_some]
    by_cases q : inP (([x,y,z] : List Int).getD k 0)
    · rw [if_pos q,if_pos q,if_neg (by simp),w64 (by omega)];rfl
    · rw [if_neg q,if_neg q,if_pos (by simp)]) (fun _=>by
    dsimp only [array_each_c1_6239_l1]
    rw [if_neg (by simp)])
  rw [h]
  simp only [firstOf,List.range,List.range.loop,List.findSome?]
  by_cases hx : inP x<;>by_cases hy : inP y<;>by_cases hz : inP z<;>simp [hx,hy,hz]
theorem spk_ex (x y z g d : Int) : array_firstError_34f2 (([x,y,z] : List Int).length : Int) [x,y,z] (-5000) 5000 g d = some (if (inP x ∧ inP y ∧ inP z) ∧ (0 ≤ g ∧ g ≤ 1000) ∧ (0 ≤ d ∧ d ≤ 10000) then 0 else 2):=by
  unfold array_firstError_34f2
  rw [placed_ex,Option.bind_some]
  by_cases q : inP x ∧ inP y ∧ inP z
  · rw [if_pos q,if_neg (by simp),adj_eq,Option.bind_some]
    by_cases q2 : (0 ≤ g ∧ g ≤ 1000) ∧ (0 ≤ d ∧ d ≤ 10000)
    · rw [if_pos q2,if_neg (by simp),if_pos ⟨q,q2⟩]
    · rw [if_neg q2,if_pos (by simp),if_neg (fun h=>q2 h.2)]
  · rw [if_neg q,if_pos (by simp),if_neg (fun h=>q h.1)]
instance (s : Spk) : Decidable (okS s):=inferInstanceAs (Decidable (_ ∧ _ ∧ _))
def badS (l : List Spk) (k : Nat) : Option Int:=if okS (l.getD k (0,0,0,0,0)) then none else some (k : Int)
/-- what is wrong with an array: the number, and the error -/
def chkV (u v : Int) (l : List Spk) : Int × Int :=
  if ¬ ((8000 ≤ u ∧ u ≤ 192000) ∧ (30000 ≤ v ∧ v ≤ 40000)) then (0,2) else if l.length = 0 then (0,10) else if 8 < l.length then (0,8) else
    match firstOf (badS l) l.length with
    | some k=>(k,2)
    | none=>(0,0)
theorem spkD {l : List Spk} {k : Nat} (h : k < l.length) : getI l (k : Int) = some (l.getD k (0,0,0,0,0)):=by
  rw [getI_nat,List.getD_eq_getElem?_getD,List.getElem?_eq_getElem h];rfl
theorem chk_prog (u v : Int) (l : List Spk) : array_CheckArray u v l = some (chkV u v l):=by
  unfold array_CheckArray array_rig_sound array_audible array_counted array_firstError_2e50 chkV array_counted_c1_b585 array_firstError_751b array_refuse
  simp only [Option.bind_some,aud_eq,arefuse1]
  by_cases q : (8000 ≤ u ∧ u ≤ 192000) ∧ (30000 ≤ v ∧ v ≤ 40000)
  · rw [if_neg (not_not_intro q),if_pos q,if_neg (by simp)]
    by_cases q1 : l.length = 0
    · rw [if_pos q1];simp [q1]
    · rw [if_neg q1]
      by_cases q2 : 8 < l.length
      · rw [if_pos q2]
        have : (l.length : Int) > 8:=by omega
        simp [q1,this]
      · rw [if_neg q2]
        have hd : ¬ ((l.length : Int) > 8):=by omega
        have h:=run_find (step:=array_CheckArray_l1 l) (n:=l.length) (r:=()) (p:=fun k=>(badS l k).map fun k=>(k,(2 : Int))) (fun k hk _=>by
          dsimp only [array_CheckArray_l1]
          rw [if_pos (by simpa using hk),spkD hk,Option.bind_some]
          unfold badS
          rcases l.getD k (0,0,0,0,0) with ⟨x,y,z,g,d⟩
          dsimp only
          unfold array_adjusted
          rw [placed_is,Option.bind_some,Option.bind_some]
          dsimp only
          rw [spk_ex,Option.bind_some]
          by_cases qs : okS (x,y,z,g,d)
          · rw [if_pos qs]
            have qs' : (inP x ∧ inP y ∧ inP z) ∧ (0 ≤ g ∧ g ≤ 1000) ∧ (0 ≤ d ∧ d ≤ 10000):=qs
            rw [if_pos qs',if_neg (by simp),w64 (by omega)]
            rfl
          · rw [if_neg qs]
            have qs' : ¬ ((inP x ∧ inP y ∧ inP z) ∧ (0 ≤ g ∧ g ≤ 1000) ∧ (0 ≤ d ∧ d ≤ 10000)):=qs
            rw [if_neg qs',if_pos (by simp)]
            rfl) (fun _=>by
          dsimp only [array_CheckArray_l1]
          rw [if_neg (by simp)])
        simp only [q1,hd,decide_eq_false hd,decide_false,decide_true,Int.natCast_eq_zero,if_false,Bool.false_eq_true,ne_eq,not_true_eq_false,if_true,Option.bind_some]
        rw [h]
        have hf : firstOf (fun k=>(badS l k).map fun k=>(k,(2 : Int))) l.length = (firstOf (badS l) l.length).map fun k=>(k,(2 : Int)):=by
          generalize l.length = n
          induction n with
          | zero=>rfl
          | succ n ih =>
            rw [firstOf_succ,firstOf_succ,ih]
            cases firstOf (badS l) n<;>rfl
        rw [hf]
        cases firstOf (badS l) l.length<;>rfl
  · rw [if_pos q,if_neg q,if_pos (by simp)]
    simp
theorem chk_ref (u v : Int) (l : List Spk) : ref07_CheckArray u v l = some (chkV u v l):=by
  unfold ref07_CheckArray ref07_Sound chkV
  simp only [Option.bind_some,soundR_ex]
  by_cases q : (8000 ≤ u ∧ u ≤ 192000) ∧ (30000 ≤ v ∧ v ≤ 40000)
  · rw [if_neg (not_not_intro q),if_pos q,if_neg (by simp)]
    by_cases q1 : l.length = 0
    · rw [if_pos q1,if_pos (by simp [q1])]
    · rw [if_neg q1,if_neg (by simpa using q1)]
      by_cases q2 : 8 < l.length
      · rw [if_pos q2,if_pos (by simp;omega)]
      · rw [if_neg q2,if_neg (by simp;omega)]
        have h:=run_find (step:=ref07_CheckArray_l1 l) (n:=l.length) (r:=()) (p:=badS l) (fun k hk _=>by
          dsimp only [ref07_CheckArray_l1]
          rw [if_pos (by simpa using hk),spkD hk,Option.bind_some]
          unfold badS
          rcases l.getD k (0,0,0,0,0) with ⟨x,y,z,g,d⟩
          dsimp only
          rw [placeR_ex,Option.bind_some]
          by_cases qs : inP x ∧ inP y ∧ inP z
          · rw [if_pos qs,if_neg (by simp),gainR_ex,Option.bind_some]
            by_cases q3 : (0 ≤ g ∧ g ≤ 1000) ∧ (0 ≤ d ∧ d ≤ 10000)
            · rw [if_pos q3,if_neg (by simp),w64 (by omega),if_pos (show okS (x,y,z,g,d) from ⟨qs,q3⟩)]
              rfl
            · rw [if_neg q3,if_pos (by simp),if_neg (fun h : okS (x,y,z,g,d)=>q3 h.2)]
          · rw [if_neg qs,if_pos (by simp),if_neg (fun h : okS (x,y,z,g,d)=>qs h.1)]) (fun _=>by
          dsimp only [ref07_CheckArray_l1]
          rw [if_neg (by simp)])
        rw [h]
        cases firstOf (badS l) l.length<;>rfl
  · rw [if_pos q,if_neg q,if_pos (by simp)]
end Go.Rex

open Go Go.Rex
namespace Go.Rex
set_option maxRecDepth 100000
theorem copyS {l : List Spk} (h : l.length ≤ 1000) : appI 40 ([] : List Spk) l = some l:=by
  unfold appI
  rw [if_pos (by simp;omega)]
  simp
theorem copy_ex {u v : Int} {l : List Spk} (h : l.length ≤ 1000) : ref07_Copy u v l = some (u,v,l):=by
  unfold ref07_Copy
  rw [copyS h];rfl
theorem same_ex (u v : Int) (l : List Spk) (u' v' : Int) (l' : List Spk) (hn : l.length < 1000) : ref07_Same u v l u' v' l' = some (decide (u = u' ∧ v = v' ∧ l = l')):=by
  unfold ref07_Same
  by_cases q : u = u'
  · rw [if_neg (by simp [q])]
    by_cases q2 : v = v'
    · rw [if_neg (by simp [q2])]
      by_cases q3 : l.length = l'.length
      · rw [if_neg (by simp [q3])]
        have h:=run_find (step:=ref07_Same_l1 l l') (n:=l.length) (r:=()) (p:=fun k=>if l.getD k (0,0,0,0,0) = l'.getD k (0,0,0,0,0) then none else some ()) (fun k hk _=>by
          dsimp only [ref07_Same_l1]
          rw [if_pos (by simpa using hk),spkD hk,Option.bind_some,spkD (by omega),Option.bind_some]
          rcases l.getD k (0,0,0,0,0) with ⟨x,y,z,g,d⟩
          rcases l'.getD k (0,0,0,0,0) with ⟨x',y',z',g',d'⟩
          dsimp only
          by_cases qe : (x,y,z,g,d) = (x',y',z',g',d')
          · rw [if_pos qe,if_pos (by simp only [Prod.mk.injEq] at qe;simp [qe]),w64 (by omega)];rfl
          · rw [if_neg qe,if_neg (by intro hh;apply qe;simp at hh;simp [hh])]) (fun _=>by
          dsimp only [ref07_Same_l1]
          rw [if_neg (by simp)])
        rw [h]
        by_cases qe : l = l'
        · subst qe
          rw [firstOf_none.2 (fun k hk=>by simp)]
          simp [q,q2]
        · rw [decide_eq_false (fun h=>qe h.2.2)]
          cases hf : firstOf (fun k=>if l.getD k (0,0,0,0,0) = l'.getD k (0,0,0,0,0) then none else some ()) l.length with
          | some _=>rfl
          | none =>
            exfalso
            apply qe
            apply List.ext_getElem q3
            intro k h1 h2
            have:=firstOf_none.1 hf k h1
            simp only [List.getD_eq_getElem?_getD,List.getElem?_eq_getElem h1,List.getElem?_eq_getElem h2,Option.getD_some] at this
            by_cases e : l[k] = l'[k]
            · exact e
            · rw [if_neg e] at this;cases this
      · rw [if_pos (by simp;omega),decide_eq_false (fun h=>q3 (by rw [h.2.2]))]
    · rw [if_pos (by simpa using q2),decide_eq_false (fun h=>q2 h.2.1)]
  · rw [if_pos (by simpa using q),decide_eq_false (fun h=>q h.1)]
theorem same0 : ref07_Same_1134 0 0 [] 0 0 = some true:=by
  unfold ref07_Same_1134
  rw [if_neg (by simp),if_neg (by simp),if_neg (by simp),show run (ref07_Same_1134_l1 []) () = some () from run_stop (by dsimp only [ref07_Same_1134_l1];rw [if_neg (by simp)])]
  rfl
theorem rigchk (u v : Int) (l : List Spk) : array_rig_check u v l = some (chkV u v l).2:=by
  unfold array_rig_check
  rw [chk_prog];rfl
theorem chkV_len {u v : Int} {l : List Spk} (h : (chkV u v l).2 = 0) : 1 ≤ l.length ∧ l.length ≤ 8:=by
  unfold chkV at h
  split at h
  · simp at h
  · split at h
    · simp at h
    · split at h
      · simp at h
      · omega
theorem clone_ex {l : List Spk} (h1 : 1 ≤ l.length) (h : l.length ≤ 1000) : slices_Clone_api_ArraySpeaker_api_ArraySpeaker l = some l:=by
  unfold slices_Clone_api_ArraySpeaker_api_ArraySpeaker
  rw [copyS h,Option.bind_some,nilq_eq (fun h=>by subst h;rfl)]
/-- what muting gives -/
def muteV (u v : Int) (l : List Spk) (k : Int) : Int × Int × List Spk × Int :=
  if (chkV u v l).2 ≠ 0 then (0,0,[],(chkV u v l).2) else if ¬ (0 ≤ k ∧ k < l.length) then (0,0,[],6) else
    (u,v,l.set k.toNat ((l.getD k.toNat (0,0,0,0,0)).1,(l.getD k.toNat (0,0,0,0,0)).2.1,(l.getD k.toNat (0,0,0,0,0)).2.2.1,0,(l.getD k.toNat (0,0,0,0,0)).2.2.2.2),0)
theorem mute_ex (u v : Int) (l : List Spk) (k : Int) : array_Muted u v l k = some (muteV u v l k):=by
  unfold array_Muted array_refuse array_firstError_ed22 muteV array_rig_copied
  simp only [Option.bind_some,rigchk,arefuse1]
  by_cases q : (chkV u v l).2 = 0
  · have hl:=chkV_len q
    simp only [q,ne_eq,not_true_eq_false,decide_false,Bool.false_eq_true,if_false,clone_ex hl.1 (by omega),Option.bind_some]
    by_cases q2 : 0 ≤ k
    · obtain ⟨n,rfl⟩ : ∃ n : Nat,k = n:=⟨k.toNat,by omega⟩
      by_cases q3 : (n : Int) < l.length
      · rw [spkD (by omega)]
        simp [q3]
      · simp [q3]
    · simp [q2]
  · simp [q]
theorem checks_true (u v : Int) (l : List Spk) (k : Int) : law07_ArrayChecks u v l k = some true:=by
  unfold law07_ArrayChecks law07_few
  rw [Option.bind_some]
  by_cases q : (l.length : Int) ≤ 10
  · rw [if_pos (by simpa using q)]
    rw [copy_ex (by omega)]
    simp only [Option.bind_some]
    rw [chk_prog,Option.bind_some]
    try dsimp only
    rw [mute_ex,Option.bind_some]
    unfold muteV
    rw [chk_ref,Option.bind_some]
    try dsimp only
    rw [if_neg (by simp),if_neg (by simp),w64 (by omega),within_ex]
    simp only [Option.bind_some]
    by_cases q1 : (chkV u v l).2 = 0
    · by_cases q2 : 0 ≤ k ∧ k < l.length
      · obtain ⟨n,rfl⟩ : ∃ n : Nat,k = n:=⟨k.toNat,by omega⟩
        rw [spkD (by omega)]
        have q3 : (n : Int) ≤ (l.length : Int) - 1:=by omega
        simp [q1,q2,q3,same_ex _ _ _ _ _ _ (show (l.set n _).length < 1000 by simp;omega)]
      · have q3 : ¬ (0 ≤ k ∧ k ≤ (l.length : Int) - 1):=by omega
        simp only [q1,q2,q3]
        simp [same0]
    · simp [q1,same0]
  · rw [if_neg (by simpa using q)]
end Go.Rex

namespace Go.Rex
open Go Go.ChangeShapes Go.WideShapes Go.ChangeAt Go.RowKit Go.Joins Go.Proofs
/-! ### arguments: what they are as trees,and the names of their blocks -/
structure Arg (W : World) (v' : Value) (p : TV) (bs : List Blk) (is : List Info) (av : Nat → Value) : Prop where
  vr : ∀ (D : Nat → Prop) (m : NMap) n,(∀ j,j < bs.length → D (n + j)) → (∀ (j : Nat) i,is[j]? = some i → m (n + j) = i) → VR D m (av n) v'
  vl : ∀ (Fz : Nat → Prop) (h : List Blk) n,(∀ j,j < bs.length → Fz (n + j)) → (∀ (j : Nat) b,bs[j]? = some b → h[n + j]? = some b) → VL Fz h noL p (av n)
  ok : ∀ (D : Nat → Prop) (m : NMap) n,(∀ j,j < bs.length → D (n + j)) → (∀ (j : Nat) i,is[j]? = some i → m (n + j) = i) → ∀ (j : Nat) b,bs[j]? = some b → BlkOk D m W (n + j) b
  lt : ∀ (j : Nat) b i,bs[j]? = some b → is[j]? = some i → b ≠ .dead → i.block < W.heap.size
  len : is.length = bs.length
structure Args (W : World) (vs' : List Value) (ps : List TV) (bs : List Blk) (is : List Info) (av : Nat → List Value) : Prop where
  vr : ∀ (D : Nat → Prop) (m : NMap) n,(∀ j,j < bs.length → D (n + j)) → (∀ (j : Nat) i,is[j]? = some i → m (n + j) = i) → VRs D m (av n) vs'
  vl : ∀ (Fz : Nat → Prop) (h : List Blk) n,(∀ j,j < bs.length → Fz (n + j)) → (∀ (j : Nat) b,bs[j]? = some b → h[n + j]? = some b) → VLs Fz h noL ps (av n)
  ok : ∀ (D : Nat → Prop) (m : NMap) n,(∀ j,j < bs.length → D (n + j)) → (∀ (j : Nat) i,is[j]? = some i → m (n + j) = i) → ∀ (j : Nat) b,bs[j]? = some b → BlkOk D m W (n + j) b
  lt : ∀ (j : Nat) b i,bs[j]? = some b → is[j]? = some i → b ≠ .dead → i.block < W.heap.size
  len : is.length = bs.length
/-- the names of the arguments -/
def nm (is : List Info) : NMap:=fun n=>is.getD n ⟨0,0,0,0⟩
section
variable {W : World} {vs' : List Value} {ps : List TV} {bs : List Blk} {is : List Info} {av : Nat → List Value}
end
theorem len3 {α : Type} {l : List α} (h : l.length = 3) : ∃ x0 x1 x2,l = [x0,x1,x2]:=by
  match l,h with
  | [x0,x1,x2],_=>exact ⟨_,_,_,rfl⟩
theorem len5 {α : Type} {l : List α} (h : l.length = 5) : ∃ x0 x1 x2 x3 x4,l = [x0,x1,x2,x3,x4]:=by
  match l,h with
  | [x0,x1,x2,x3,x4],_=>exact ⟨_,_,_,_,_,rfl⟩
/-! ### arguments without names -/
def AtomV (c : Value) : Prop:=isAtom c = true ∧ ∀ D m,VR D m c c
theorem atomV_int (k : IntKind) (n : Int) : AtomV (.int k n):=⟨rfl,fun _ _=>.int _ _⟩
theorem Arg.atom {W : World} {v : Value} (h : AtomV v) : Arg W v (.v v) [] [] (fun _=>v) :=
  ⟨fun _ _ _ _ _=>h.2 _ _,fun _ _ _ _ _=>.v _ _ h.1,fun _ _ _ _ _ j b h=>by simp at h,fun j b i h=>by simp at h,rfl⟩
/-! ### a slice of rows -/
theorem flatMap_at {α β : Type} {g : α → List β} {es : Nat} (hg : ∀ x,(g x).length = es) (he : 0 < es) : ∀ (xs : List α) i,(xs.flatMap g)[i]? = (xs[i / es]?).bind fun x=>(g x)[i % es]?
  | [],i=>by simp
  | x :: t,i=>by
    rw [List.flatMap_cons]
    rcases Nat.lt_or_ge i es with h|h
    · rw [List.getElem?_append_left (by rw [hg];exact h),Nat.div_eq_of_lt h,Nat.mod_eq_of_lt h]
      rfl
    · rw [List.getElem?_append_right (by rw [hg];exact h),hg,flatMap_at hg he t (i - es)]
      have e1 : i / es = (i - es) / es + 1:=by rw [Nat.div_eq_sub_div he h]
      have e2 : i % es = (i - es) % es:=Nat.mod_eq_sub_mod h
      rw [e1,e2]
      rfl
theorem flatMap_len {α β : Type} {g : α → List β} {es : Nat} (hg : ∀ x,(g x).length = es) : ∀ (xs : List α),(xs.flatMap g).length = xs.length * es
  | []=>by simp
  | x :: t=>by rw [List.flatMap_cons,List.length_append,hg,flatMap_len hg t,List.length_cons,Nat.add_mul];omega
theorem flatMap_map {α : Type} {f : α → List TV} {g : α → List Value} (hf : ∀ x,f x = (g x).map .v) : ∀ (xs : List α),(xs.map f).flatten = (xs.flatMap g).map .v
  | []=>rfl
  | x :: t=>by rw [List.map_cons,List.flatten_cons,flatMap_map hf t,List.flatMap_cons,List.map_append,hf]
theorem choose_list {α : Type} {Q : Nat → α → Prop} : ∀ n,(∀ i,i < n → ∃ x,Q i x) → ∃ xs : List α,xs.length = n ∧ ∀ (i : Nat) x,xs[i]? = some x → Q i x
  | 0,_=>⟨[],rfl,fun i x h=>by simp at h⟩
  | n + 1,h=>by
    obtain ⟨xs,hl,hq⟩:=choose_list n (fun i hi=>h i (by omega))
    obtain ⟨x,hx⟩:=h n (by omega)
    refine ⟨xs ++ [x],by simp [hl],fun i y hy=>?_⟩
    rcases Nat.lt_or_ge i n with hi|hi
    · rw [List.getElem?_append_left (by omega)] at hy
      exact hq i y hy
    · rw [List.getElem?_append_right (by omega),hl] at hy
      have : i = n:=by
        rcases Nat.lt_or_ge 0 (i - n) with g|g
        · rw [List.getElem?_eq_none (by simp;omega)] at hy;cases hy
        · omega
      subst this
      simp at hy
      subst hy
      exact hx
section
variable {H : Type} {enc : TypeId × Value → H} {W : World} {base : Nat} {spare : Nat → Bool} {held : Bool}
theorem open_rowsC {α : Type} {f : α → List TV} {g : α → List Value} {es : Nat} (he : 0 < es) (hf : ∀ x, f x = (g x).map .v) (hg : ∀ x, (g x).length = es) (hat : ∀ x, ∀ c ∈ g x, AtomV c)
    {P : Program} {t te : TypeId} (ht : P.underlying t = some (.slice te)) (hC : P.cellsOf te = es) {r : Reach} {b0 : Nat} {v' : Value} (hval : Cell.okWide P W r b0 t v')
    (elem : ∀ n cs y,DataW.trod enc P W base spare held n te cs = some y → cs.length = es → ∃ x : α,cs = g x)
    {fuel : Nat} {x : DataW H × List MemPlace} (h : DataW.trod enc P W base spare held fuel t [v'] = some x) : ∃ (xs : List α) (bs : List Blk) (is : List Info) (av : Nat → Value),Arg W v' (.list es (xs.map f)) bs is av:=by
  rcases DataW.trod_slice ht h with ⟨hv,_⟩|⟨a,len,cap,elems,rest,n,_,hv,_,hb,hlc,hcm,hel,hel2,_,_⟩
  · obtain rfl : v' = .slice none 0 0:=by simpa using hv
    exact ⟨[],[],[],fun _=>.slice none 0 0,fun _ _ _ _ _=>.nilSlice 0 0,fun _ _ _ _ _=>.nillist _ _,fun _ _ _ _ _ j b h=>by simp at h,fun j b i h=>by simp at h,rfl⟩
  · obtain rfl : v' = .slice (some a) len cap:=by simpa using hv
    have hok : len ≤ cap ∧ (cap : Int) ≤ IntKind.i64.max ∧ W.has P r b0 a te cap:=by
      unfold Cell.okWide at hval
      simp only [ht] at hval
      unfold Cell.ok at hval
      simpa only [ht] using hval
    obtain ⟨gb,o,s⟩:=a
    obtain ⟨_,_,_,hs,row,cells,hsh,_⟩:=hok
    simp only at hs hsh
    subst hs
    have hgb : gb < W.heap.size:=by
      unfold World.shape? at hsh
      rcases Nat.lt_or_ge gb W.heap.size with hg|hg
      · exact hg
      · rw [Array.getElem?_eq_none hg] at hsh
        simp at hsh
    have key : ∀ i,i < len → ∃ x : α,∀ j,j < es → W.cell? ⟨gb,o + i * es + j,none⟩ = (g x)[j]?:=fun i hi=>by
      have h1:=hel2 i hi
      rw [List.getElem?_eq_getElem (by omega),Option.bind_eq_some_iff] at h1
      obtain ⟨cs,hcs,htr⟩:=h1
      rw [hC] at hcs
      unfold World.cells? at hcs
      split at hcs
      · have hlen:=mapM_some_length hcs
        simp at hlen
        obtain ⟨x,rfl⟩:=elem n cs _ htr hlen
        refine ⟨x,fun j hj=>?_⟩
        have:=mapM_some_get hcs j j (by simp [hj])
        have e : ((⟨gb,o,none⟩ : Addr).add (i * es)).add j = ⟨gb,o + i * es + j,none⟩:=by
          unfold Addr.add
          split<;>split<;>simp_all
        rw [← e]
        exact this
      · cases hcs
    obtain ⟨xs,hl,hq⟩:=choose_list len key
    subst hl
    have hlen:=flatMap_len hg xs
    have hfl:=flatMap_map hf xs
    refine ⟨xs,[.cells es (xs.flatMap g)],[⟨gb,o,cap * es,es⟩],fun n=>.slice (some ⟨n,0,none⟩) xs.length xs.length,fun D m n hD hm=>?_,fun Fz h n hF hh=>?_,fun D m n hD hm j b hb=>?_,fun j b i hb hi hd=>?_,rfl⟩
    · have e:=hm 0 _ rfl
      rw [Nat.add_zero] at e
      have:=VR.slice (D:=D) (m:=m) n 0 xs.length xs.length cap (hD 0 (by simp)) (Nat.le_refl _) hlc (.inr (by rw [e];simp))
      rw [e] at this
      exact this
    · have hw : ∀ r ∈ xs.map f,r.length = es:=fun r hr=>by obtain ⟨x,_,rfl⟩:=List.mem_map.1 hr;rw [hf,List.length_map,hg]
      have:=VL.list (Fz:=Fz) (h:=h) noL es (xs.map f) n 0 xs.length (xs.flatMap g) es (hF 0 (by simp)) (hh 0 _ rfl) (.inl rfl) hw (by simp) (by rw [List.length_map,hlen];omega) (fun j p x hp hx=>by
        rw [hfl,List.getElem?_map,Option.map_eq_some_iff] at hp
        rw [Nat.zero_add] at hx
        obtain ⟨y,h1,rfl⟩:=hp
        obtain rfl : y = x:=Option.some.inj (h1.symm.trans hx)
        obtain ⟨z,_,hz⟩:=List.mem_flatMap.1 (List.mem_of_getElem? hx)
        exact .v _ _ (hat z y hz).1)
      rw [List.length_map] at this
      exact this
    · match j,hb with
      | 0,hb =>
        obtain rfl:=Option.some.inj hb
        have e:=hm 0 _ rfl
        rw [Nat.add_zero] at e ⊢
        refine ⟨by rw [e],fun i v hv=>⟨v,?_,?_⟩⟩
        · rw [flatMap_at hg he,Option.bind_eq_some_iff] at hv
          obtain ⟨x,hx,hv⟩:=hv
          rw [e]
          have:=hq _ x hx (i % es) (Nat.mod_lt _ he)
          rw [Nat.add_assoc,Nat.mul_comm,Nat.div_add_mod] at this
          rw [this]
          exact hv
        · obtain ⟨z,_,hz⟩:=List.mem_flatMap.1 (List.mem_of_getElem? hv)
          exact (hat z v hz).2 _ _
      | j + 1,hb=>simp at hb
    · match j,hb,hi with
      | 0, hb, hi => obtain rfl := Option.some.inj hi
                     exact hgb
      | j + 1,hb,hi=>simp at hb
/-! ### aggregates of ints -/
def AI (cs : List Value) : Prop:=∀ c ∈ cs,∃ n : Int,c = .int .i64 n
theorem AI.list {cs : List Value} (h : AI cs) : ∃ l : List Int,cs = l.map (.int .i64):=by
  induction cs with
  | nil=>exact ⟨[],rfl⟩
  | cons c t ih =>
    obtain ⟨n,rfl⟩:=h c (by simp)
    obtain ⟨l,rfl⟩:=ih fun c hc=>h c (by simp [hc])
    exact ⟨n :: l,rfl⟩
variable {P : Program}
theorem ai_int {te : TypeId} (ht : P.underlying te = some (.int .i64)) {fuel : Nat} {cs : List Value} {x : DataW H × List MemPlace} (h : DataW.trod enc P W base spare held fuel te cs = some x) : AI cs:=by
  obtain ⟨n,rfl,_⟩:=DataW.trod_int ht h
  exact fun c hc=>⟨n,by simpa using hc⟩
theorem ai_struct {t : TypeId} {fs : Array Field} (ht : P.underlying t = some (.struct fs)) (hcov : ((List.range (P.cellsOf t)).all fun j => fs.toList.any fun f => decide (f.offset ≤ j) && decide (j < f.offset + P.cellsOf f.type)) = true) (he : ∀ f ∈ fs.toList, ∀ n cs y, DataW.trod enc P W base spare held n f.type cs = some y → AI cs)
    {fuel : Nat} {cs : List Value} {x : DataW H × List MemPlace} (h : DataW.trod enc P W base spare held fuel t cs = some x) : AI cs:=by
  obtain ⟨xs,n,_,_,hl,hx,hi⟩:=DataW.trod_struct ht h
  intro c hcm
  obtain ⟨j,hj,rfl⟩:=List.mem_iff_getElem.1 hcm
  rw [hl] at hj
  have:=List.all_eq_true.1 hcov j (by simpa using hj)
  obtain ⟨f,hf,hf2⟩:=List.any_eq_true.1 this
  simp only [Bool.and_eq_true,decide_eq_true_eq] at hf2
  obtain ⟨i,hil,hif⟩:=List.mem_iff_getElem.1 hf
  have hfi : fs[i]? = some f:=by rw [← Array.getElem?_toList,List.getElem?_eq_getElem hil,hif]
  have h1:=hi i f hfi
  have hil2 : i < fs.size:=by simpa using hil
  rw [List.getElem?_eq_getElem (by omega)] at h1
  refine he f hf _ _ _ h1 _ ?_
  refine List.mem_of_getElem? (i:=j - f.offset) ?_
  rw [List.getElem?_take,if_pos (by omega),List.getElem?_drop,show f.offset + (j - f.offset) = j by omega,List.getElem?_eq_getElem]
theorem okW_int {t : TypeId} (ht : P.underlying t = some (.int .i64)) {r : Reach} {b : Nat} {v : Value} (w : Cell.okWide P W r b t v) : ∃ n : Int,v = .int .i64 n:=by
  unfold Cell.okWide at w
  simp only [ht] at w
  unfold Cell.ok at w
  simp only [ht] at w
  cases v<;>first|exact ⟨_,by rw [w.1]⟩|exact absurd w (by simp)
theorem open_int {t : TypeId} (ht : P.underlying t = some (.int .i64)) {r : Reach} {b : Nat} {v : Value} (w : Value.okWide P W r b t v) : ∃ n : Int,v = .int .i64 n:=by
  unfold Value.okWide at w
  simp only [ht] at w
  exact okW_int ht w
theorem open_cells {t : TypeId} {fs : Array Field} {ts : List TypeId} (ht : P.underlying t = some (.struct fs)) (hct : P.cellTypes P.depth t = some ts) (hn : P.cellsOf t = ts.length) {r : Reach} {b : Nat} {v : Value} (w : Value.okWide P W r b t v) :
    ∃ cs : List Value,v = .agg ⟨cs⟩ ∧ cs.length = ts.length ∧ ∀ (j : Nat) c u,cs[j]? = some c → ts[j]? = some u → Cell.okWide P W r b u c:=by
  unfold Value.okWide at w
  simp only [ht] at w
  obtain ⟨cs,rfl,hs,ts',hts,_,hc⟩:=w
  rw [hct] at hts
  obtain rfl:=Option.some.inj hts
  obtain ⟨l⟩:=cs
  have hl : l.length = ts.length:=by simpa [hn] using hs
  refine ⟨l,rfl,hl,fun j c u hj hu=>?_⟩
  obtain ⟨u',hu',hok⟩:=hc j c (by simpa using hj)
  rw [Nat.mod_eq_of_lt (by have:=(List.getElem?_eq_some_iff.1 hj).1;omega)] at hu'
  obtain rfl:=Option.some.inj (hu.symm.trans hu')
  exact hok
theorem st_field {t : TypeId} {fs : Array Field} {i : Nat} {f : Field} (ht : P.underlying t = some (.struct fs)) (hf : fs[i]? = some f) {fuel : Nat} {cs : List Value} {x : DataW H × List MemPlace} (h : DataW.trod enc P W base spare held fuel t cs = some x) :
    ∃ n y,DataW.trod enc P W base spare held n f.type ((cs.drop f.offset).take (P.cellsOf f.type)) = some y:=by
  obtain ⟨xs,n,_,_,hl,hx,hi⟩:=DataW.trod_struct ht h
  have:=hi i f hf
  have hil : i < fs.size:=(Array.getElem?_eq_some_iff.1 hf).1
  rw [List.getElem?_eq_getElem (by omega)] at this
  exact ⟨n,_,this⟩
end
end Go.Rex

namespace Go.Rex
open Go Go.ChangeShapes Go.WideShapes Go.ChangeAt Go.RowKit Go.Joins Go.Proofs
/-! ### arguments whose blocks name one another: lists of lists -/
structure NArg (W : World) (v' : Value) (p : TV) (bs : Nat → List Blk) (is : List Info) (av : Nat → Value) : Prop where
  vr : ∀ (D : Nat → Prop) (m : NMap) n,(∀ j,j < is.length → D (n + j)) → (∀ (j : Nat) i,is[j]? = some i → m (n + j) = i) → VR D m (av n) v'
  vl : ∀ (Fz : Nat → Prop) (h : List Blk) n,(∀ j,j < is.length → Fz (n + j)) → (∀ (j : Nat) b,(bs n)[j]? = some b → h[n + j]? = some b) → VL Fz h noL p (av n)
  ok : ∀ (D : Nat → Prop) (m : NMap) n,(∀ j,j < is.length → D (n + j)) → (∀ (j : Nat) i,is[j]? = some i → m (n + j) = i) → ∀ (j : Nat) b,(bs n)[j]? = some b → BlkOk D m W (n + j) b
  lt : ∀ n (j : Nat) b i,(bs n)[j]? = some b → is[j]? = some i → b ≠ .dead → i.block < W.heap.size
  len : ∀ n,(bs n).length = is.length
structure NArgs (W : World) (vs' : List Value) (ps : List TV) (bs : Nat → List Blk) (is : List Info) (av : Nat → List Value) : Prop where
  vr : ∀ (D : Nat → Prop) (m : NMap) n,(∀ j,j < is.length → D (n + j)) → (∀ (j : Nat) i,is[j]? = some i → m (n + j) = i) → VRs D m (av n) vs'
  vl : ∀ (Fz : Nat → Prop) (h : List Blk) n,(∀ j,j < is.length → Fz (n + j)) → (∀ (j : Nat) b,(bs n)[j]? = some b → h[n + j]? = some b) → VLs Fz h noL ps (av n)
  ok : ∀ (D : Nat → Prop) (m : NMap) n,(∀ j,j < is.length → D (n + j)) → (∀ (j : Nat) i,is[j]? = some i → m (n + j) = i) → ∀ (j : Nat) b,(bs n)[j]? = some b → BlkOk D m W (n + j) b
  lt : ∀ n (j : Nat) b i,(bs n)[j]? = some b → is[j]? = some i → b ≠ .dead → i.block < W.heap.size
  len : ∀ n,(bs n).length = is.length
theorem Arg.n {W : World} {v' : Value} {p : TV} {bs : List Blk} {is : List Info} {av : Nat → Value} (a : Arg W v' p bs is av) : NArg W v' p (fun _=>bs) is av :=
  ⟨fun D m n hD hm=>a.vr D m n (by rw [← a.len];exact hD) hm,fun Fz h n hF hh=>a.vl Fz h n (by rw [← a.len];exact hF) hh,fun D m n hD hm=>a.ok D m n (by rw [← a.len];exact hD) hm,fun _=>a.lt,fun _=>a.len.symm⟩
theorem NArgs.nil (W : World) : NArgs W [] [] (fun _=>[]) [] (fun _=>[]) :=
  ⟨fun _ _ _ _ _=>⟨rfl,fun i a a' h=>by simp at h⟩,fun _ _ _ _ _=>.nil,fun _ _ _ _ _ j b h=>by simp at h,fun _ j b i h=>by simp at h,fun _=>rfl⟩
theorem NArgs.cons {W : World} {v' : Value} {p : TV} {bs bs2 : Nat → List Blk} {is is2 : List Info} {av : Nat → Value} {vs' : List Value} {ps : List TV} {avs : Nat → List Value}
    (a : NArg W v' p bs is av) (az : NArgs W vs' ps bs2 is2 avs) : NArgs W (v' :: vs') (p :: ps) (fun n=>bs n ++ bs2 (n + is.length)) (is ++ is2) (fun n=>av n :: avs (n + is.length)):=by
  have cD : ∀ (D : Nat → Prop) n,(∀ j,j < (is ++ is2).length → D (n + j)) → (∀ j,j < is.length → D (n + j)) ∧ (∀ j,j < is2.length → D (n + is.length + j)):=by
    intro D n h
    refine ⟨fun j hj=>h j (by simp;omega),fun j hj=>?_⟩
    have:=h (is.length + j) (by simp;omega)
    rwa [← Nat.add_assoc] at this
  have cI : ∀ (m : NMap) n,(∀ (j : Nat) i,(is ++ is2)[j]? = some i → m (n + j) = i) → (∀ (j : Nat) i,is[j]? = some i → m (n + j) = i) ∧ (∀ (j : Nat) i,is2[j]? = some i → m (n + is.length + j) = i):=by
    intro m n h
    refine ⟨fun j i hj=>h j i (by rw [List.getElem?_append_left (List.getElem?_eq_some_iff.1 hj).1];exact hj),fun j i hj=>?_⟩
    have:=h (is.length + j) i (by rw [List.getElem?_append_right (by omega),Nat.add_sub_cancel_left];exact hj)
    rwa [← Nat.add_assoc] at this
  refine ⟨fun D m n hD hm=>?_,fun Fz h n hF hh=>?_,fun D m n hD hm j b hb=>?_,fun n j b i hb hi hd=>?_,fun n=>by simp [a.len,az.len]⟩
  · have h1:=a.vr D m n (cD D n hD).1 (cI m n hm).1
    have h2:=az.vr D m (n + is.length) (cD D n hD).2 (cI m n hm).2
    refine ⟨by simp [h2.len],fun i x x' hx hx'=>?_⟩
    cases i with
    | zero=>simp at hx hx';subst hx hx';exact h1
    | succ i=>simp at hx hx';exact h2.at' i x x' hx hx'
  · refine .cons (a.vl Fz h n (cD Fz n hF).1 fun j b hb=>hh j b (by rw [List.getElem?_append_left (List.getElem?_eq_some_iff.1 hb).1];exact hb)) (az.vl Fz h (n + is.length) (cD Fz n hF).2 fun j b hb=>?_)
    have:=hh (is.length + j) b (by rw [List.getElem?_append_right (by rw [a.len];omega),a.len,Nat.add_sub_cancel_left];exact hb)
    rwa [← Nat.add_assoc] at this
  · rcases Nat.lt_or_ge j is.length with hj|hj
    · rw [List.getElem?_append_left (by rw [a.len];exact hj)] at hb
      exact a.ok D m n (cD D n hD).1 (cI m n hm).1 j b hb
    · rw [List.getElem?_append_right (by rw [a.len];exact hj),a.len] at hb
      have:=az.ok D m (n + is.length) (cD D n hD).2 (cI m n hm).2 _ b hb
      rwa [show n + is.length + (j - is.length) = n + j by omega] at this
  · rcases Nat.lt_or_ge j is.length with hj|hj
    · rw [List.getElem?_append_left (by rw [a.len];exact hj)] at hb
      rw [List.getElem?_append_left hj] at hi
      exact a.lt n j b i hb hi hd
    · rw [List.getElem?_append_right (by rw [a.len];exact hj),a.len] at hb
      rw [List.getElem?_append_right hj] at hi
      exact az.lt _ _ b i hb hi hd
section
variable {W : World} {vs' : List Value} {ps : List TV} {bs : Nat → List Blk} {is : List Info} {av : Nat → List Value}
/-- the names of the variables of packages come first -/
def gnm (is : List Info) : NMap:=fun k=>if k < NG then gm k else is.getD (k - NG) ⟨0,0,0,0⟩
theorem gnm_at {is : List Info} {j : Nat} {i : Info} (h : is[j]? = some i) : gnm is (NG + j) = i:=by
  unfold gnm
  rw [if_neg (by omega),Nat.add_sub_cancel_left,List.getD_eq_getElem?_getD,h]
  rfl
theorem gh_len : GH.length = NG:=rfl
theorem NArgs.rel (a : NArgs W vs' ps bs is av) (hw : GW W) (hs : NG ≤ W.heap.size) : Rel W.heap.size (GH ++ bs NG).length (fun k=>k < (GH ++ bs NG).length) (gnm is) (GH ++ bs NG) W:=by
  have hl:=a.len NG
  have hn : (GH ++ bs NG).length = NG + is.length:=by rw [List.length_append,gh_len,hl]
  have old : ∀ k,k < NG → gnm is k = gm k:=fun k hk=>if_pos hk
  have parts : ∀ n b,n < (GH ++ bs NG).length → (GH ++ bs NG)[n]? = some b → (n < NG ∧ GH[n]? = some b) ∨ ∃ j,n = NG + j ∧ (bs NG)[j]? = some b:=by
    intro n b hn' hb
    rcases Nat.lt_or_ge n NG with h|h
    · rw [List.getElem?_append_left h] at hb;exact .inl ⟨h,hb⟩
    · rw [List.getElem?_append_right h,gh_len] at hb;exact .inr ⟨n - NG,by omega,hb⟩
  have st:=Rel.start W hw hs
  have lt : ∀ n b,n < (GH ++ bs NG).length → (GH ++ bs NG)[n]? = some b → b ≠ .dead → (gnm is n).block < W.heap.size:=by
    intro n b hn' hb hd
    rcases parts n b hn' hb with ⟨h1,h2⟩|⟨j,rfl,h2⟩
    · rw [old n h1];exact st.lt n b h1 h2 hd
    · have hj : j < is.length:=by omega
      rw [gnm_at (List.getElem?_eq_getElem hj)]
      exact a.lt NG j b _ h2 (List.getElem?_eq_getElem hj) hd
  refine ⟨Nat.le_refl _,fun _ h=>h,fun n b hn' hb=>?_,lt,fun n b hD hl=>absurd hD (by omega),fun n b hn' _ hb hd=>lt n b hn' hb hd,fun n b hD hl=>absurd hD (by omega),fun n n' b b' hD _ hl=>absurd hD (by omega),⟨fun g hg=>⟨?_,?_⟩,hs,hw⟩⟩
  · rcases parts n b hn' hb with ⟨h1,h2⟩|⟨j,rfl,h2⟩
    · exact (st.ok n b h1 h2).mono (fun k hk=>by have hk' : k < NG:=hk;show k < (GH ++ bs NG).length;omega) (fun k hk=>old k hk) (old n h1)
    · exact a.ok (fun k=>k < (GH ++ bs NG).length) (gnm is) NG (fun j hj=>by omega) (fun j i hi=>gnm_at hi) j b h2
  · show g < (GH ++ bs NG).length;omega
  · rw [old g hg];exact gm_at g
theorem NArgs.vls (a : NArgs W vs' ps bs is av) : VLs (fun k=>k < (GH ++ bs NG).length) (GH ++ bs NG) noL ps (av NG):=by
  have hn : (GH ++ bs NG).length = NG + is.length:=by rw [List.length_append,gh_len,a.len NG]
  exact a.vl _ _ NG (fun j hj=>by omega) (fun j b hb=>by rw [List.getElem?_append_right (by rw [gh_len];omega),gh_len,Nat.add_sub_cancel_left];exact hb)
theorem NArgs.vrs (a : NArgs W vs' ps bs is av) : VRs (fun k=>k < (GH ++ bs NG).length) (gnm is) (av NG) vs':=by
  have hn : (GH ++ bs NG).length = NG + is.length:=by rw [List.length_append,gh_len,a.len NG]
  exact a.vr _ _ NG (fun j hj=>by omega) (fun j i hi=>gnm_at hi)
theorem NArg.ofArgs (a : NArgs W vs' ps bs is av) : NArg W (.agg ⟨vs'⟩) (.agg ps) bs is (fun n=>.agg ⟨av n⟩) :=
  ⟨fun D m n hD hm=>.agg' (a.vr D m n hD hm),fun Fz h n hF hh=>.agg' (a.vl Fz h n hF hh),a.ok,a.lt,a.len⟩
end
section
variable {H : Type} {enc : TypeId × Value → H} {W : World} {base : Nat} {spare : Nat → Bool} {held : Bool}
end

section
variable {H : Type} {enc : TypeId × Value → H} {W : World} {base : Nat} {spare : Nat → Bool} {held : Bool}
end
end Go.Rex

open Go Go.Rex Go.Proofs
namespace Go.Rex
/-! ### what a row's listed variables hold,cell by cell -/
section
variable {P : Program} {w : World}
theorem listed_at : ∀ {l : List (String × DataW Unit)} {ps : List MemPlace}, DataW.LaidVars P w l ps → ∀ {n : String} {d : DataW Unit}, (n, d) ∈ l →
    ∃ g t cs fuel p,P.globalNamed n = some g ∧ (P.globals[g]?).map (·.type) = some t ∧ w.var? P n = some cs ∧ DataW.trod (fun _=>()) P w 0 (fun _=>true) false fuel t cs.toList = some (d,p)
  | [],_,_,_,_,hm=>by cases hm
  | (a,b) :: r,_,h,n,d,hm=>by
    obtain ⟨g,t,cs,fuel,p,q,h1,h2,h3,h4,h5,_⟩:=h
    rcases List.mem_cons.1 hm with e|e
    · cases e;exact ⟨g,t,cs,fuel,p,h1,h2,h3,h4⟩
    · exact listed_at h5 e
/-- the cells of data that hold no names, part after part -/
def catC (P : Program) (f : TypeId → DataW Unit → Option (List Value)) : List (TypeId × DataW Unit) → Option (List Value)
  | []=>some []
  | (t,d) :: r=>match f t d,catC P f r with
    | some a,some b=>some (a ++ b)
    | _,_=>none
def offsC (P : Program) : Nat → List Field → Option Nat
  | o,[]=>some o
  | o,f :: r=>if f.offset = o then offsC P (o + P.cellsOf f.type) r else none
def flatC (P : Program) : Nat → TypeId → DataW Unit → Option (List Value)
  | 0,_,_=>none
  | n + 1,t,d=>match P.underlying t,d with
    | some (.int k),.lit (.int _ z)=>some [.int k z]
    | some (.array m e),.agg ds=>if ds.length = m ∧ P.cellsOf t = m * P.cellsOf e then catC P (flatC P n) (ds.map fun d=>(e,d)) else none
    | some (.struct fs),.agg ds=>if ds.length = fs.size ∧ offsC P 0 fs.toList = some (P.cellsOf t) then catC P (flatC P n) ((fs.toList.map (·.type)).zip ds) else none
    | _,_=>none
abbrev RdC (P : Program) (w : World) (t : TypeId) (d : DataW Unit) (r : List Value) : Prop:=∃ fuel p,DataW.trod (fun _=>()) P w 0 (fun _=>true) false fuel t r = some (d,p)
theorem cat_eq {f : TypeId → DataW Unit → Option (List Value)} (hf : ∀ t d cs, f t d = some cs → ∀ r, RdC P w t d r → r = cs) : ∀ (l : List (TypeId × DataW Unit)) (cs r : List Value) (pos : Nat → Nat), catC P f l = some cs →
    (∀ i t d,l[i]? = some (t,d) → RdC P w t d ((r.drop (pos i)).take (P.cellsOf t)) ∧ pos (i + 1) = pos i + P.cellsOf t) → r.length = pos l.length → r.drop (pos 0) = cs
  | [],cs,r,pos,h,_,hl=>by
    cases h
    exact List.drop_eq_nil_of_le (by rw [hl];exact Nat.le_refl _)
  | (t,d) :: l,cs,r,pos,h,ha,hl=>by
    unfold catC at h
    split at h
    · rename_i a b e1 e2
      cases h
      obtain ⟨h1,h2⟩:=ha 0 t d rfl
      have k1:=hf t d a e1 _ h1
      have k2:=cat_eq hf l b r (fun i=>pos (i + 1)) e2 (fun i t d hi=>ha (i + 1) t d (by simpa using hi)) (by simpa using hl)
      rw [h2,← List.drop_drop] at k2
      rw [← List.take_append_drop (P.cellsOf t) (r.drop (pos 0)),k1,k2]
    · cases h
theorem offs_pos : ∀ (fs : List Field) (o e : Nat),offsC P o fs = some e → ∃ pos : Nat → Nat,pos 0 = o ∧ pos fs.length = e ∧ ∀ i f,fs[i]? = some f → f.offset = pos i ∧ pos (i + 1) = pos i + P.cellsOf f.type
  | [],o,e,h=>by cases h;exact ⟨fun _=>o,rfl,rfl,fun i f hf=>by simp at hf⟩
  | f :: r,o,e,h=>by
    unfold offsC at h
    split at h
    · rename_i ho
      obtain ⟨pos,h1,h2,h3⟩:=offs_pos r _ _ h
      refine ⟨fun|0=>o|i + 1=>pos i,rfl,h2,fun i g hg=>?_⟩
      cases i with
      | zero=>cases hg;exact ⟨ho,h1⟩
      | succ i=>exact h3 i g (by simpa using hg)
    · cases h
theorem flat_eq : ∀ (n : Nat) (t : TypeId) (d : DataW Unit) (cs : List Value),flatC P n t d = some cs → ∀ r,RdC P w t d r → r = cs:=by
  intro n
  induction n with
  | zero=>intro t d cs h;cases h
  | succ n ih =>
    intro t d cs h r ⟨fuel,p,hr⟩
    unfold flatC at h
    split at h
    · rename_i k k' z hu
      cases h
      obtain ⟨z',e1,e2,_⟩:=DataW.trod_int hu hr
      simp only [Prod.mk.injEq,DataW.lit.injEq,Lit.int.injEq] at e2
      rw [e1,e2.1.2]
    · rename_i m e ds hu
      split at h
      · rename_i hc
        obtain ⟨xs,m',_,e2,e3,e4,e5⟩:=DataW.trod_array hu hr
        simp only [Prod.mk.injEq,DataW.agg.injEq] at e2
        have:=cat_eq (w:=w) ih (ds.map fun d=>(e,d)) cs r (fun i=>i * P.cellsOf e) h (fun i t' d' hi=>by
          rw [List.getElem?_map,Option.map_eq_some_iff] at hi
          obtain ⟨x,hx,hh⟩:=hi
          simp only [Prod.mk.injEq] at hh
          obtain ⟨rfl,rfl⟩:=hh
          have hlt:=(List.getElem?_eq_some_iff.1 hx).1
          have hi5:=e5 i (by omega)
          rw [e2.1,List.getElem?_map,Option.map_eq_some_iff] at hx
          obtain ⟨y,hy,rfl⟩:=hx
          rw [hy] at hi5
          exact ⟨⟨_,_,hi5⟩,by rw [Nat.add_mul,Nat.one_mul]⟩) (by rw [List.length_map,hc.1,← hc.2];exact e3)
        simpa using this
      · cases h
    · rename_i fs ds hu
      split at h
      · rename_i hc
        obtain ⟨xs,m',_,e2,e3,e4,e5⟩:=DataW.trod_struct hu hr
        simp only [Prod.mk.injEq,DataW.agg.injEq] at e2
        obtain ⟨pos,p0,p1,p2⟩:=offs_pos _ _ _ hc.2
        have:=cat_eq (w:=w) ih ((fs.toList.map (·.type)).zip ds) cs r pos h (fun i t' d' hi=>by
          rw [List.getElem?_zip_eq_some,List.getElem?_map,Option.map_eq_some_iff] at hi
          obtain ⟨⟨f,hf,rfl⟩,hx⟩:=hi
          have hfs : fs[i]? = some f:=by simpa using hf
          have hi5:=e5 i f hfs
          obtain ⟨q1,q2⟩:=p2 i f hf
          rw [e2.1,List.getElem?_map,Option.map_eq_some_iff] at hx
          obtain ⟨y,hy,rfl⟩:=hx
          rw [hy,q1] at hi5
          exact ⟨⟨_,_,hi5⟩,q2⟩) (by
          have : ((fs.toList.map (·.type)).zip ds).length = fs.toList.length:=by simp [hc.1]
          rw [this,p1];exact e3)
        rw [p0] at this
        simpa using this
      · cases h
    · cases h
theorem listed_cells {l : List (String × DataW Unit)} (h : laidMet P l w) {n : String} {d : DataW Unit} (hm : (n, d) ∈ l) {g : Nat} {t : TypeId} {cs : List Value} (hg : P.globalNamed n = some g) (hty : (P.globals[g]?).map (·.type) = some t) (hf : flatC P 10 t d = some cs) :
    ∀ (i : Nat) v,cs[i]? = some v → w.cell? ⟨g,i,none⟩ = some v:=by
  obtain ⟨ps,hv,_⟩:=h
  obtain ⟨g',t',cs',fuel,p,h1,h2,h3,h4⟩:=listed_at hv hm
  obtain rfl:=Option.some.inj (hg.symm.trans h1)
  obtain rfl:=Option.some.inj (hty.symm.trans h2)
  have e:=flat_eq (w:=w) 10 _ _ _ hf _ ⟨_,_,h4⟩
  intro i v hi
  rw [World.var?_cell h1 h3]
  rw [← e] at hi
  simpa using hi
end
/-- what is known of the variables, one after the other -/
def AllC (w : World) : Nat → List (Nat × List Value) → Prop
  | _,[]=>True
  | g,p :: r=>(∀ (i : Nat) v,p.2[i]? = some v → w.cell? ⟨g,i,none⟩ = some v) ∧ AllC w (g + 1) r
theorem allC_at {w : World} : ∀ (l : List (Nat × List Value)) (g k : Nat) (p : Nat × List Value),AllC w g l → l[k]? = some p → ∀ (i : Nat) v,p.2[i]? = some v → w.cell? ⟨g + k,i,none⟩ = some v
  | [],_,_,_,_,h=>by simp at h
  | q :: r,g,0,p,h,hk=>by cases hk;exact h.1
  | q :: r,g,k + 1,p,h,hk=>by
    have:=allC_at r (g + 1) k p h.2 (by simpa using hk)
    rw [show g + (k + 1) = g + 1 + k by omega]
    exact this
theorem noCells {w : World} {g : Nat} : ∀ (i : Nat) v,([] : List Value)[i]? = some v → w.cell? ⟨g,i,none⟩ = some v:=fun i v h=>by simp at h
theorem gh_size {w : World} {g : Nat} {v : Value} (h : w.cell? ⟨g,0,none⟩ = some v) : g < w.heap.size:=by
  unfold World.cell? at h
  rcases Nat.lt_or_ge g w.heap.size with q|q
  · exact q
  · rw [Array.getElem?_eq_none q] at h
    simp at h
theorem gw_all {w : World} (h : AllC w 0 ghCells) : GW w:=fun g es c hg i v hv=>by
  unfold GH at hg
  rw [List.getElem?_map,Option.map_eq_some_iff] at hg
  obtain ⟨p,hp,e⟩:=hg
  cases e
  have:=allC_at ghCells 0 g p h hp i v hv
  rwa [Nat.zero_add] at this
end Go.Rex
