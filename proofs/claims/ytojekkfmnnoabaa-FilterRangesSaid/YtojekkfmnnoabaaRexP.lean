/- An executor of the program's functions on trees of values, proved sound. -/
import Derived.Test.YtojekkfmnnoabaaRexO
import Derived.Test.YtojekkfmnnoabaaRexL5
set_option linter.unusedSimpArgs false
set_option linter.unusedVariables false
set_option linter.defProp false
namespace Go.Rex
open Go.RowKit

theorem ctx_sound {P : Program} (hm : P.follows .mixedOrders = true) (k d : Nat) : CtxOk P (ctx P k d) :=
  ctx_ok (fun _ hC {_ _ _ _ _ _ _} hv {_ _ _ _ _ _ _ _ _} hr hlo hA hw hQ => drawSound hC hm hv hr hlo hA hw hQ) k d

/-- a call that the executor carries out, in whatever world -/
theorem calls_of_ecall {P : Program} (hm : P.follows .mixedOrders = true) {k d : Nat} {f : FuncId} {args : List Value} {h h' : List Blk} {v : Value} {wr : Option Nat} (hv : ecall P k d f args h = some (v, h', wr))
    {B lo : Nat} {D : Nat → Prop} {m : NMap} {w : World} {args' : List Value} (hr : Rel B lo D m h w) (hlo : lo ≤ h.length) (hw : WrOk lo wr) (hargs : VRs D m args args') : Calls P f ⟨args'⟩ w (Good B lo D m h w v h') :=
  (ctx_sound hm k d).call hv hr hlo hw hargs

theorem Rel.empty (w : World) (m : NMap) : Rel w.heap.size 0 (fun _ => False) m [] w :=
  ⟨Nat.le_refl _, fun _ h => h.elim, fun _ _ h => h.elim, fun _ _ h => h.elim, fun _ _ h => h.elim, fun _ _ h => h.elim, fun _ _ h => h.elim, fun _ _ _ _ h => h.elim⟩

def isTrue : AOut → Bool
  | some (.bool true, _, _) => true
  | _ => false
/-- a closed call that yields true -/
theorem true_of_ecall {P : Program} (hm : P.follows .mixedOrders = true) {k d : Nat} {f : FuncId} (hv : isTrue (ecall P k d f [] []) = true) (w : World) :
    Calls P f #[] w fun e w' => e = .returned (.bool true) ∧ Below w.heap.size w w' := by
  unfold isTrue at hv
  split at hv
  · rename_i h' wr hx
    refine (calls_of_ecall hm hx (Rel.empty w fun _ => ⟨0, 0, 0, 0⟩) (Nat.le_refl _) (fun n _ => Nat.zero_le n) (args' := []) VRs.nil).mono ?_
    rintro e w' ⟨v', m', rfl, hp, hvr⟩
    cases hvr
    exact ⟨rfl, hp.below⟩
  · cases hv
end Go.Rex
