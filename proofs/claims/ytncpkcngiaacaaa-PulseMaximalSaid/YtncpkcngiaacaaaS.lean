/- The functions of the program and of the reference, as functions of lists and numbers. -/
import Derived.Test.YtncpkcngiaacaaaRexG7
set_option linter.unusedSimpArgs false
set_option linter.unusedVariables false
set_option linter.defProp false
namespace Go.Rex
open Go Go.Rex
def e_i (x : Int) : List TV := [.v (.int .i64 x)]

end Go.Rex

namespace Go.Rex
open Go Go.Rex
noncomputable def base_CopyInts (v1 : (List Int)) : Option ((List Int)) :=
  (appI 8 ([] : List Int) v1).bind fun v3 =>
  some (v3)

end Go.Rex

namespace Go.Rex
open Go Go.Rex
noncomputable def ref04_Copy (v1 : Int) (v2 : (List Int)) : Option (Int × (List Int)) :=
  (base_CopyInts v2).bind fun v5 =>
  some (v1, v5)

end Go.Rex

namespace Go.Rex
open Go Go.Rex
noncomputable def pulse_refuse (v1 : Bool) (v2 : Int) : Option (Bool × Int) :=
  some (v1, v2)

end Go.Rex

namespace Go.Rex
open Go Go.Rex
noncomputable def pulse_within (v1 : Int) (v2 : Int) (v3 : Int) : Option (Bool × Int) :=
  if (decide (v1 < v2)) = true then
    ((pulse_refuse true 2).bind fun (v6, v7) =>
    some (v6, v7))
  else
    ((pulse_refuse (decide (v1 > v3)) 2).bind fun (v8, v9) =>
    some (v8, v9))

end Go.Rex

namespace Go.Rex
open Go Go.Rex
noncomputable def pulse_each_e53c (v1 : Int) (v2 : (List Int)) (v3 : Int) (v4 : Int) : Option (Int × (List Int) × Int × Int) :=
  some (v1, v2, v3, v4)

end Go.Rex

namespace Go.Rex
open Go Go.Rex
noncomputable def pulse_ascending (v1 : (List Int)) (v2 : Int) (v3 : Int) : Option (Int × (List Int) × Int × Int) :=
  (pulse_each_e53c (v1.length : Int) v1 v2 v3).bind fun (v8, v9, v10, v11) =>
  some (v8, v9, v10, v11)

end Go.Rex

namespace Go.Rex
open Go Go.Rex
noncomputable def slices_Index_int_int_l1 (v1 : (List Int)) (v2 : Int) : (Int) → Option ((Int) ⊕ ((Int) ⊕ (Unit))) := fun v4 =>
  if (decide (v4 < (v1.length : Int))) = true then
    ((getI v1 v4).bind fun v7 =>
    if (decide (v2 = v7)) = true then
      (some (.inr (.inl v4)))
    else
      (some (.inl (IntKind.i64.wrap (v4 + 1)))))
  else
    (some (.inr (.inr ())))
noncomputable def slices_Index_int_int (v1 : (List Int)) (v2 : Int) : Option (Int) :=
  (run (slices_Index_int_int_l1 v1 v2) 0).bind fun v8 => match v8 with
  | (.inl v9) =>
    some (v9)
  | (.inr _) =>
    some ((-1))

end Go.Rex

namespace Go.Rex
open Go Go.Rex
noncomputable def slices_Contains_int_int (v1 : (List Int)) (v2 : Int) : Option (Bool) :=
  (slices_Index_int_int v1 v2).bind fun v4 =>
  some ((decide (v4 ≥ 0)))

end Go.Rex

namespace Go.Rex
open Go Go.Rex
noncomputable def pulse_refuse_c1_11f9 (v1 : Bool) (v2 : Int) : Option (Int) :=
  if v1 = true then
    (some (v2))
  else
    (some (0))

end Go.Rex

namespace Go.Rex
open Go Go.Rex
noncomputable def pulse_firstError_9abe (v1 : Bool) (v2 : Int) (v3 : Bool) (v4 : Int) : Option (Int) :=
  (pulse_refuse_c1_11f9 v1 v2).bind fun v6 =>
  if (decide (v6 ≠ 0)) = true then
    (some (v6))
  else
    ((pulse_refuse_c1_11f9 v3 v4).bind fun v7 =>
    if (decide (v7 ≠ 0)) = true then
      (some (v7))
    else
      (some (0)))

end Go.Rex

namespace Go.Rex
open Go Go.Rex
noncomputable def pulse_ascending_c1_ea58 (v1 : Int) (v2 : (List Int)) (v3 : Int) (v4 : Int) : Option (Int) :=
  (getI v2 v1).bind fun v6 =>
  (pulse_within v6 v3 v4).bind fun (v7, v8) =>
  if (decide (v1 > 0)) = true then
    ((getI v2 (IntKind.i64.wrap (v1 - 1))).bind fun v9 =>
    (pulse_refuse (decide (v6 ≤ v9)) 9).bind fun (v10, v11) =>
    (pulse_firstError_9abe v7 v8 v10 v11).bind fun v12 =>
    some (v12))
  else
    ((pulse_refuse false 9).bind fun (v13, v14) =>
    (pulse_firstError_9abe v7 v8 v13 v14).bind fun v15 =>
    some (v15))

end Go.Rex

namespace Go.Rex
open Go Go.Rex
noncomputable def pulse_each_c1_4fde_l1 (v1 : Int) (v2 : (List Int)) (v3 : Int) (v4 : Int) : (Int) → Option ((Int) ⊕ ((Int) ⊕ (Unit))) := fun v6 =>
  if (decide (v6 < v1)) = true then
    ((pulse_ascending_c1_ea58 v6 v2 v3 v4).bind fun v9 =>
    if (decide (v9 ≠ 0)) = true then
      (some (.inr (.inl v9)))
    else
      (some (.inl (IntKind.i64.wrap (v6 + 1)))))
  else
    (some (.inr (.inr ())))
noncomputable def pulse_each_c1_4fde (v1 : Int) (v2 : (List Int)) (v3 : Int) (v4 : Int) : Option (Int) :=
  (run (pulse_each_c1_4fde_l1 v1 v2 v3 v4) 0).bind fun v10 => match v10 with
  | (.inl v11) =>
    some (v11)
  | (.inr _) =>
    some (0)

end Go.Rex

namespace Go.Rex
open Go Go.Rex
noncomputable def pulse_firstError_6869 (v1 : Bool) (v2 : Int) (v3 : Bool) (v4 : Int) (v5 : Int) (v6 : (List Int)) (v7 : Int) (v8 : Int) (v9 : Bool) (v10 : Int) : Option (Int) :=
  (pulse_refuse_c1_11f9 v1 v2).bind fun v12 =>
  if (decide (v12 ≠ 0)) = true then
    (some (v12))
  else
    ((pulse_refuse_c1_11f9 v3 v4).bind fun v13 =>
    if (decide (v13 ≠ 0)) = true then
      (some (v13))
    else
      ((pulse_each_c1_4fde v5 v6 v7 v8).bind fun v14 =>
      if (decide (v14 ≠ 0)) = true then
        (some (v14))
      else
        ((pulse_refuse_c1_11f9 v9 v10).bind fun v15 =>
        if (decide (v15 ≠ 0)) = true then
          (some (v15))
        else
          (some (0)))))

end Go.Rex

namespace Go.Rex
open Go Go.Rex
noncomputable def pulse_CheckRegister (v1 : Int) (v2 : (List Int)) : Option (Int) :=
  (pulse_within v1 2 8).bind fun (v4, v5) =>
  (pulse_refuse (decide ((v2.length : Int) = 0)) 10).bind fun (v6, v7) =>
  (pulse_ascending v2 1 v1).bind fun (v8, v9, v10, v11) =>
  (slices_Contains_int_int v2 v1).bind fun v12 =>
  (pulse_refuse (!v12) 6).bind fun (v13, v14) =>
  (pulse_firstError_6869 v4 v5 v6 v7 v8 v9 v10 v11 v13 v14).bind fun v15 =>
  some (v15)

end Go.Rex

namespace Go.Rex
open Go Go.Rex
noncomputable def pulse_generator_check (v1 : Int) (v2 : (List Int)) : Option (Int) :=
  (pulse_CheckRegister v1 v2).bind fun v4 =>
  some (v4)

end Go.Rex

namespace Go.Rex
open Go Go.Rex
noncomputable def pulse_generator_next_l1 (v1 : Int) (v2 : (List Int)) (v3 : Int) : (Int × Int) → Option ((Int × Int) ⊕ ((Int))) := fun (v5, v6) =>
  if (decide (v6 < (v2.length : Int))) = true then
    ((getI v2 v6).bind fun v10 =>
    (shI .shr .i64 v3 (IntKind.i64.wrap (v1 - v10))).bind fun v11 =>
    some (.inl ((bitI .xor .i64 v5 (bitI .and .i64 v11 1)), (IntKind.i64.wrap (v6 + 1)))))
  else
    (some (.inr v5))
noncomputable def pulse_generator_next (v1 : Int) (v2 : (List Int)) (v3 : Int) : Option (Int) :=
  (run (pulse_generator_next_l1 v1 v2 v3) (0, 0)).bind fun v12 =>
  (shI .shr .i64 v3 1).bind fun v13 =>
  (shI .shl .i64 v12 (IntKind.i64.wrap (v1 - 1))).bind fun v14 =>
  some ((bitI .or .i64 v13 v14))

end Go.Rex

namespace Go.Rex
open Go Go.Rex
noncomputable def pulse_generator_states (v1 : Int) (v2 : (List Int)) (v3 : Int) : Option (Int × Int × (List Int)) :=
  some (v3, v1, v2)

end Go.Rex

namespace Go.Rex
open Go Go.Rex
noncomputable def pulse_generator_states_c1_3283_l1 {X : Type} (H : (Int) → X → Option (Bool × X)) (v2 : Int) (v3 : (List Int)) : (Int × X) → Option ((Int × X) ⊕ ((X))) := fun (v5, v6) =>
  (H v5 v6).bind fun (v11, v12) =>
  if v11 = true then
    ((pulse_generator_next v2 v3 v5).bind fun v13 =>
    some (.inl (v13, v12)))
  else
    (some (.inr v12))
noncomputable def pulse_generator_states_c1_3283_it (v1 : Int) (v2 : Int) (v3 : (List Int)) {X : Type} (H : (Int) → X → Option (Bool × X)) (v4 : X) : Option X :=
  (run (pulse_generator_states_c1_3283_l1 H v2 v3) (v1, v4)).bind fun v14 =>
  some v14

end Go.Rex

namespace Go.Rex
open Go Go.Rex
noncomputable def pulse_generator_period_l1 (v3 : Int) : ((Int)) → (Int) → Option ((Int) ⊕ ((Int))) := fun v12 v9 =>
  if (decide (v12 = v3)) = true then
    (some (.inr v9))
  else
    (some (.inl (IntKind.i64.wrap (v9 + 1))))
noncomputable def pulse_generator_period (v1 : Int) (v2 : (List Int)) (v3 : Int) : Option (Int) :=
  (pulse_generator_next v1 v2 v3).bind fun v5 =>
  (pulse_generator_states v1 v2 v5).bind fun (v6, v7, v8) =>
  (pulse_generator_states_c1_3283_it v6 v7 v8 (hand (pulse_generator_period_l1 v3)) (.inl 1)).bind fun v13 => match v13 with
  | .inl v14 =>
    some (v14)
  | .inr v15 =>
    some (v15)

end Go.Rex

namespace Go.Rex
open Go Go.Rex
noncomputable def pulse_generator_fullPeriod (v1 : Int) (v2 : (List Int)) : Option (Int) :=
  (shI .shl .i64 1 v1).bind fun v4 =>
  some ((IntKind.i64.wrap (v4 - 1)))

end Go.Rex

namespace Go.Rex
open Go Go.Rex
noncomputable def pulse_generator_isMaximal (v1 : Int) (v2 : (List Int)) : Option (Bool) :=
  (pulse_generator_period v1 v2 1).bind fun v4 =>
  (pulse_generator_fullPeriod v1 v2).bind fun v5 =>
  some ((decide (v4 = v5)))

end Go.Rex

namespace Go.Rex
open Go Go.Rex
noncomputable def pulse_IsMaximal (v1 : Int) (v2 : (List Int)) : Option (Bool × Int) :=
  (pulse_generator_check v1 v2).bind fun v5 =>
  if (decide (v5 ≠ 0)) = true then
    (some (false, v5))
  else
    ((pulse_generator_isMaximal v1 v2).bind fun v6 =>
    some (v6, 0))

end Go.Rex

namespace Go.Rex
open Go Go.Rex
noncomputable def pulse_isPrime_l1 (v1 : Int) : (Int) → Option ((Int) ⊕ ((Unit) ⊕ (Unit))) := fun v3 =>
  if (decide ((IntKind.i64.wrap (v3 * v3)) ≤ v1)) = true then
    (if v3 = 0 then none else
    (if (decide ((v1.tmod v3) = 0)) = true then
      (some (.inr (.inl ())))
    else
      (some (.inl (IntKind.i64.wrap (v3 + 1))))))
  else
    (some (.inr (.inr ())))
noncomputable def pulse_isPrime (v1 : Int) : Option (Bool) :=
  (run (pulse_isPrime_l1 v1) 2).bind fun v4 => match v4 with
  | (.inl _) =>
    some (false)
  | (.inr _) =>
    some (true)

end Go.Rex

namespace Go.Rex
open Go Go.Rex
noncomputable def pulse_generator_stateAt_l1 (v1 : Int) (v2 : (List Int)) (v4 : Int) : (Int × Int) → Option ((Int × Int) ⊕ ((Int))) := fun (v6, v7) =>
  if (decide (v7 < v4)) = true then
    ((pulse_generator_next v1 v2 v6).bind fun v10 =>
    some (.inl (v10, (IntKind.i64.wrap (v7 + 1)))))
  else
    (some (.inr v6))
noncomputable def pulse_generator_stateAt (v1 : Int) (v2 : (List Int)) (v3 : Int) (v4 : Int) : Option (Int) :=
  (run (pulse_generator_stateAt_l1 v1 v2 v4) (v3, 0)).bind fun v11 =>
  some (v11)

end Go.Rex

namespace Go.Rex
open Go Go.Rex
noncomputable def pulse_without_l1 (v2 : Int) : (Int) → Option ((Int) ⊕ ((Int))) := fun v4 =>
  if v2 = 0 then none else
  (if (decide ((v4.tmod v2) = 0)) = true then
    (some (.inl (IntKind.i64.wrap (v4.tdiv v2))))
  else
    (some (.inr v4)))
noncomputable def pulse_without (v1 : Int) (v2 : Int) : Option (Int) :=
  (run (pulse_without_l1 v2) v1).bind fun v6 =>
  some (v6)

end Go.Rex

namespace Go.Rex
open Go Go.Rex
noncomputable def pulse_generator_isProvedBy_l1 (v1 : Int) (v2 : (List Int)) (v3 : (List Int)) (v5 : Int) : (Int × Int) → Option ((Int × Int) ⊕ ((Unit) ⊕ (Int))) := fun (v6, v7) =>
  if (decide (v7 < (v3.length : Int))) = true then
    ((getI v3 v7).bind fun v13 =>
    (pulse_isPrime v13).bind fun v14 =>
    if v14 = true then
      (if v13 = 0 then none else
      (if (decide ((v5.tmod v13) ≠ 0)) = true then
        (some (.inr (.inl ())))
      else
        ((pulse_generator_stateAt v1 v2 1 (IntKind.i64.wrap (v5.tdiv v13))).bind fun v15 =>
        if (decide (v15 = 1)) = true then
          (some (.inr (.inl ())))
        else
          ((pulse_without v6 v13).bind fun v16 =>
          some (.inl (v16, (IntKind.i64.wrap (v7 + 1))))))))
    else
      (some (.inr (.inl ()))))
  else
    (some (.inr (.inr v6)))
noncomputable def pulse_generator_isProvedBy (v1 : Int) (v2 : (List Int)) (v3 : (List Int)) : Option (Bool) :=
  (pulse_generator_fullPeriod v1 v2).bind fun v5 =>
  (run (pulse_generator_isProvedBy_l1 v1 v2 v3 v5) (v5, 0)).bind fun v17 => match v17 with
  | (.inl _) =>
    some (false)
  | (.inr v18) =>
    if (decide (v18 = 1)) = true then
      ((pulse_generator_stateAt v1 v2 1 v5).bind fun v19 =>
      some ((decide (v19 = 1))))
    else
      (some (false))

end Go.Rex

namespace Go.Rex
open Go Go.Rex
noncomputable def pulse_CheckMaximal_c1_2d5b (v1 : Int) (v2 : (List Int)) (v3 : (List Int)) : Option (Int) :=
  (pulse_generator_isProvedBy v1 v2 v3).bind fun v5 =>
  (pulse_refuse (!v5) 20).bind fun (v6, v7) =>
  (pulse_refuse_c1_11f9 v6 v7).bind fun v8 =>
  some (v8)

end Go.Rex

namespace Go.Rex
open Go Go.Rex
noncomputable def pulse_firstError_db1e (v1 : Int) (v2 : (List Int)) (v3 : Bool) (v4 : Int) (v5 : Int) (v6 : (List Int)) (v7 : Int) (v8 : Int) (v9 : Int) (v10 : (List Int)) (v11 : (List Int)) : Option (Int) :=
  (pulse_generator_check v1 v2).bind fun v13 =>
  if (decide (v13 ≠ 0)) = true then
    (some (v13))
  else
    ((pulse_refuse_c1_11f9 v3 v4).bind fun v14 =>
    if (decide (v14 ≠ 0)) = true then
      (some (v14))
    else
      ((pulse_each_c1_4fde v5 v6 v7 v8).bind fun v15 =>
      if (decide (v15 ≠ 0)) = true then
        (some (v15))
      else
        ((pulse_CheckMaximal_c1_2d5b v9 v10 v11).bind fun v16 =>
        if (decide (v16 ≠ 0)) = true then
          (some (v16))
        else
          (some (0)))))

end Go.Rex

namespace Go.Rex
open Go Go.Rex
noncomputable def pulse_CheckMaximal (v1 : Int) (v2 : (List Int)) (v3 : (List Int)) : Option (Int) :=
  (pulse_refuse (decide ((v3.length : Int) > 8)) 8).bind fun (v5, v6) =>
  (pulse_ascending v3 2 255).bind fun (v7, v8, v9, v10) =>
  (pulse_firstError_db1e v1 v2 v5 v6 v7 v8 v9 v10 v1 v2 v3).bind fun v11 =>
  some (v11)

end Go.Rex

namespace Go.Rex
open Go Go.Rex
noncomputable def pulse_withTaps_l1 (v1 : Int) (v2 : Int) : ((List Int) × Int) → Option (((List Int) × Int) ⊕ (((List Int)))) := fun (v5, v6) =>
  if (decide (v6 < v1)) = true then
    ((shI .shr .i64 v2 (IntKind.i64.wrap ((IntKind.i64.wrap (v1 - 1)) - v6))).bind fun v10 =>
    if (decide ((bitI .and .i64 v10 1) = 1)) = true then
      ((appI 8 v5 ([v6] : List Int)).bind fun v11 =>
      some (.inl (v11, (IntKind.i64.wrap (v6 + 1)))))
    else
      (some (.inl (v5, (IntKind.i64.wrap (v6 + 1))))))
  else
    (some (.inr v5))
noncomputable def pulse_withTaps (v1 : Int) (v2 : Int) : Option (Int × (List Int)) :=
  (run (pulse_withTaps_l1 v1 v2) (([] : List Int), 1)).bind fun v12 =>
  (appI 8 v12 ([v1] : List Int)).bind fun v13 =>
  some (v1, v13)

end Go.Rex

namespace Go.Rex
open Go Go.Rex
noncomputable def pulse_primesOf_l1 : (Int × (List Int) × Int) → Option ((Int × (List Int) × Int) ⊕ (((List Int)))) := fun (v3, v4, v5) =>
  if (decide (v3 > 1)) = true then
    (if v5 = 0 then none else
    (if (decide ((v3.tmod v5) = 0)) = true then
      ((appI 8 v4 ([v5] : List Int)).bind fun v9 =>
      (pulse_without v3 v5).bind fun v10 =>
      some (.inl (v10, v9, (IntKind.i64.wrap (v5 + 1)))))
    else
      (some (.inl (v3, v4, (IntKind.i64.wrap (v5 + 1)))))))
  else
    (some (.inr v4))
noncomputable def pulse_primesOf (v1 : Int) : Option ((List Int)) :=
  (run (pulse_primesOf_l1) (v1, ([] : List Int), 2)).bind fun v11 =>
  some (v11)

end Go.Rex

namespace Go.Rex
open Go Go.Rex
noncomputable def pulse_FirstMaximal_l1 (v1 : Int) : (Int) → Option ((Int) ⊕ ((Int))) := fun v10 =>
  (pulse_withTaps v1 v10).bind fun (v15, v16) =>
  (pulse_generator_isMaximal v15 v16).bind fun v17 =>
  if v17 = true then
    (some (.inr v10))
  else
    (some (.inl (IntKind.i64.wrap (v10 - 1))))
noncomputable def pulse_FirstMaximal (v1 : Int) : Option (Int × (List Int) × (List Int) × Int) :=
  (pulse_within v1 2 8).bind fun (v6, v7) =>
  (pulse_refuse_c1_11f9 v6 v7).bind fun v8 =>
  if (decide (v8 ≠ 0)) = true then
    (some (0, ([] : List Int), ([] : List Int), v8))
  else
    ((shI .shl .i64 1 (IntKind.i64.wrap (v1 - 1))).bind fun v9 =>
    (run (pulse_FirstMaximal_l1 v1) (IntKind.i64.wrap (v9 - 1))).bind fun v18 =>
    (pulse_withTaps v1 v18).bind fun (v19, v20) =>
    (pulse_generator_fullPeriod v19 v20).bind fun v21 =>
    (pulse_primesOf v21).bind fun v22 =>
    some (v19, v20, v22, 0))

end Go.Rex

namespace Go.Rex
open Go Go.Rex
noncomputable def base_Within (v1 : Int) (v2 : Int) (v3 : Int) : Option (Bool) :=
  if (decide (v2 ≤ v1)) = true then
    (some ((decide (v1 ≤ v3))))
  else
    (some (false))

end Go.Rex

namespace Go.Rex
open Go Go.Rex
noncomputable def ref04_CheckRegister_l1 (v1 : Int) (v2 : (List Int)) : (Int) → Option ((Int) ⊕ ((Int) ⊕ (Unit))) := fun v5 =>
  if (decide (v5 < (v2.length : Int))) = true then
    ((getI v2 v5).bind fun v10 =>
    (base_Within v10 1 v1).bind fun v11 =>
    if v11 = true then
      (if (decide (v5 > 0)) = true then
        ((getI v2 (IntKind.i64.wrap (v5 - 1))).bind fun v12 =>
        if (decide (v10 ≤ v12)) = true then
          (some (.inr (.inl 9)))
        else
          (some (.inl (IntKind.i64.wrap (v5 + 1)))))
      else
        (some (.inl (IntKind.i64.wrap (v5 + 1)))))
    else
      (some (.inr (.inl 2))))
  else
    (some (.inr (.inr ())))
noncomputable def ref04_CheckRegister (v1 : Int) (v2 : (List Int)) : Option (Int) :=
  (base_Within v1 2 8).bind fun v4 =>
  if v4 = true then
    (if (decide ((v2.length : Int) = 0)) = true then
      (some (10))
    else
      ((run (ref04_CheckRegister_l1 v1 v2) 0).bind fun v13 => match v13 with
      | (.inl v14) =>
        some (v14)
      | (.inr _) =>
        (getI v2 (IntKind.i64.wrap ((v2.length : Int) - 1))).bind fun v15 =>
        if (decide (v15 ≠ v1)) = true then
          (some (6))
        else
          (some (0))))
  else
    (some (2))

end Go.Rex

namespace Go.Rex
open Go Go.Rex
noncomputable def ref04_Most_l1 (v1 : Int) : (Int × Int) → Option ((Int × Int) ⊕ ((Int))) := fun (v4, v5) =>
  if (decide (v5 < v1)) = true then
    (some (.inl ((IntKind.i64.wrap (2 * v4)), (IntKind.i64.wrap (v5 + 1)))))
  else
    (some (.inr v4))
noncomputable def ref04_Most (v1 : Int) (v2 : (List Int)) : Option (Int) :=
  (run (ref04_Most_l1 v1) (1, 0)).bind fun v7 =>
  some ((IntKind.i64.wrap (v7 - 1)))

end Go.Rex

namespace Go.Rex
open Go Go.Rex
noncomputable def ref04_Primes_l2 (v5 : Int) : (Int) → Option ((Int) ⊕ ((Int))) := fun v12 =>
  if (decide ((v12.tmod v5) = 0)) = true then
    (some (.inl (IntKind.i64.wrap (v12.tdiv v5))))
  else
    (some (.inr v12))
noncomputable def ref04_Primes_l3 : (Unit) → Option ((Unit) ⊕ ((Unit))) := fun _ =>
  some (.inr ())
noncomputable def ref04_Primes_l1 : (Int × (List Int) × Int) → Option ((Int × (List Int) × Int) ⊕ (((List Int)))) := fun (v3, v4, v5) =>
  if (decide (v3 > 1)) = true then
    (if v5 = 0 then none else
    (if (decide ((v3.tmod v5) = 0)) = true then
      ((appI 8 v4 ([v5] : List Int)).bind fun v11 =>
      (run (ref04_Primes_l2 v5) v3).bind fun v14 =>
      some (.inl (v14, v11, (IntKind.i64.wrap (v5 + 1)))))
    else
      ((run (ref04_Primes_l3) ()).bind fun _ =>
      some (.inl (v3, v4, (IntKind.i64.wrap (v5 + 1)))))))
  else
    (some (.inr v4))
noncomputable def ref04_Primes (v1 : Int) : Option ((List Int)) :=
  (run (ref04_Primes_l1) (v1, ([] : List Int), 2)).bind fun v15 =>
  some (v15)

end Go.Rex

namespace Go.Rex
open Go Go.Rex
noncomputable def base_Ints_l1 (v1 : (List Int)) (v2 : (List Int)) : (Int) → Option ((Int) ⊕ ((Unit) ⊕ (Unit))) := fun v4 =>
  if (decide (v4 < (v1.length : Int))) = true then
    ((getI v1 v4).bind fun v7 =>
    (getI v2 v4).bind fun v8 =>
    if (decide (v7 ≠ v8)) = true then
      (some (.inr (.inl ())))
    else
      (some (.inl (IntKind.i64.wrap (v4 + 1)))))
  else
    (some (.inr (.inr ())))
noncomputable def base_Ints (v1 : (List Int)) (v2 : (List Int)) : Option (Bool) :=
  if (decide ((v1.length : Int) ≠ (v2.length : Int))) = true then
    (some (false))
  else
    ((run (base_Ints_l1 v1 v2) 0).bind fun v9 => match v9 with
    | (.inl _) =>
      some (false)
    | (.inr _) =>
      some (true))

end Go.Rex

namespace Go.Rex
open Go Go.Rex
noncomputable def ref04_Bits_l2 (v2 : (List Int)) (v7 : (List Int)) (v8 : Int) : (Int × Int) → Option ((Int × Int) ⊕ ((Int))) := fun (v21, v22) =>
  if (decide (v22 < (v2.length : Int))) = true then
    ((getI v2 v22).bind fun v26 =>
    (getI v7 (IntKind.i64.wrap (v8 - v26))).bind fun v27 =>
    some (.inl ((IntKind.i64.wrap (v21 + v27)), (IntKind.i64.wrap (v22 + 1)))))
  else
    (some (.inr v21))
noncomputable def ref04_Bits_l1 (v1 : Int) (v2 : (List Int)) (v4 : Int) : (Int × (List Int) × Int) → Option ((Int × (List Int) × Int) ⊕ (((List Int)))) := fun (v6, v7, v8) =>
  if (decide (v8 < v4)) = true then
    (if (decide (v8 < v1)) = true then
      ((appI 8 v7 ([(v6.tmod 2)] : List Int)).bind fun v20 =>
      some (.inl ((IntKind.i64.wrap (v6.tdiv 2)), v20, (IntKind.i64.wrap (v8 + 1)))))
    else
      ((run (ref04_Bits_l2 v2 v7 v8) (0, 0)).bind fun v28 =>
      (appI 8 v7 ([(v28.tmod 2)] : List Int)).bind fun v29 =>
      some (.inl (v6, v29, (IntKind.i64.wrap (v8 + 1))))))
  else
    (some (.inr v7))
noncomputable def ref04_Bits (v1 : Int) (v2 : (List Int)) (v3 : Int) (v4 : Int) : Option ((List Int)) :=
  (run (ref04_Bits_l1 v1 v2 v4) (v3, ([] : List Int), 0)).bind fun v30 =>
  some (v30)

end Go.Rex

namespace Go.Rex
open Go Go.Rex
noncomputable def ref04_Next_l1 (v5 : (List Int)) : (Int × Int) → Option ((Int × Int) ⊕ ((Int))) := fun (v6, v7) =>
  if (decide (v7 ≥ 1)) = true then
    ((getI v5 v7).bind fun v10 =>
    some (.inl ((IntKind.i64.wrap ((IntKind.i64.wrap (2 * v6)) + v10)), (IntKind.i64.wrap (v7 - 1)))))
  else
    (some (.inr v6))
noncomputable def ref04_Next (v1 : Int) (v2 : (List Int)) (v3 : Int) : Option (Int) :=
  (ref04_Bits v1 v2 v3 (IntKind.i64.wrap (v1 + 1))).bind fun v5 =>
  (run (ref04_Next_l1 v5) (0, v1)).bind fun v11 =>
  some (v11)

end Go.Rex

namespace Go.Rex
open Go Go.Rex
noncomputable def ref04_Period_l1 (v1 : Int) (v2 : (List Int)) (v3 : Int) : (Int × Int) → Option ((Int × Int) ⊕ ((Int))) := fun (v6, v7) =>
  if (decide (v7 ≠ v3)) = true then
    ((ref04_Next v1 v2 v7).bind fun v10 =>
    some (.inl ((IntKind.i64.wrap (v6 + 1)), v10)))
  else
    (some (.inr v6))
noncomputable def ref04_Period (v1 : Int) (v2 : (List Int)) (v3 : Int) : Option (Int) :=
  (ref04_Next v1 v2 v3).bind fun v5 =>
  (run (ref04_Period_l1 v1 v2 v3) (1, v5)).bind fun v11 =>
  some (v11)

end Go.Rex

namespace Go.Rex
open Go Go.Rex
noncomputable def ref04_IsMaximal (v1 : Int) (v2 : (List Int)) : Option (Bool) :=
  (ref04_Period v1 v2 1).bind fun v4 =>
  (ref04_Most v1 v2).bind fun v5 =>
  some ((decide (v4 = v5)))

end Go.Rex

namespace Go.Rex
open Go Go.Rex
noncomputable def ref04_CheckMaximal_l1 (v3 : (List Int)) : (Int) → Option ((Int) ⊕ ((Int) ⊕ (Unit))) := fun v6 =>
  if (decide (v6 < (v3.length : Int))) = true then
    ((getI v3 v6).bind fun v11 =>
    (base_Within v11 2 255).bind fun v12 =>
    if v12 = true then
      (if (decide (v6 > 0)) = true then
        ((getI v3 (IntKind.i64.wrap (v6 - 1))).bind fun v13 =>
        if (decide (v11 ≤ v13)) = true then
          (some (.inr (.inl 9)))
        else
          (some (.inl (IntKind.i64.wrap (v6 + 1)))))
      else
        (some (.inl (IntKind.i64.wrap (v6 + 1)))))
    else
      (some (.inr (.inl 2))))
  else
    (some (.inr (.inr ())))
noncomputable def ref04_CheckMaximal (v1 : Int) (v2 : (List Int)) (v3 : (List Int)) : Option (Int) :=
  (ref04_CheckRegister v1 v2).bind fun v5 =>
  if (decide (v5 ≠ 0)) = true then
    (some (v5))
  else
    (if (decide ((v3.length : Int) > 8)) = true then
      (some (8))
    else
      ((run (ref04_CheckMaximal_l1 v3) 0).bind fun v14 => match v14 with
      | (.inl v15) =>
        some (v15)
      | (.inr _) =>
        (ref04_Most v1 v2).bind fun v16 =>
        (ref04_Primes v16).bind fun v17 =>
        (base_Ints v3 v17).bind fun v18 =>
        if v18 = true then
          ((ref04_IsMaximal v1 v2).bind fun v19 =>
          if v19 = true then
            (some (0))
          else
            (some (20)))
        else
          (some (20))))

end Go.Rex

namespace Go.Rex
open Go Go.Rex
noncomputable def ref04_Most_037b_l1 (v1 : Int) : (Int × Int) → Option ((Int × Int) ⊕ ((Int))) := fun (v3, v4) =>
  if (decide (v4 < v1)) = true then
    (some (.inl ((IntKind.i64.wrap (2 * v3)), (IntKind.i64.wrap (v4 + 1)))))
  else
    (some (.inr v3))
noncomputable def ref04_Most_037b (v1 : Int) : Option (Int) :=
  (run (ref04_Most_037b_l1 v1) (1, 0)).bind fun v6 =>
  some ((IntKind.i64.wrap (v6 - 1)))

end Go.Rex

namespace Go.Rex
open Go Go.Rex
noncomputable def base_Before_l1 (v1 : (List Int)) (v2 : (List Int)) : (Int) → Option ((Int) ⊕ ((Bool) ⊕ (Unit))) := fun v4 =>
  if (decide (v4 < (v1.length : Int))) = true then
    (if (decide (v4 < (v2.length : Int))) = true then
      ((getI v1 v4).bind fun v8 =>
      (getI v2 v4).bind fun v9 =>
      if (decide (v8 ≠ v9)) = true then
        (some (.inr (.inl (decide (v8 < v9)))))
      else
        (some (.inl (IntKind.i64.wrap (v4 + 1)))))
    else
      (some (.inr (.inr ()))))
  else
    (some (.inr (.inr ())))
noncomputable def base_Before (v1 : (List Int)) (v2 : (List Int)) : Option (Bool) :=
  (run (base_Before_l1 v1 v2) 0).bind fun v10 => match v10 with
  | (.inl v11) =>
    some (v11)
  | (.inr _) =>
    some ((decide ((v1.length : Int) < (v2.length : Int))))

end Go.Rex

namespace Go.Rex
open Go Go.Rex
noncomputable def ref04_FirstMaximal_l2 (v1 : Int) : ((List Int) × Int × Int) → Option (((List Int) × Int × Int) ⊕ (((List Int)))) := fun (v20, v21, v22) =>
  if (decide (v22 < v1)) = true then
    (if (decide ((v21.tmod 2) = 1)) = true then
      ((appI 8 v20 ([v22] : List Int)).bind fun v25 =>
      some (.inl (v25, (IntKind.i64.wrap (v21.tdiv 2)), (IntKind.i64.wrap (v22 + 1)))))
    else
      (some (.inl (v20, (IntKind.i64.wrap (v21.tdiv 2)), (IntKind.i64.wrap (v22 + 1))))))
  else
    (some (.inr v20))
noncomputable def ref04_FirstMaximal_l1 (v1 : Int) (v4 : Int) : (Int × (List Int) × Int) → Option ((Int × (List Int) × Int) ⊕ ((Int × (List Int)))) := fun (v5, v6, v7) =>
  if (decide (v7 ≤ v4)) = true then
    ((run (ref04_FirstMaximal_l2 v1) (([] : List Int), v7, 1)).bind fun v26 =>
    (appI 8 v26 ([v1] : List Int)).bind fun v27 =>
    (ref04_IsMaximal v1 v27).bind fun v28 =>
    if v28 = true then
      (if (decide ((v6.length : Int) = 0)) = true then
        (some (.inl (v1, v27, (IntKind.i64.wrap (v7 + 1)))))
      else
        ((base_Before v27 v6).bind fun v29 =>
        if v29 = true then
          (some (.inl (v1, v27, (IntKind.i64.wrap (v7 + 1)))))
        else
          (some (.inl (v5, v6, (IntKind.i64.wrap (v7 + 1)))))))
    else
      (some (.inl (v5, v6, (IntKind.i64.wrap (v7 + 1))))))
  else
    (some (.inr (v5, v6)))
noncomputable def ref04_FirstMaximal (v1 : Int) : Option (Int × (List Int)) :=
  (ref04_Most_037b (IntKind.i64.wrap (v1 - 1))).bind fun v4 =>
  (run (ref04_FirstMaximal_l1 v1 v4) (0, ([] : List Int), 0)).bind fun (v30, v31) =>
  some (v30, v31)

end Go.Rex

namespace Go.Rex
open Go Go.Rex
noncomputable def ref04_Same (v1 : Int) (v2 : (List Int)) (v3 : Int) (v4 : (List Int)) : Option (Bool) :=
  if (decide (v1 = v3)) = true then
    ((base_Ints v2 v4).bind fun v6 =>
    some (v6))
  else
    (some (false))

end Go.Rex

namespace Go.Rex
open Go Go.Rex
noncomputable def base_Ints_811f_l1 (v1 : (List Int)) : (Unit) → Option ((Unit) ⊕ ((Unit))) := fun _ =>
  if (decide (0 < (v1.length : Int))) = true then
    ((getI v1 0).bind fun v4 =>
    none)
  else
    (some (.inr ()))
noncomputable def base_Ints_811f (v1 : (List Int)) : Option (Bool) :=
  if (decide ((v1.length : Int) ≠ 0)) = true then
    (some (false))
  else
    ((run (base_Ints_811f_l1 v1) ()).bind fun _ =>
    some (true))

end Go.Rex

namespace Go.Rex
open Go Go.Rex
noncomputable def ref04_Same_de06 (v1 : Int) (v2 : (List Int)) (v3 : Int) : Option (Bool) :=
  if (decide (v1 = v3)) = true then
    ((base_Ints_811f v2).bind fun v5 =>
    some (v5))
  else
    (some (false))

end Go.Rex

namespace Go.Rex
open Go Go.Rex
noncomputable def law04_PulseMaximal (v1 : Int) (v2 : (List Int)) (v3 : (List Int)) (v4 : Int) : Option Bool :=
  if (decide ((v2.length : Int) > 12)) = true then
    (some (true))
  else
    (if (decide ((v3.length : Int) > 12)) = true then
      (some (true))
    else
      ((ref04_Copy v1 v2).bind fun (v6, v7) =>
      (pulse_IsMaximal v6 v7).bind fun (v8, v9) =>
      (ref04_Copy v1 v2).bind fun (v10, v11) =>
      (base_CopyInts v3).bind fun v12 =>
      (pulse_CheckMaximal v10 v11 v12).bind fun v13 =>
      (pulse_FirstMaximal v4).bind fun (v14, v15, v16, v17) =>
      (ref04_CheckRegister v1 v2).bind fun v18 =>
      if (decide (v9 ≠ v18)) = true then
        (some (false))
      else
        ((ref04_CheckMaximal v1 v2 v3).bind fun v19 =>
        if (decide (v13 ≠ v19)) = true then
          (some (false))
        else
          (if (decide (v18 ≠ 0)) = true then
            (if v8 = true then
              (some (false))
            else
              (if (decide (v18 = 0)) = true then
                ((ref04_IsMaximal v1 v2).bind fun v20 =>
                if (v8 == v20) = true then
                  ((base_Within v4 2 8).bind fun v21 =>
                  if v21 = true then
                    (if (decide (v17 = 0)) = true then
                      ((ref04_FirstMaximal v4).bind fun (v22, v23) =>
                      (ref04_Same v14 v15 v22 v23).bind fun v24 =>
                      if v24 = true then
                        ((ref04_Most v14 v15).bind fun v25 =>
                        (ref04_Primes v25).bind fun v26 =>
                        (base_Ints v16 v26).bind fun v27 =>
                        if v27 = true then
                          ((ref04_Copy v14 v15).bind fun (v28, v29) =>
                          (base_CopyInts v16).bind fun v30 =>
                          (pulse_CheckMaximal v28 v29 v30).bind fun v31 =>
                          some ((decide (v31 = 0))))
                        else
                          (some (false)))
                      else
                        (some (false)))
                    else
                      (some (false)))
                  else
                    (if (decide (v17 = 2)) = true then
                      ((ref04_Same_de06 v14 v15 0).bind fun v32 =>
                      if v32 = true then
                        (some ((decide ((v16.length : Int) = 0))))
                      else
                        (some (false)))
                    else
                      (some (false))))
                else
                  (some (false)))
              else
                ((base_Within v4 2 8).bind fun v33 =>
                if v33 = true then
                  (if (decide (v17 = 0)) = true then
                    ((ref04_FirstMaximal v4).bind fun (v34, v35) =>
                    (ref04_Same v14 v15 v34 v35).bind fun v36 =>
                    if v36 = true then
                      ((ref04_Most v14 v15).bind fun v37 =>
                      (ref04_Primes v37).bind fun v38 =>
                      (base_Ints v16 v38).bind fun v39 =>
                      if v39 = true then
                        ((ref04_Copy v14 v15).bind fun (v40, v41) =>
                        (base_CopyInts v16).bind fun v42 =>
                        (pulse_CheckMaximal v40 v41 v42).bind fun v43 =>
                        some ((decide (v43 = 0))))
                      else
                        (some (false)))
                    else
                      (some (false)))
                  else
                    (some (false)))
                else
                  (if (decide (v17 = 2)) = true then
                    ((ref04_Same_de06 v14 v15 0).bind fun v44 =>
                    if v44 = true then
                      (some ((decide ((v16.length : Int) = 0))))
                    else
                      (some (false)))
                  else
                    (some (false))))))
          else
            (if (decide (v18 = 0)) = true then
              ((ref04_IsMaximal v1 v2).bind fun v45 =>
              if (v8 == v45) = true then
                ((base_Within v4 2 8).bind fun v46 =>
                if v46 = true then
                  (if (decide (v17 = 0)) = true then
                    ((ref04_FirstMaximal v4).bind fun (v47, v48) =>
                    (ref04_Same v14 v15 v47 v48).bind fun v49 =>
                    if v49 = true then
                      ((ref04_Most v14 v15).bind fun v50 =>
                      (ref04_Primes v50).bind fun v51 =>
                      (base_Ints v16 v51).bind fun v52 =>
                      if v52 = true then
                        ((ref04_Copy v14 v15).bind fun (v53, v54) =>
                        (base_CopyInts v16).bind fun v55 =>
                        (pulse_CheckMaximal v53 v54 v55).bind fun v56 =>
                        some ((decide (v56 = 0))))
                      else
                        (some (false)))
                    else
                      (some (false)))
                  else
                    (some (false)))
                else
                  (if (decide (v17 = 2)) = true then
                    ((ref04_Same_de06 v14 v15 0).bind fun v57 =>
                    if v57 = true then
                      (some ((decide ((v16.length : Int) = 0))))
                    else
                      (some (false)))
                  else
                    (some (false))))
              else
                (some (false)))
            else
              ((base_Within v4 2 8).bind fun v58 =>
              if v58 = true then
                (if (decide (v17 = 0)) = true then
                  ((ref04_FirstMaximal v4).bind fun (v59, v60) =>
                  (ref04_Same v14 v15 v59 v60).bind fun v61 =>
                  if v61 = true then
                    ((ref04_Most v14 v15).bind fun v62 =>
                    (ref04_Primes v62).bind fun v63 =>
                    (base_Ints v16 v63).bind fun v64 =>
                    if v64 = true then
                      ((ref04_Copy v14 v15).bind fun (v65, v66) =>
                      (base_CopyInts v16).bind fun v67 =>
                      (pulse_CheckMaximal v65 v66 v67).bind fun v68 =>
                      some ((decide (v68 = 0))))
                    else
                      (some (false)))
                  else
                    (some (false)))
                else
                  (some (false)))
              else
                (if (decide (v17 = 2)) = true then
                  ((ref04_Same_de06 v14 v15 0).bind fun v69 =>
                  if v69 = true then
                    (some ((decide ((v16.length : Int) = 0))))
                  else
                    (some (false)))
                else
                  (some (false)))))))))

end Go.Rex
