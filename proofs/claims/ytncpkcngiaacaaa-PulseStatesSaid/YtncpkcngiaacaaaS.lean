/- The functions of the program and of the reference, as functions of lists and numbers. -/
import Derived.Test.YtncpkcngiaacaaaRexG7
set_option linter.unusedSimpArgs false
set_option linter.unusedVariables false
set_option linter.defProp false
namespace Go.Rex
open Go Go.Rex
def e_i (x : Int) : List TV := [.v (.int .i64 x)]

end Go.Rex

namespace Go.Rex
open Go Go.Rex
noncomputable def base_CopyInts (v1 : (List Int)) : Option ((List Int)) :=
  (appI 8 ([] : List Int) v1).bind fun v3 =>
  some (v3)

end Go.Rex

namespace Go.Rex
open Go Go.Rex
noncomputable def ref04_Copy (v1 : Int) (v2 : (List Int)) : Option (Int × (List Int)) :=
  (base_CopyInts v2).bind fun v5 =>
  some (v1, v5)

end Go.Rex

namespace Go.Rex
open Go Go.Rex
noncomputable def pulse_generator_startsAt (v1 : Int) (v2 : (List Int)) (v3 : Int) : Option (Int × Int × (List Int)) :=
  some (v3, v1, v2)

end Go.Rex

namespace Go.Rex
open Go Go.Rex
noncomputable def pulse_refuse (v1 : Bool) (v2 : Int) : Option (Bool × Int) :=
  some (v1, v2)

end Go.Rex

namespace Go.Rex
open Go Go.Rex
noncomputable def pulse_within (v1 : Int) (v2 : Int) (v3 : Int) : Option (Bool × Int) :=
  if (decide (v1 < v2)) = true then
    ((pulse_refuse true 2).bind fun (v6, v7) =>
    some (v6, v7))
  else
    ((pulse_refuse (decide (v1 > v3)) 2).bind fun (v8, v9) =>
    some (v8, v9))

end Go.Rex

namespace Go.Rex
open Go Go.Rex
noncomputable def pulse_each_e53c (v1 : Int) (v2 : (List Int)) (v3 : Int) (v4 : Int) : Option (Int × (List Int) × Int × Int) :=
  some (v1, v2, v3, v4)

end Go.Rex

namespace Go.Rex
open Go Go.Rex
noncomputable def pulse_ascending (v1 : (List Int)) (v2 : Int) (v3 : Int) : Option (Int × (List Int) × Int × Int) :=
  (pulse_each_e53c (v1.length : Int) v1 v2 v3).bind fun (v8, v9, v10, v11) =>
  some (v8, v9, v10, v11)

end Go.Rex

namespace Go.Rex
open Go Go.Rex
noncomputable def slices_Index_int_int_l1 (v1 : (List Int)) (v2 : Int) : (Int) → Option ((Int) ⊕ ((Int) ⊕ (Unit))) := fun v4 =>
  if (decide (v4 < (v1.length : Int))) = true then
    ((getI v1 v4).bind fun v7 =>
    if (decide (v2 = v7)) = true then
      (some (.inr (.inl v4)))
    else
      (some (.inl (IntKind.i64.wrap (v4 + 1)))))
  else
    (some (.inr (.inr ())))
noncomputable def slices_Index_int_int (v1 : (List Int)) (v2 : Int) : Option (Int) :=
  (run (slices_Index_int_int_l1 v1 v2) 0).bind fun v8 => match v8 with
  | (.inl v9) =>
    some (v9)
  | (.inr _) =>
    some ((-1))

end Go.Rex

namespace Go.Rex
open Go Go.Rex
noncomputable def slices_Contains_int_int (v1 : (List Int)) (v2 : Int) : Option (Bool) :=
  (slices_Index_int_int v1 v2).bind fun v4 =>
  some ((decide (v4 ≥ 0)))

end Go.Rex

namespace Go.Rex
open Go Go.Rex
noncomputable def pulse_refuse_c1_11f9 (v1 : Bool) (v2 : Int) : Option (Int) :=
  if v1 = true then
    (some (v2))
  else
    (some (0))

end Go.Rex

namespace Go.Rex
open Go Go.Rex
noncomputable def pulse_firstError_9abe (v1 : Bool) (v2 : Int) (v3 : Bool) (v4 : Int) : Option (Int) :=
  (pulse_refuse_c1_11f9 v1 v2).bind fun v6 =>
  if (decide (v6 ≠ 0)) = true then
    (some (v6))
  else
    ((pulse_refuse_c1_11f9 v3 v4).bind fun v7 =>
    if (decide (v7 ≠ 0)) = true then
      (some (v7))
    else
      (some (0)))

end Go.Rex

namespace Go.Rex
open Go Go.Rex
noncomputable def pulse_ascending_c1_ea58 (v1 : Int) (v2 : (List Int)) (v3 : Int) (v4 : Int) : Option (Int) :=
  (getI v2 v1).bind fun v6 =>
  (pulse_within v6 v3 v4).bind fun (v7, v8) =>
  if (decide (v1 > 0)) = true then
    ((getI v2 (IntKind.i64.wrap (v1 - 1))).bind fun v9 =>
    (pulse_refuse (decide (v6 ≤ v9)) 9).bind fun (v10, v11) =>
    (pulse_firstError_9abe v7 v8 v10 v11).bind fun v12 =>
    some (v12))
  else
    ((pulse_refuse false 9).bind fun (v13, v14) =>
    (pulse_firstError_9abe v7 v8 v13 v14).bind fun v15 =>
    some (v15))

end Go.Rex

namespace Go.Rex
open Go Go.Rex
noncomputable def pulse_each_c1_4fde_l1 (v1 : Int) (v2 : (List Int)) (v3 : Int) (v4 : Int) : (Int) → Option ((Int) ⊕ ((Int) ⊕ (Unit))) := fun v6 =>
  if (decide (v6 < v1)) = true then
    ((pulse_ascending_c1_ea58 v6 v2 v3 v4).bind fun v9 =>
    if (decide (v9 ≠ 0)) = true then
      (some (.inr (.inl v9)))
    else
      (some (.inl (IntKind.i64.wrap (v6 + 1)))))
  else
    (some (.inr (.inr ())))
noncomputable def pulse_each_c1_4fde (v1 : Int) (v2 : (List Int)) (v3 : Int) (v4 : Int) : Option (Int) :=
  (run (pulse_each_c1_4fde_l1 v1 v2 v3 v4) 0).bind fun v10 => match v10 with
  | (.inl v11) =>
    some (v11)
  | (.inr _) =>
    some (0)

end Go.Rex

namespace Go.Rex
open Go Go.Rex
noncomputable def pulse_firstError_6869 (v1 : Bool) (v2 : Int) (v3 : Bool) (v4 : Int) (v5 : Int) (v6 : (List Int)) (v7 : Int) (v8 : Int) (v9 : Bool) (v10 : Int) : Option (Int) :=
  (pulse_refuse_c1_11f9 v1 v2).bind fun v12 =>
  if (decide (v12 ≠ 0)) = true then
    (some (v12))
  else
    ((pulse_refuse_c1_11f9 v3 v4).bind fun v13 =>
    if (decide (v13 ≠ 0)) = true then
      (some (v13))
    else
      ((pulse_each_c1_4fde v5 v6 v7 v8).bind fun v14 =>
      if (decide (v14 ≠ 0)) = true then
        (some (v14))
      else
        ((pulse_refuse_c1_11f9 v9 v10).bind fun v15 =>
        if (decide (v15 ≠ 0)) = true then
          (some (v15))
        else
          (some (0)))))

end Go.Rex

namespace Go.Rex
open Go Go.Rex
noncomputable def pulse_CheckRegister (v1 : Int) (v2 : (List Int)) : Option (Int) :=
  (pulse_within v1 2 8).bind fun (v4, v5) =>
  (pulse_refuse (decide ((v2.length : Int) = 0)) 10).bind fun (v6, v7) =>
  (pulse_ascending v2 1 v1).bind fun (v8, v9, v10, v11) =>
  (slices_Contains_int_int v2 v1).bind fun v12 =>
  (pulse_refuse (!v12) 6).bind fun (v13, v14) =>
  (pulse_firstError_6869 v4 v5 v6 v7 v8 v9 v10 v11 v13 v14).bind fun v15 =>
  some (v15)

end Go.Rex

namespace Go.Rex
open Go Go.Rex
noncomputable def pulse_generator_check (v1 : Int) (v2 : (List Int)) : Option (Int) :=
  (pulse_CheckRegister v1 v2).bind fun v4 =>
  some (v4)

end Go.Rex

namespace Go.Rex
open Go Go.Rex
noncomputable def pulse_generator_fullPeriod (v1 : Int) (v2 : (List Int)) : Option (Int) :=
  (shI .shl .i64 1 v1).bind fun v4 =>
  some ((IntKind.i64.wrap (v4 - 1)))

end Go.Rex

namespace Go.Rex
open Go Go.Rex
noncomputable def pulse_generator_startsAt_c1_63b1 (v1 : Int) (v2 : Int) (v3 : (List Int)) : Option (Int) :=
  (pulse_generator_fullPeriod v2 v3).bind fun v5 =>
  (pulse_within v1 1 v5).bind fun (v6, v7) =>
  (pulse_refuse_c1_11f9 v6 v7).bind fun v8 =>
  some (v8)

end Go.Rex

namespace Go.Rex
open Go Go.Rex
noncomputable def pulse_firstError_3a72 (v1 : Int) (v2 : (List Int)) (v3 : Int) (v4 : Int) (v5 : (List Int)) (v6 : Bool) (v7 : Int) : Option (Int) :=
  (pulse_generator_check v1 v2).bind fun v9 =>
  if (decide (v9 ≠ 0)) = true then
    (some (v9))
  else
    ((pulse_generator_startsAt_c1_63b1 v3 v4 v5).bind fun v10 =>
    if (decide (v10 ≠ 0)) = true then
      (some (v10))
    else
      ((pulse_refuse_c1_11f9 v6 v7).bind fun v11 =>
      if (decide (v11 ≠ 0)) = true then
        (some (v11))
      else
        (some (0))))

end Go.Rex

namespace Go.Rex
open Go Go.Rex
noncomputable def pulse_generator_next_l1 (v1 : Int) (v2 : (List Int)) (v3 : Int) : (Int × Int) → Option ((Int × Int) ⊕ ((Int))) := fun (v5, v6) =>
  if (decide (v6 < (v2.length : Int))) = true then
    ((getI v2 v6).bind fun v10 =>
    (shI .shr .i64 v3 (IntKind.i64.wrap (v1 - v10))).bind fun v11 =>
    some (.inl ((bitI .xor .i64 v5 (bitI .and .i64 v11 1)), (IntKind.i64.wrap (v6 + 1)))))
  else
    (some (.inr v5))
noncomputable def pulse_generator_next (v1 : Int) (v2 : (List Int)) (v3 : Int) : Option (Int) :=
  (run (pulse_generator_next_l1 v1 v2 v3) (0, 0)).bind fun v12 =>
  (shI .shr .i64 v3 1).bind fun v13 =>
  (shI .shl .i64 v12 (IntKind.i64.wrap (v1 - 1))).bind fun v14 =>
  some ((bitI .or .i64 v13 v14))

end Go.Rex

namespace Go.Rex
open Go Go.Rex
noncomputable def pulse_generator_states (v1 : Int) (v2 : (List Int)) (v3 : Int) : Option (Int × Int × (List Int)) :=
  some (v3, v1, v2)

end Go.Rex

namespace Go.Rex
open Go Go.Rex
noncomputable def pulse_generator_states_c1_3283_l1 {X : Type} (H : (Int) → X → Option (Bool × X)) (v2 : Int) (v3 : (List Int)) : (Int × X) → Option ((Int × X) ⊕ ((X))) := fun (v5, v6) =>
  (H v5 v6).bind fun (v11, v12) =>
  if v11 = true then
    ((pulse_generator_next v2 v3 v5).bind fun v13 =>
    some (.inl (v13, v12)))
  else
    (some (.inr v12))
noncomputable def pulse_generator_states_c1_3283_it (v1 : Int) (v2 : Int) (v3 : (List Int)) {X : Type} (H : (Int) → X → Option (Bool × X)) (v4 : X) : Option X :=
  (run (pulse_generator_states_c1_3283_l1 H v2 v3) (v1, v4)).bind fun v14 =>
  some v14

end Go.Rex

namespace Go.Rex
open Go Go.Rex
noncomputable def pulse_generator_period_l1 (v3 : Int) : ((Int)) → (Int) → Option ((Int) ⊕ ((Int))) := fun v12 v9 =>
  if (decide (v12 = v3)) = true then
    (some (.inr v9))
  else
    (some (.inl (IntKind.i64.wrap (v9 + 1))))
noncomputable def pulse_generator_period (v1 : Int) (v2 : (List Int)) (v3 : Int) : Option (Int) :=
  (pulse_generator_next v1 v2 v3).bind fun v5 =>
  (pulse_generator_states v1 v2 v5).bind fun (v6, v7, v8) =>
  (pulse_generator_states_c1_3283_it v6 v7 v8 (hand (pulse_generator_period_l1 v3)) (.inl 1)).bind fun v13 => match v13 with
  | .inl v14 =>
    some (v14)
  | .inr v15 =>
    some (v15)

end Go.Rex

namespace Go.Rex
open Go Go.Rex
noncomputable def pulse_generator_stateAt_l1 (v1 : Int) (v2 : (List Int)) (v4 : Int) : (Int × Int) → Option ((Int × Int) ⊕ ((Int))) := fun (v6, v7) =>
  if (decide (v7 < v4)) = true then
    ((pulse_generator_next v1 v2 v6).bind fun v10 =>
    some (.inl (v10, (IntKind.i64.wrap (v7 + 1)))))
  else
    (some (.inr v6))
noncomputable def pulse_generator_stateAt (v1 : Int) (v2 : (List Int)) (v3 : Int) (v4 : Int) : Option (Int) :=
  (run (pulse_generator_stateAt_l1 v1 v2 v4) (v3, 0)).bind fun v11 =>
  some (v11)

end Go.Rex

namespace Go.Rex
open Go Go.Rex
noncomputable def pulse_StateAt (v1 : Int) (v2 : (List Int)) (v3 : Int) (v4 : Int) : Option (Int × Int) :=
  (pulse_generator_startsAt v1 v2 v3).bind fun (v7, v8, v9) =>
  (pulse_within v4 0 1000000000).bind fun (v10, v11) =>
  (pulse_firstError_3a72 v1 v2 v7 v8 v9 v10 v11).bind fun v12 =>
  if (decide (v12 ≠ 0)) = true then
    (some (0, v12))
  else
    ((pulse_generator_period v1 v2 v3).bind fun v13 =>
    if v13 = 0 then none else
    ((pulse_generator_stateAt v1 v2 v3 (v4.tmod v13)).bind fun v14 =>
    some (v14, 0)))

end Go.Rex

namespace Go.Rex
open Go Go.Rex
noncomputable def pulse_firstError_1137 (v1 : Int) (v2 : (List Int)) (v3 : Int) (v4 : Int) (v5 : (List Int)) : Option (Int) :=
  (pulse_generator_check v1 v2).bind fun v7 =>
  if (decide (v7 ≠ 0)) = true then
    (some (v7))
  else
    ((pulse_generator_startsAt_c1_63b1 v3 v4 v5).bind fun v8 =>
    if (decide (v8 ≠ 0)) = true then
      (some (v8))
    else
      (some (0)))

end Go.Rex

namespace Go.Rex
open Go Go.Rex
noncomputable def pulse_generator_bits_l1 (v4 : Int) : ((Int)) → ((List Int)) → Option (((List Int)) ⊕ (((List Int)))) := fun v13 v9 =>
  if (decide ((v9.length : Int) = v4)) = true then
    (some (.inr v9))
  else
    ((appI 8 v9 ([(bitI .and .i64 v13 1)] : List Int)).bind fun v14 =>
    some (.inl v14))
noncomputable def pulse_generator_bits (v1 : Int) (v2 : (List Int)) (v3 : Int) (v4 : Int) : Option ((List Int)) :=
  (pulse_generator_states v1 v2 v3).bind fun (v6, v7, v8) =>
  (pulse_generator_states_c1_3283_it v6 v7 v8 (hand (pulse_generator_bits_l1 v4)) (.inl ([] : List Int))).bind fun v15 => match v15 with
  | .inl v16 =>
    some (v16)
  | .inr v17 =>
    some (v17)

end Go.Rex

namespace Go.Rex
open Go Go.Rex
noncomputable def pulse_generator_signs_l1 (v6 : (List Int)) : ((List Int) × Int) → Option (((List Int) × Int) ⊕ (((List Int)))) := fun (v7, v8) =>
  if (decide (v8 < (v6.length : Int))) = true then
    ((getI v7 v8).bind fun v11 =>
    some (.inl ((v7.set v8.toNat (IntKind.i64.wrap (1 - (IntKind.i64.wrap (2 * v11))))), (IntKind.i64.wrap (v8 + 1)))))
  else
    (some (.inr v7))
noncomputable def pulse_generator_signs (v1 : Int) (v2 : (List Int)) (v3 : Int) : Option ((List Int)) :=
  (pulse_generator_fullPeriod v1 v2).bind fun v5 =>
  (pulse_generator_bits v1 v2 v3 v5).bind fun v6 =>
  (run (pulse_generator_signs_l1 v6) (v6, 0)).bind fun v12 =>
  some (v12)

end Go.Rex

namespace Go.Rex
open Go Go.Rex
noncomputable def pulse_Signs (v1 : Int) (v2 : (List Int)) (v3 : Int) : Option ((List Int) × Int) :=
  (pulse_generator_startsAt v1 v2 v3).bind fun (v6, v7, v8) =>
  (pulse_firstError_1137 v1 v2 v6 v7 v8).bind fun v9 =>
  if (decide (v9 ≠ 0)) = true then
    (some (([] : List Int), v9))
  else
    ((pulse_generator_signs v1 v2 v3).bind fun v10 =>
    some (v10, 0))

end Go.Rex

namespace Go.Rex
open Go Go.Rex
noncomputable def base_Within (v1 : Int) (v2 : Int) (v3 : Int) : Option (Bool) :=
  if (decide (v2 ≤ v1)) = true then
    (some ((decide (v1 ≤ v3))))
  else
    (some (false))

end Go.Rex

namespace Go.Rex
open Go Go.Rex
noncomputable def ref04_CheckRegister_l1 (v1 : Int) (v2 : (List Int)) : (Int) → Option ((Int) ⊕ ((Int) ⊕ (Unit))) := fun v5 =>
  if (decide (v5 < (v2.length : Int))) = true then
    ((getI v2 v5).bind fun v10 =>
    (base_Within v10 1 v1).bind fun v11 =>
    if v11 = true then
      (if (decide (v5 > 0)) = true then
        ((getI v2 (IntKind.i64.wrap (v5 - 1))).bind fun v12 =>
        if (decide (v10 ≤ v12)) = true then
          (some (.inr (.inl 9)))
        else
          (some (.inl (IntKind.i64.wrap (v5 + 1)))))
      else
        (some (.inl (IntKind.i64.wrap (v5 + 1)))))
    else
      (some (.inr (.inl 2))))
  else
    (some (.inr (.inr ())))
noncomputable def ref04_CheckRegister (v1 : Int) (v2 : (List Int)) : Option (Int) :=
  (base_Within v1 2 8).bind fun v4 =>
  if v4 = true then
    (if (decide ((v2.length : Int) = 0)) = true then
      (some (10))
    else
      ((run (ref04_CheckRegister_l1 v1 v2) 0).bind fun v13 => match v13 with
      | (.inl v14) =>
        some (v14)
      | (.inr _) =>
        (getI v2 (IntKind.i64.wrap ((v2.length : Int) - 1))).bind fun v15 =>
        if (decide (v15 ≠ v1)) = true then
          (some (6))
        else
          (some (0))))
  else
    (some (2))

end Go.Rex

namespace Go.Rex
open Go Go.Rex
noncomputable def ref04_Most_l1 (v1 : Int) : (Int × Int) → Option ((Int × Int) ⊕ ((Int))) := fun (v4, v5) =>
  if (decide (v5 < v1)) = true then
    (some (.inl ((IntKind.i64.wrap (2 * v4)), (IntKind.i64.wrap (v5 + 1)))))
  else
    (some (.inr v4))
noncomputable def ref04_Most (v1 : Int) (v2 : (List Int)) : Option (Int) :=
  (run (ref04_Most_l1 v1) (1, 0)).bind fun v7 =>
  some ((IntKind.i64.wrap (v7 - 1)))

end Go.Rex

namespace Go.Rex
open Go Go.Rex
noncomputable def ref04_StartErr (v1 : Int) (v2 : (List Int)) (v3 : Int) : Option (Int) :=
  (ref04_CheckRegister v1 v2).bind fun v5 =>
  if (decide (v5 ≠ 0)) = true then
    (some (v5))
  else
    ((ref04_Most v1 v2).bind fun v6 =>
    (base_Within v3 1 v6).bind fun v7 =>
    if v7 = true then
      (some (0))
    else
      (some (2)))

end Go.Rex

namespace Go.Rex
open Go Go.Rex
noncomputable def ref04_Bits_l2 (v2 : (List Int)) (v7 : (List Int)) (v8 : Int) : (Int × Int) → Option ((Int × Int) ⊕ ((Int))) := fun (v21, v22) =>
  if (decide (v22 < (v2.length : Int))) = true then
    ((getI v2 v22).bind fun v26 =>
    (getI v7 (IntKind.i64.wrap (v8 - v26))).bind fun v27 =>
    some (.inl ((IntKind.i64.wrap (v21 + v27)), (IntKind.i64.wrap (v22 + 1)))))
  else
    (some (.inr v21))
noncomputable def ref04_Bits_l1 (v1 : Int) (v2 : (List Int)) (v4 : Int) : (Int × (List Int) × Int) → Option ((Int × (List Int) × Int) ⊕ (((List Int)))) := fun (v6, v7, v8) =>
  if (decide (v8 < v4)) = true then
    (if (decide (v8 < v1)) = true then
      ((appI 8 v7 ([(v6.tmod 2)] : List Int)).bind fun v20 =>
      some (.inl ((IntKind.i64.wrap (v6.tdiv 2)), v20, (IntKind.i64.wrap (v8 + 1)))))
    else
      ((run (ref04_Bits_l2 v2 v7 v8) (0, 0)).bind fun v28 =>
      (appI 8 v7 ([(v28.tmod 2)] : List Int)).bind fun v29 =>
      some (.inl (v6, v29, (IntKind.i64.wrap (v8 + 1))))))
  else
    (some (.inr v7))
noncomputable def ref04_Bits (v1 : Int) (v2 : (List Int)) (v3 : Int) (v4 : Int) : Option ((List Int)) :=
  (run (ref04_Bits_l1 v1 v2 v4) (v3, ([] : List Int), 0)).bind fun v30 =>
  some (v30)

end Go.Rex

namespace Go.Rex
open Go Go.Rex
noncomputable def ref04_Signs_l1 : ((List Int) × Int) → Option (((List Int) × Int) ⊕ (((List Int)))) := fun (v7, v8) =>
  if (decide (v8 < (v7.length : Int))) = true then
    ((getI v7 v8).bind fun v11 =>
    some (.inl ((v7.set v8.toNat (IntKind.i64.wrap (1 - (IntKind.i64.wrap (2 * v11))))), (IntKind.i64.wrap (v8 + 1)))))
  else
    (some (.inr v7))
noncomputable def ref04_Signs (v1 : Int) (v2 : (List Int)) (v3 : Int) : Option ((List Int)) :=
  (ref04_Most v1 v2).bind fun v5 =>
  (ref04_Bits v1 v2 v3 v5).bind fun v6 =>
  (run (ref04_Signs_l1) (v6, 0)).bind fun v12 =>
  some (v12)

end Go.Rex

namespace Go.Rex
open Go Go.Rex
noncomputable def base_Ints_l1 (v1 : (List Int)) (v2 : (List Int)) : (Int) → Option ((Int) ⊕ ((Unit) ⊕ (Unit))) := fun v4 =>
  if (decide (v4 < (v1.length : Int))) = true then
    ((getI v1 v4).bind fun v7 =>
    (getI v2 v4).bind fun v8 =>
    if (decide (v7 ≠ v8)) = true then
      (some (.inr (.inl ())))
    else
      (some (.inl (IntKind.i64.wrap (v4 + 1)))))
  else
    (some (.inr (.inr ())))
noncomputable def base_Ints (v1 : (List Int)) (v2 : (List Int)) : Option (Bool) :=
  if (decide ((v1.length : Int) ≠ (v2.length : Int))) = true then
    (some (false))
  else
    ((run (base_Ints_l1 v1 v2) 0).bind fun v9 => match v9 with
    | (.inl _) =>
      some (false)
    | (.inr _) =>
      some (true))

end Go.Rex

namespace Go.Rex
open Go Go.Rex
noncomputable def ref04_Next_l1 (v5 : (List Int)) : (Int × Int) → Option ((Int × Int) ⊕ ((Int))) := fun (v6, v7) =>
  if (decide (v7 ≥ 1)) = true then
    ((getI v5 v7).bind fun v10 =>
    some (.inl ((IntKind.i64.wrap ((IntKind.i64.wrap (2 * v6)) + v10)), (IntKind.i64.wrap (v7 - 1)))))
  else
    (some (.inr v6))
noncomputable def ref04_Next (v1 : Int) (v2 : (List Int)) (v3 : Int) : Option (Int) :=
  (ref04_Bits v1 v2 v3 (IntKind.i64.wrap (v1 + 1))).bind fun v5 =>
  (run (ref04_Next_l1 v5) (0, v1)).bind fun v11 =>
  some (v11)

end Go.Rex

namespace Go.Rex
open Go Go.Rex
noncomputable def ref04_Period_l1 (v1 : Int) (v2 : (List Int)) (v3 : Int) : (Int × Int) → Option ((Int × Int) ⊕ ((Int))) := fun (v6, v7) =>
  if (decide (v7 ≠ v3)) = true then
    ((ref04_Next v1 v2 v7).bind fun v10 =>
    some (.inl ((IntKind.i64.wrap (v6 + 1)), v10)))
  else
    (some (.inr v6))
noncomputable def ref04_Period (v1 : Int) (v2 : (List Int)) (v3 : Int) : Option (Int) :=
  (ref04_Next v1 v2 v3).bind fun v5 =>
  (run (ref04_Period_l1 v1 v2 v3) (1, v5)).bind fun v11 =>
  some (v11)

end Go.Rex

namespace Go.Rex
open Go Go.Rex
noncomputable def ref04_StateAt_l1 (v1 : Int) (v2 : (List Int)) (v3 : Int) (v4 : Int) : (Int × Int) → Option ((Int × Int) ⊕ ((Int))) := fun (v6, v7) =>
  (ref04_Period v1 v2 v3).bind fun v11 =>
  if v11 = 0 then none else
  (if (decide (v7 < (v4.tmod v11))) = true then
    ((ref04_Next v1 v2 v6).bind fun v12 =>
    some (.inl (v12, (IntKind.i64.wrap (v7 + 1)))))
  else
    (some (.inr v6)))
noncomputable def ref04_StateAt (v1 : Int) (v2 : (List Int)) (v3 : Int) (v4 : Int) : Option (Int) :=
  (run (ref04_StateAt_l1 v1 v2 v3 v4) (v3, 0)).bind fun v13 =>
  some (v13)

end Go.Rex

namespace Go.Rex
open Go Go.Rex
noncomputable def law04_PulseStates (v1 : Int) (v2 : (List Int)) (v3 : Int) (v4 : Int) : Option Bool :=
  if (decide ((v2.length : Int) > 12)) = true then
    (some (true))
  else
    ((ref04_Copy v1 v2).bind fun (v6, v7) =>
    (pulse_StateAt v6 v7 v3 v4).bind fun (v8, v9) =>
    (ref04_Copy v1 v2).bind fun (v10, v11) =>
    (pulse_Signs v10 v11 v3).bind fun (v12, v13) =>
    (ref04_StartErr v1 v2 v3).bind fun v14 =>
    if (decide (v14 ≠ 0)) = true then
      (if (decide (v9 = v14)) = true then
        (if (decide (v13 = v14)) = true then
          (if (decide (v8 = 0)) = true then
            (some ((decide ((v12.length : Int) = 0))))
          else
            (some (false)))
        else
          (some (false)))
      else
        (some (false)))
    else
      (if (decide (v13 ≠ 0)) = true then
        (some (false))
      else
        ((ref04_Signs v1 v2 v3).bind fun v15 =>
        (base_Ints v12 v15).bind fun v16 =>
        if v16 = true then
          ((base_Within v4 0 1000000000).bind fun v17 =>
          if v17 = true then
            (if (decide (v9 = 0)) = true then
              ((ref04_StateAt v1 v2 v3 v4).bind fun v18 =>
              some ((decide (v8 = v18))))
            else
              (some (false)))
          else
            (if (decide (v9 = 2)) = true then
              (some ((decide (v8 = 0))))
            else
              (some (false))))
        else
          (some (false)))))

end Go.Rex
