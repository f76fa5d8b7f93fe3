/- The functions of the program and of the reference, as functions of lists and numbers. -/
import Derived.Test.YtncpkcngiaacaaaRexG7
set_option linter.unusedSimpArgs false
set_option linter.unusedVariables false
set_option linter.defProp false
namespace Go.Rex
open Go Go.Rex
def e_i (x : Int) : List TV := [.v (.int .i64 x)]

end Go.Rex

namespace Go.Rex
open Go Go.Rex
noncomputable def base_Within (v1 : Int) (v2 : Int) (v3 : Int) : Option (Bool) :=
  if (decide (v2 ≤ v1)) = true then
    (some ((decide (v1 ≤ v3))))
  else
    (some (false))

end Go.Rex

namespace Go.Rex
open Go Go.Rex
noncomputable def ref04_CheckRegister_l1 (v1 : Int) (v2 : (List Int)) : (Int) → Option ((Int) ⊕ ((Int) ⊕ (Unit))) := fun v5 =>
  if (decide (v5 < (v2.length : Int))) = true then
    ((getI v2 v5).bind fun v10 =>
    (base_Within v10 1 v1).bind fun v11 =>
    if v11 = true then
      (if (decide (v5 > 0)) = true then
        ((getI v2 (IntKind.i64.wrap (v5 - 1))).bind fun v12 =>
        if (decide (v10 ≤ v12)) = true then
          (some (.inr (.inl 9)))
        else
          (some (.inl (IntKind.i64.wrap (v5 + 1)))))
      else
        (some (.inl (IntKind.i64.wrap (v5 + 1)))))
    else
      (some (.inr (.inl 2))))
  else
    (some (.inr (.inr ())))
noncomputable def ref04_CheckRegister (v1 : Int) (v2 : (List Int)) : Option (Int) :=
  (base_Within v1 2 8).bind fun v4 =>
  if v4 = true then
    (if (decide ((v2.length : Int) = 0)) = true then
      (some (10))
    else
      ((run (ref04_CheckRegister_l1 v1 v2) 0).bind fun v13 => match v13 with
      | (.inl v14) =>
        some (v14)
      | (.inr _) =>
        (getI v2 (IntKind.i64.wrap ((v2.length : Int) - 1))).bind fun v15 =>
        if (decide (v15 ≠ v1)) = true then
          (some (6))
        else
          (some (0))))
  else
    (some (2))

end Go.Rex

namespace Go.Rex
open Go Go.Rex
noncomputable def ref04_Most_l1 (v1 : Int) : (Int × Int) → Option ((Int × Int) ⊕ ((Int))) := fun (v4, v5) =>
  if (decide (v5 < v1)) = true then
    (some (.inl ((IntKind.i64.wrap (2 * v4)), (IntKind.i64.wrap (v5 + 1)))))
  else
    (some (.inr v4))
noncomputable def ref04_Most (v1 : Int) (v2 : (List Int)) : Option (Int) :=
  (run (ref04_Most_l1 v1) (1, 0)).bind fun v7 =>
  some ((IntKind.i64.wrap (v7 - 1)))

end Go.Rex

namespace Go.Rex
open Go Go.Rex
noncomputable def ref04_StartErr (v1 : Int) (v2 : (List Int)) (v3 : Int) : Option (Int) :=
  (ref04_CheckRegister v1 v2).bind fun v5 =>
  if (decide (v5 ≠ 0)) = true then
    (some (v5))
  else
    ((ref04_Most v1 v2).bind fun v6 =>
    (base_Within v3 1 v6).bind fun v7 =>
    if v7 = true then
      (some (0))
    else
      (some (2)))

end Go.Rex

namespace Go.Rex
open Go Go.Rex
noncomputable def base_CopyInts (v1 : (List Int)) : Option ((List Int)) :=
  (appI 8 ([] : List Int) v1).bind fun v3 =>
  some (v3)

end Go.Rex

namespace Go.Rex
open Go Go.Rex
noncomputable def ref04_Copy (v1 : Int) (v2 : (List Int)) : Option (Int × (List Int)) :=
  (base_CopyInts v2).bind fun v5 =>
  some (v1, v5)

end Go.Rex

namespace Go.Rex
open Go Go.Rex
noncomputable def pulse_refuse (v1 : Bool) (v2 : Int) : Option (Bool × Int) :=
  some (v1, v2)

end Go.Rex

namespace Go.Rex
open Go Go.Rex
noncomputable def pulse_within (v1 : Int) (v2 : Int) (v3 : Int) : Option (Bool × Int) :=
  if (decide (v1 < v2)) = true then
    ((pulse_refuse true 2).bind fun (v6, v7) =>
    some (v6, v7))
  else
    ((pulse_refuse (decide (v1 > v3)) 2).bind fun (v8, v9) =>
    some (v8, v9))

end Go.Rex

namespace Go.Rex
open Go Go.Rex
noncomputable def pulse_each_e53c (v1 : Int) (v2 : (List Int)) (v3 : Int) (v4 : Int) : Option (Int × (List Int) × Int × Int) :=
  some (v1, v2, v3, v4)

end Go.Rex

namespace Go.Rex
open Go Go.Rex
noncomputable def pulse_ascending (v1 : (List Int)) (v2 : Int) (v3 : Int) : Option (Int × (List Int) × Int × Int) :=
  (pulse_each_e53c (v1.length : Int) v1 v2 v3).bind fun (v8, v9, v10, v11) =>
  some (v8, v9, v10, v11)

end Go.Rex

namespace Go.Rex
open Go Go.Rex
noncomputable def slices_Index_int_int_l1 (v1 : (List Int)) (v2 : Int) : (Int) → Option ((Int) ⊕ ((Int) ⊕ (Unit))) := fun v4 =>
  if (decide (v4 < (v1.length : Int))) = true then
    ((getI v1 v4).bind fun v7 =>
    if (decide (v2 = v7)) = true then
      (some (.inr (.inl v4)))
    else
      (some (.inl (IntKind.i64.wrap (v4 + 1)))))
  else
    (some (.inr (.inr ())))
noncomputable def slices_Index_int_int (v1 : (List Int)) (v2 : Int) : Option (Int) :=
  (run (slices_Index_int_int_l1 v1 v2) 0).bind fun v8 => match v8 with
  | (.inl v9) =>
    some (v9)
  | (.inr _) =>
    some ((-1))

end Go.Rex

namespace Go.Rex
open Go Go.Rex
noncomputable def slices_Contains_int_int (v1 : (List Int)) (v2 : Int) : Option (Bool) :=
  (slices_Index_int_int v1 v2).bind fun v4 =>
  some ((decide (v4 ≥ 0)))

end Go.Rex

namespace Go.Rex
open Go Go.Rex
noncomputable def pulse_refuse_c1_11f9 (v1 : Bool) (v2 : Int) : Option (Int) :=
  if v1 = true then
    (some (v2))
  else
    (some (0))

end Go.Rex

namespace Go.Rex
open Go Go.Rex
noncomputable def pulse_firstError_9abe (v1 : Bool) (v2 : Int) (v3 : Bool) (v4 : Int) : Option (Int) :=
  (pulse_refuse_c1_11f9 v1 v2).bind fun v6 =>
  if (decide (v6 ≠ 0)) = true then
    (some (v6))
  else
    ((pulse_refuse_c1_11f9 v3 v4).bind fun v7 =>
    if (decide (v7 ≠ 0)) = true then
      (some (v7))
    else
      (some (0)))

end Go.Rex

namespace Go.Rex
open Go Go.Rex
noncomputable def pulse_ascending_c1_ea58 (v1 : Int) (v2 : (List Int)) (v3 : Int) (v4 : Int) : Option (Int) :=
  (getI v2 v1).bind fun v6 =>
  (pulse_within v6 v3 v4).bind fun (v7, v8) =>
  if (decide (v1 > 0)) = true then
    ((getI v2 (IntKind.i64.wrap (v1 - 1))).bind fun v9 =>
    (pulse_refuse (decide (v6 ≤ v9)) 9).bind fun (v10, v11) =>
    (pulse_firstError_9abe v7 v8 v10 v11).bind fun v12 =>
    some (v12))
  else
    ((pulse_refuse false 9).bind fun (v13, v14) =>
    (pulse_firstError_9abe v7 v8 v13 v14).bind fun v15 =>
    some (v15))

end Go.Rex

namespace Go.Rex
open Go Go.Rex
noncomputable def pulse_each_c1_4fde_l1 (v1 : Int) (v2 : (List Int)) (v3 : Int) (v4 : Int) : (Int) → Option ((Int) ⊕ ((Int) ⊕ (Unit))) := fun v6 =>
  if (decide (v6 < v1)) = true then
    ((pulse_ascending_c1_ea58 v6 v2 v3 v4).bind fun v9 =>
    if (decide (v9 ≠ 0)) = true then
      (some (.inr (.inl v9)))
    else
      (some (.inl (IntKind.i64.wrap (v6 + 1)))))
  else
    (some (.inr (.inr ())))
noncomputable def pulse_each_c1_4fde (v1 : Int) (v2 : (List Int)) (v3 : Int) (v4 : Int) : Option (Int) :=
  (run (pulse_each_c1_4fde_l1 v1 v2 v3 v4) 0).bind fun v10 => match v10 with
  | (.inl v11) =>
    some (v11)
  | (.inr _) =>
    some (0)

end Go.Rex

namespace Go.Rex
open Go Go.Rex
noncomputable def pulse_firstError_6869 (v1 : Bool) (v2 : Int) (v3 : Bool) (v4 : Int) (v5 : Int) (v6 : (List Int)) (v7 : Int) (v8 : Int) (v9 : Bool) (v10 : Int) : Option (Int) :=
  (pulse_refuse_c1_11f9 v1 v2).bind fun v12 =>
  if (decide (v12 ≠ 0)) = true then
    (some (v12))
  else
    ((pulse_refuse_c1_11f9 v3 v4).bind fun v13 =>
    if (decide (v13 ≠ 0)) = true then
      (some (v13))
    else
      ((pulse_each_c1_4fde v5 v6 v7 v8).bind fun v14 =>
      if (decide (v14 ≠ 0)) = true then
        (some (v14))
      else
        ((pulse_refuse_c1_11f9 v9 v10).bind fun v15 =>
        if (decide (v15 ≠ 0)) = true then
          (some (v15))
        else
          (some (0)))))

end Go.Rex

namespace Go.Rex
open Go Go.Rex
noncomputable def pulse_CheckRegister (v1 : Int) (v2 : (List Int)) : Option (Int) :=
  (pulse_within v1 2 8).bind fun (v4, v5) =>
  (pulse_refuse (decide ((v2.length : Int) = 0)) 10).bind fun (v6, v7) =>
  (pulse_ascending v2 1 v1).bind fun (v8, v9, v10, v11) =>
  (slices_Contains_int_int v2 v1).bind fun v12 =>
  (pulse_refuse (!v12) 6).bind fun (v13, v14) =>
  (pulse_firstError_6869 v4 v5 v6 v7 v8 v9 v10 v11 v13 v14).bind fun v15 =>
  some (v15)

end Go.Rex

namespace Go.Rex
open Go Go.Rex
noncomputable def pulse_generator_check (v1 : Int) (v2 : (List Int)) : Option (Int) :=
  (pulse_CheckRegister v1 v2).bind fun v4 =>
  some (v4)

end Go.Rex

namespace Go.Rex
open Go Go.Rex
noncomputable def pulse_generator_next_l1 (v1 : Int) (v2 : (List Int)) (v3 : Int) : (Int × Int) → Option ((Int × Int) ⊕ ((Int))) := fun (v5, v6) =>
  if (decide (v6 < (v2.length : Int))) = true then
    ((getI v2 v6).bind fun v10 =>
    (shI .shr .i64 v3 (IntKind.i64.wrap (v1 - v10))).bind fun v11 =>
    some (.inl ((bitI .xor .i64 v5 (bitI .and .i64 v11 1)), (IntKind.i64.wrap (v6 + 1)))))
  else
    (some (.inr v5))
noncomputable def pulse_generator_next (v1 : Int) (v2 : (List Int)) (v3 : Int) : Option (Int) :=
  (run (pulse_generator_next_l1 v1 v2 v3) (0, 0)).bind fun v12 =>
  (shI .shr .i64 v3 1).bind fun v13 =>
  (shI .shl .i64 v12 (IntKind.i64.wrap (v1 - 1))).bind fun v14 =>
  some ((bitI .or .i64 v13 v14))

end Go.Rex

namespace Go.Rex
open Go Go.Rex
noncomputable def pulse_generator_states (v1 : Int) (v2 : (List Int)) (v3 : Int) : Option (Int × Int × (List Int)) :=
  some (v3, v1, v2)

end Go.Rex

namespace Go.Rex
open Go Go.Rex
noncomputable def pulse_generator_states_c1_3283_l1 {X : Type} (H : (Int) → X → Option (Bool × X)) (v2 : Int) (v3 : (List Int)) : (Int × X) → Option ((Int × X) ⊕ ((X))) := fun (v5, v6) =>
  (H v5 v6).bind fun (v11, v12) =>
  if v11 = true then
    ((pulse_generator_next v2 v3 v5).bind fun v13 =>
    some (.inl (v13, v12)))
  else
    (some (.inr v12))
noncomputable def pulse_generator_states_c1_3283_it (v1 : Int) (v2 : Int) (v3 : (List Int)) {X : Type} (H : (Int) → X → Option (Bool × X)) (v4 : X) : Option X :=
  (run (pulse_generator_states_c1_3283_l1 H v2 v3) (v1, v4)).bind fun v14 =>
  some v14

end Go.Rex

namespace Go.Rex
open Go Go.Rex
noncomputable def pulse_generator_period_l1 (v3 : Int) : ((Int)) → (Int) → Option ((Int) ⊕ ((Int))) := fun v12 v9 =>
  if (decide (v12 = v3)) = true then
    (some (.inr v9))
  else
    (some (.inl (IntKind.i64.wrap (v9 + 1))))
noncomputable def pulse_generator_period (v1 : Int) (v2 : (List Int)) (v3 : Int) : Option (Int) :=
  (pulse_generator_next v1 v2 v3).bind fun v5 =>
  (pulse_generator_states v1 v2 v5).bind fun (v6, v7, v8) =>
  (pulse_generator_states_c1_3283_it v6 v7 v8 (hand (pulse_generator_period_l1 v3)) (.inl 1)).bind fun v13 => match v13 with
  | .inl v14 =>
    some (v14)
  | .inr v15 =>
    some (v15)

end Go.Rex

namespace Go.Rex
open Go Go.Rex
noncomputable def pulse_generator_fullPeriod (v1 : Int) (v2 : (List Int)) : Option (Int) :=
  (shI .shl .i64 1 v1).bind fun v4 =>
  some ((IntKind.i64.wrap (v4 - 1)))

end Go.Rex

namespace Go.Rex
open Go Go.Rex
noncomputable def pulse_generator_isMaximal (v1 : Int) (v2 : (List Int)) : Option (Bool) :=
  (pulse_generator_period v1 v2 1).bind fun v4 =>
  (pulse_generator_fullPeriod v1 v2).bind fun v5 =>
  some ((decide (v4 = v5)))

end Go.Rex

namespace Go.Rex
open Go Go.Rex
noncomputable def pulse_IsMaximal (v1 : Int) (v2 : (List Int)) : Option (Bool × Int) :=
  (pulse_generator_check v1 v2).bind fun v5 =>
  if (decide (v5 ≠ 0)) = true then
    (some (false, v5))
  else
    ((pulse_generator_isMaximal v1 v2).bind fun v6 =>
    some (v6, 0))

end Go.Rex

namespace Go.Rex
open Go Go.Rex
noncomputable def pulse_generator_startsAt (v1 : Int) (v2 : (List Int)) (v3 : Int) : Option (Int × Int × (List Int)) :=
  some (v3, v1, v2)

end Go.Rex

namespace Go.Rex
open Go Go.Rex
noncomputable def pulse_generator_startsAt_c1_63b1 (v1 : Int) (v2 : Int) (v3 : (List Int)) : Option (Int) :=
  (pulse_generator_fullPeriod v2 v3).bind fun v5 =>
  (pulse_within v1 1 v5).bind fun (v6, v7) =>
  (pulse_refuse_c1_11f9 v6 v7).bind fun v8 =>
  some (v8)

end Go.Rex

namespace Go.Rex
open Go Go.Rex
noncomputable def pulse_firstError_1137 (v1 : Int) (v2 : (List Int)) (v3 : Int) (v4 : Int) (v5 : (List Int)) : Option (Int) :=
  (pulse_generator_check v1 v2).bind fun v7 =>
  if (decide (v7 ≠ 0)) = true then
    (some (v7))
  else
    ((pulse_generator_startsAt_c1_63b1 v3 v4 v5).bind fun v8 =>
    if (decide (v8 ≠ 0)) = true then
      (some (v8))
    else
      (some (0)))

end Go.Rex

namespace Go.Rex
open Go Go.Rex
noncomputable def pulse_Period (v1 : Int) (v2 : (List Int)) (v3 : Int) : Option (Int × Int) :=
  (pulse_generator_startsAt v1 v2 v3).bind fun (v6, v7, v8) =>
  (pulse_firstError_1137 v1 v2 v6 v7 v8).bind fun v9 =>
  if (decide (v9 ≠ 0)) = true then
    (some (0, v9))
  else
    ((pulse_generator_period v1 v2 v3).bind fun v10 =>
    some (v10, 0))

end Go.Rex

namespace Go.Rex
open Go Go.Rex
noncomputable def ref04_Primes_l2 (v5 : Int) : (Int) → Option ((Int) ⊕ ((Int))) := fun v12 =>
  if (decide ((v12.tmod v5) = 0)) = true then
    (some (.inl (IntKind.i64.wrap (v12.tdiv v5))))
  else
    (some (.inr v12))
noncomputable def ref04_Primes_l3 : (Unit) → Option ((Unit) ⊕ ((Unit))) := fun _ =>
  some (.inr ())
noncomputable def ref04_Primes_l1 : (Int × (List Int) × Int) → Option ((Int × (List Int) × Int) ⊕ (((List Int)))) := fun (v3, v4, v5) =>
  if (decide (v3 > 1)) = true then
    (if v5 = 0 then none else
    (if (decide ((v3.tmod v5) = 0)) = true then
      ((appI 8 v4 ([v5] : List Int)).bind fun v11 =>
      (run (ref04_Primes_l2 v5) v3).bind fun v14 =>
      some (.inl (v14, v11, (IntKind.i64.wrap (v5 + 1)))))
    else
      ((run (ref04_Primes_l3) ()).bind fun _ =>
      some (.inl (v3, v4, (IntKind.i64.wrap (v5 + 1)))))))
  else
    (some (.inr v4))
noncomputable def ref04_Primes (v1 : Int) : Option ((List Int)) :=
  (run (ref04_Primes_l1) (v1, ([] : List Int), 2)).bind fun v15 =>
  some (v15)

end Go.Rex

namespace Go.Rex
open Go Go.Rex
noncomputable def pulse_isPrime_l1 (v1 : Int) : (Int) → Option ((Int) ⊕ ((Unit) ⊕ (Unit))) := fun v3 =>
  if (decide ((IntKind.i64.wrap (v3 * v3)) ≤ v1)) = true then
    (if v3 = 0 then none else
    (if (decide ((v1.tmod v3) = 0)) = true then
      (some (.inr (.inl ())))
    else
      (some (.inl (IntKind.i64.wrap (v3 + 1))))))
  else
    (some (.inr (.inr ())))
noncomputable def pulse_isPrime (v1 : Int) : Option (Bool) :=
  (run (pulse_isPrime_l1 v1) 2).bind fun v4 => match v4 with
  | (.inl _) =>
    some (false)
  | (.inr _) =>
    some (true)

end Go.Rex

namespace Go.Rex
open Go Go.Rex
noncomputable def pulse_generator_stateAt_l1 (v1 : Int) (v2 : (List Int)) (v4 : Int) : (Int × Int) → Option ((Int × Int) ⊕ ((Int))) := fun (v6, v7) =>
  if (decide (v7 < v4)) = true then
    ((pulse_generator_next v1 v2 v6).bind fun v10 =>
    some (.inl (v10, (IntKind.i64.wrap (v7 + 1)))))
  else
    (some (.inr v6))
noncomputable def pulse_generator_stateAt (v1 : Int) (v2 : (List Int)) (v3 : Int) (v4 : Int) : Option (Int) :=
  (run (pulse_generator_stateAt_l1 v1 v2 v4) (v3, 0)).bind fun v11 =>
  some (v11)

end Go.Rex

namespace Go.Rex
open Go Go.Rex
noncomputable def pulse_without_l1 (v2 : Int) : (Int) → Option ((Int) ⊕ ((Int))) := fun v4 =>
  if v2 = 0 then none else
  (if (decide ((v4.tmod v2) = 0)) = true then
    (some (.inl (IntKind.i64.wrap (v4.tdiv v2))))
  else
    (some (.inr v4)))
noncomputable def pulse_without (v1 : Int) (v2 : Int) : Option (Int) :=
  (run (pulse_without_l1 v2) v1).bind fun v6 =>
  some (v6)

end Go.Rex

namespace Go.Rex
open Go Go.Rex
noncomputable def pulse_generator_isProvedBy_l1 (v1 : Int) (v2 : (List Int)) (v3 : (List Int)) (v5 : Int) : (Int × Int) → Option ((Int × Int) ⊕ ((Unit) ⊕ (Int))) := fun (v6, v7) =>
  if (decide (v7 < (v3.length : Int))) = true then
    ((getI v3 v7).bind fun v13 =>
    (pulse_isPrime v13).bind fun v14 =>
    if v14 = true then
      (if v13 = 0 then none else
      (if (decide ((v5.tmod v13) ≠ 0)) = true then
        (some (.inr (.inl ())))
      else
        ((pulse_generator_stateAt v1 v2 1 (IntKind.i64.wrap (v5.tdiv v13))).bind fun v15 =>
        if (decide (v15 = 1)) = true then
          (some (.inr (.inl ())))
        else
          ((pulse_without v6 v13).bind fun v16 =>
          some (.inl (v16, (IntKind.i64.wrap (v7 + 1))))))))
    else
      (some (.inr (.inl ()))))
  else
    (some (.inr (.inr v6)))
noncomputable def pulse_generator_isProvedBy (v1 : Int) (v2 : (List Int)) (v3 : (List Int)) : Option (Bool) :=
  (pulse_generator_fullPeriod v1 v2).bind fun v5 =>
  (run (pulse_generator_isProvedBy_l1 v1 v2 v3 v5) (v5, 0)).bind fun v17 => match v17 with
  | (.inl _) =>
    some (false)
  | (.inr v18) =>
    if (decide (v18 = 1)) = true then
      ((pulse_generator_stateAt v1 v2 1 v5).bind fun v19 =>
      some ((decide (v19 = 1))))
    else
      (some (false))

end Go.Rex

namespace Go.Rex
open Go Go.Rex
noncomputable def pulse_CheckMaximal_c1_2d5b (v1 : Int) (v2 : (List Int)) (v3 : (List Int)) : Option (Int) :=
  (pulse_generator_isProvedBy v1 v2 v3).bind fun v5 =>
  (pulse_refuse (!v5) 20).bind fun (v6, v7) =>
  (pulse_refuse_c1_11f9 v6 v7).bind fun v8 =>
  some (v8)

end Go.Rex

namespace Go.Rex
open Go Go.Rex
noncomputable def pulse_firstError_db1e (v1 : Int) (v2 : (List Int)) (v3 : Bool) (v4 : Int) (v5 : Int) (v6 : (List Int)) (v7 : Int) (v8 : Int) (v9 : Int) (v10 : (List Int)) (v11 : (List Int)) : Option (Int) :=
  (pulse_generator_check v1 v2).bind fun v13 =>
  if (decide (v13 ≠ 0)) = true then
    (some (v13))
  else
    ((pulse_refuse_c1_11f9 v3 v4).bind fun v14 =>
    if (decide (v14 ≠ 0)) = true then
      (some (v14))
    else
      ((pulse_each_c1_4fde v5 v6 v7 v8).bind fun v15 =>
      if (decide (v15 ≠ 0)) = true then
        (some (v15))
      else
        ((pulse_CheckMaximal_c1_2d5b v9 v10 v11).bind fun v16 =>
        if (decide (v16 ≠ 0)) = true then
          (some (v16))
        else
          (some (0)))))

end Go.Rex

namespace Go.Rex
open Go Go.Rex
noncomputable def pulse_CheckMaximal (v1 : Int) (v2 : (List Int)) (v3 : (List Int)) : Option (Int) :=
  (pulse_refuse (decide ((v3.length : Int) > 8)) 8).bind fun (v5, v6) =>
  (pulse_ascending v3 2 255).bind fun (v7, v8, v9, v10) =>
  (pulse_firstError_db1e v1 v2 v5 v6 v7 v8 v9 v10 v1 v2 v3).bind fun v11 =>
  some (v11)

end Go.Rex

namespace Go.Rex
open Go Go.Rex
noncomputable def pulse_generator_bits_l1 (v4 : Int) : ((Int)) → ((List Int)) → Option (((List Int)) ⊕ (((List Int)))) := fun v13 v9 =>
  if (decide ((v9.length : Int) = v4)) = true then
    (some (.inr v9))
  else
    ((appI 8 v9 ([(bitI .and .i64 v13 1)] : List Int)).bind fun v14 =>
    some (.inl v14))
noncomputable def pulse_generator_bits (v1 : Int) (v2 : (List Int)) (v3 : Int) (v4 : Int) : Option ((List Int)) :=
  (pulse_generator_states v1 v2 v3).bind fun (v6, v7, v8) =>
  (pulse_generator_states_c1_3283_it v6 v7 v8 (hand (pulse_generator_bits_l1 v4)) (.inl ([] : List Int))).bind fun v15 => match v15 with
  | .inl v16 =>
    some (v16)
  | .inr v17 =>
    some (v17)

end Go.Rex

namespace Go.Rex
open Go Go.Rex
noncomputable def pulse_generator_signs_l1 (v6 : (List Int)) : ((List Int) × Int) → Option (((List Int) × Int) ⊕ (((List Int)))) := fun (v7, v8) =>
  if (decide (v8 < (v6.length : Int))) = true then
    ((getI v7 v8).bind fun v11 =>
    some (.inl ((v7.set v8.toNat (IntKind.i64.wrap (1 - (IntKind.i64.wrap (2 * v11))))), (IntKind.i64.wrap (v8 + 1)))))
  else
    (some (.inr v7))
noncomputable def pulse_generator_signs (v1 : Int) (v2 : (List Int)) (v3 : Int) : Option ((List Int)) :=
  (pulse_generator_fullPeriod v1 v2).bind fun v5 =>
  (pulse_generator_bits v1 v2 v3 v5).bind fun v6 =>
  (run (pulse_generator_signs_l1 v6) (v6, 0)).bind fun v12 =>
  some (v12)

end Go.Rex

namespace Go.Rex
open Go Go.Rex
noncomputable def pulse_Signs (v1 : Int) (v2 : (List Int)) (v3 : Int) : Option ((List Int) × Int) :=
  (pulse_generator_startsAt v1 v2 v3).bind fun (v6, v7, v8) =>
  (pulse_firstError_1137 v1 v2 v6 v7 v8).bind fun v9 =>
  if (decide (v9 ≠ 0)) = true then
    (some (([] : List Int), v9))
  else
    ((pulse_generator_signs v1 v2 v3).bind fun v10 =>
    some (v10, 0))

end Go.Rex

namespace Go.Rex
open Go Go.Rex
noncomputable def pulse_each_5d6f (v1 : Int) (v2 : (List Int)) (v3 : Int) : Option (Int × (List Int) × Int) :=
  some (v1, v2, v3)

end Go.Rex

namespace Go.Rex
open Go Go.Rex
noncomputable def pulse_allSmall (v1 : (List Int)) (v2 : Int) : Option (Int × (List Int) × Int) :=
  (pulse_each_5d6f (v1.length : Int) v1 v2).bind fun (v6, v7, v8) =>
  some (v6, v7, v8)

end Go.Rex

namespace Go.Rex
open Go Go.Rex
noncomputable def pulse_allSmall_c1_b1a9 (v1 : Int) (v2 : (List Int)) (v3 : Int) : Option (Int) :=
  (getI v2 v1).bind fun v5 =>
  (pulse_within v5 (IntKind.i64.wrap (0 - v3)) v3).bind fun (v6, v7) =>
  (pulse_refuse_c1_11f9 v6 v7).bind fun v8 =>
  some (v8)

end Go.Rex

namespace Go.Rex
open Go Go.Rex
noncomputable def pulse_each_c1_9286_l1 (v1 : Int) (v2 : (List Int)) (v3 : Int) : (Int) → Option ((Int) ⊕ ((Int) ⊕ (Unit))) := fun v5 =>
  if (decide (v5 < v1)) = true then
    ((pulse_allSmall_c1_b1a9 v5 v2 v3).bind fun v8 =>
    if (decide (v8 ≠ 0)) = true then
      (some (.inr (.inl v8)))
    else
      (some (.inl (IntKind.i64.wrap (v5 + 1)))))
  else
    (some (.inr (.inr ())))
noncomputable def pulse_each_c1_9286 (v1 : Int) (v2 : (List Int)) (v3 : Int) : Option (Int) :=
  (run (pulse_each_c1_9286_l1 v1 v2 v3) 0).bind fun v9 => match v9 with
  | (.inl v10) =>
    some (v10)
  | (.inr _) =>
    some (0)

end Go.Rex

namespace Go.Rex
open Go Go.Rex
noncomputable def pulse_firstError_df81 (v1 : Bool) (v2 : Int) (v3 : Bool) (v4 : Int) (v5 : Int) (v6 : (List Int)) (v7 : Int) (v8 : Int) (v9 : (List Int)) (v10 : Int) (v11 : Bool) (v12 : Int) : Option (Int) :=
  (pulse_refuse_c1_11f9 v1 v2).bind fun v14 =>
  if (decide (v14 ≠ 0)) = true then
    (some (v14))
  else
    ((pulse_refuse_c1_11f9 v3 v4).bind fun v15 =>
    if (decide (v15 ≠ 0)) = true then
      (some (v15))
    else
      ((pulse_each_c1_9286 v5 v6 v7).bind fun v16 =>
      if (decide (v16 ≠ 0)) = true then
        (some (v16))
      else
        ((pulse_each_c1_9286 v8 v9 v10).bind fun v17 =>
        if (decide (v17 ≠ 0)) = true then
          (some (v17))
        else
          ((pulse_refuse_c1_11f9 v11 v12).bind fun v18 =>
          if (decide (v18 ≠ 0)) = true then
            (some (v18))
          else
            (some (0))))))

end Go.Rex

namespace Go.Rex
open Go Go.Rex
noncomputable def pulse_modulo (v1 : Int) (v2 : Int) : Option (Int) :=
  if v2 = 0 then none else
  (some (((IntKind.i64.wrap ((v1.tmod v2) + v2)).tmod v2)))

end Go.Rex

namespace Go.Rex
open Go Go.Rex
noncomputable def pulse_Correlation_l1 (v1 : (List Int)) (v2 : (List Int)) (v3 : Int) : (Int × Int) → Option ((Int × Int) ⊕ ((Int))) := fun (v19, v20) =>
  if (decide (v20 < (v1.length : Int))) = true then
    ((getI v1 v20).bind fun v25 =>
    (pulse_modulo (IntKind.i64.wrap (v20 + v3)) (v2.length : Int)).bind fun v26 =>
    (getI v2 v26).bind fun v27 =>
    some (.inl ((IntKind.i64.wrap (v19 + (IntKind.i64.wrap (v25 * v27)))), (IntKind.i64.wrap (v20 + 1)))))
  else
    (some (.inr v19))
noncomputable def pulse_Correlation_l2 (v1 : (List Int)) (v2 : (List Int)) (v3 : Int) : (Int × Int) → Option ((Int × Int) ⊕ ((Int))) := fun (v42, v43) =>
  if (decide (v43 < (v1.length : Int))) = true then
    ((getI v1 v43).bind fun v48 =>
    (pulse_modulo (IntKind.i64.wrap (v43 + v3)) (v2.length : Int)).bind fun v49 =>
    (getI v2 v49).bind fun v50 =>
    some (.inl ((IntKind.i64.wrap (v42 + (IntKind.i64.wrap (v48 * v50)))), (IntKind.i64.wrap (v43 + 1)))))
  else
    (some (.inr v42))
noncomputable def pulse_Correlation (v1 : (List Int)) (v2 : (List Int)) (v3 : Int) : Option (Int × Int) :=
  if (decide ((v1.length : Int) = 0)) = true then
    ((pulse_refuse true 10).bind fun (v6, v7) =>
    (pulse_refuse (decide ((v1.length : Int) > 1024)) 8).bind fun (v8, v9) =>
    (pulse_allSmall v1 16777216).bind fun (v10, v11, v12) =>
    (pulse_allSmall v2 16777216).bind fun (v13, v14, v15) =>
    (pulse_within v3 (-1000000000) 1000000000).bind fun (v16, v17) =>
    (pulse_firstError_df81 v6 v7 v8 v9 v10 v11 v12 v13 v14 v15 v16 v17).bind fun v18 =>
    if (decide (v18 ≠ 0)) = true then
      (some (0, v18))
    else
      ((run (pulse_Correlation_l1 v1 v2 v3) (0, 0)).bind fun v28 =>
      some (v28, 0)))
  else
    ((pulse_refuse (decide ((v2.length : Int) ≠ (v1.length : Int))) 10).bind fun (v29, v30) =>
    (pulse_refuse (decide ((v1.length : Int) > 1024)) 8).bind fun (v31, v32) =>
    (pulse_allSmall v1 16777216).bind fun (v33, v34, v35) =>
    (pulse_allSmall v2 16777216).bind fun (v36, v37, v38) =>
    (pulse_within v3 (-1000000000) 1000000000).bind fun (v39, v40) =>
    (pulse_firstError_df81 v29 v30 v31 v32 v33 v34 v35 v36 v37 v38 v39 v40).bind fun v41 =>
    if (decide (v41 ≠ 0)) = true then
      (some (0, v41))
    else
      ((run (pulse_Correlation_l2 v1 v2 v3) (0, 0)).bind fun v51 =>
      some (v51, 0)))

end Go.Rex

namespace Go.Rex
open Go Go.Rex
noncomputable def base_Mod (v1 : Int) (v2 : Int) : Option (Int) :=
  if v2 = 0 then none else
  (if (decide ((v1.tmod v2) < 0)) = true then
    (some ((IntKind.i64.wrap ((v1.tmod v2) + v2))))
  else
    (some ((v1.tmod v2))))

end Go.Rex

namespace Go.Rex
open Go Go.Rex
noncomputable def law04_PulsePeriods_l1 (v7 : Int) (v22 : (List Int)) : (Int × Int) → Option ((Int × Int) ⊕ ((Int))) := fun (v24, v25) =>
  if (decide (v25 < v7)) = true then
    ((getI v22 v25).bind fun v28 =>
    some (.inl ((IntKind.i64.wrap (v24 + v28)), (IntKind.i64.wrap (v25 + 1)))))
  else
    (some (.inr v24))
noncomputable def law04_PulsePeriods (v1 : Int) (v2 : (List Int)) (v3 : Int) (v4 : Int) : Option Bool :=
  if (decide ((v2.length : Int) > 12)) = true then
    (some (true))
  else
    ((ref04_StartErr v1 v2 v3).bind fun v6 =>
    if (decide (v6 ≠ 0)) = true then
      (some (true))
    else
      ((ref04_Most v1 v2).bind fun v7 =>
      (ref04_Copy v1 v2).bind fun (v8, v9) =>
      (pulse_IsMaximal v8 v9).bind fun (v10, v11) =>
      (ref04_Copy v1 v2).bind fun (v12, v13) =>
      (pulse_Period v12 v13 v3).bind fun (v14, v15) =>
      if (decide (v11 ≠ 0)) = true then
        (some (false))
      else
        (if (decide (v15 ≠ 0)) = true then
          (some (false))
        else
          ((ref04_Copy v1 v2).bind fun (v16, v17) =>
          (ref04_Primes v7).bind fun v18 =>
          (pulse_CheckMaximal v16 v17 v18).bind fun v19 =>
          if v10 = true then
            (if (decide (v19 ≠ 0)) = true then
              (some (false))
            else
              ((ref04_Copy v1 v2).bind fun (v20, v21) =>
              (pulse_Signs v20 v21 v3).bind fun (v22, v23) =>
              if (decide (v23 ≠ 0)) = true then
                (some (false))
              else
                (if (decide (v14 ≠ v7)) = true then
                  (some (false))
                else
                  (if (decide ((v22.length : Int) ≠ v7)) = true then
                    (some (false))
                  else
                    ((run (law04_PulsePeriods_l1 v7 v22) (0, 0)).bind fun v29 =>
                    (base_CopyInts v22).bind fun v30 =>
                    (base_CopyInts v22).bind fun v31 =>
                    (pulse_Correlation v30 v31 v4).bind fun (v32, v33) =>
                    (base_Within v4 (-1000000000) 1000000000).bind fun v34 =>
                    if v34 = true then
                      ((base_Mod v4 v7).bind fun v35 =>
                      if (decide (v35 = 0)) = true then
                        (if (decide (v33 = 0)) = true then
                          (if (decide (v32 = v7)) = true then
                            (some ((decide (v29 = (-1)))))
                          else
                            (some (false)))
                        else
                          (some (false)))
                      else
                        (if (decide (v33 = 0)) = true then
                          (if (decide (v32 = (-1))) = true then
                            (some ((decide (v29 = (-1)))))
                          else
                            (some (false)))
                        else
                          (some (false))))
                    else
                      (if (decide (v33 = 2)) = true then
                        (some ((decide (v29 = (-1)))))
                      else
                        (some (false))))))))
          else
            (some ((decide (v19 = 20))))))))

end Go.Rex
