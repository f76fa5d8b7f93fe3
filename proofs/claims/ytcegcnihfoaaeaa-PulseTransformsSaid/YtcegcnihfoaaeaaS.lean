/- The functions of the program and of the reference, as functions of lists and numbers. -/
import Derived.Test.YtcegcnihfoaaeaaTexT
set_option linter.unusedSimpArgs false
set_option linter.unusedVariables false
set_option linter.defProp false
namespace Go.Rex
open Go Go.Rex
def e_i (x : Int) : List TV := [.v (.int .i64 x)]

end Go.Rex

namespace Go.Rex
open Go Go.Rex
noncomputable def base_CopyInts (v1 : (List Int)) : Option ((List Int)) :=
  (appI 8 ([] : List Int) v1).bind fun v3 =>
  some (v3)

end Go.Rex

namespace Go.Rex
open Go Go.Rex
noncomputable def pulse_field_transformed (v1 : Int) (v2 : Int) (v3 : Int) (v4 : (List Int)) : Option ((List Int) × Int × Int × Int) :=
  some (v4, v1, v2, v3)

end Go.Rex

namespace Go.Rex
open Go Go.Rex
noncomputable def pulse_refuse (v1 : Bool) (v2 : Int) : Option (Bool × Int) :=
  some (v1, v2)

end Go.Rex

namespace Go.Rex
open Go Go.Rex
noncomputable def pulse_each_5d6f (v1 : Int) (v2 : (List Int)) (v3 : Int) : Option (Int × (List Int) × Int) :=
  some (v1, v2, v3)

end Go.Rex

namespace Go.Rex
open Go Go.Rex
noncomputable def pulse_allSmall (v1 : (List Int)) (v2 : Int) : Option (Int × (List Int) × Int) :=
  (pulse_each_5d6f (v1.length : Int) v1 v2).bind fun (v6, v7, v8) =>
  some (v6, v7, v8)

end Go.Rex

namespace Go.Rex
open Go Go.Rex
noncomputable def pulse_refuse_c1_11f9 (v1 : Bool) (v2 : Int) : Option (Int) :=
  if v1 = true then
    (some (v2))
  else
    (some (0))

end Go.Rex

namespace Go.Rex
open Go Go.Rex
noncomputable def pulse_within (v1 : Int) (v2 : Int) (v3 : Int) : Option (Bool × Int) :=
  if (decide (v1 < v2)) = true then
    ((pulse_refuse true 2).bind fun (v6, v7) =>
    some (v6, v7))
  else
    ((pulse_refuse (decide (v1 > v3)) 2).bind fun (v8, v9) =>
    some (v8, v9))

end Go.Rex

namespace Go.Rex
open Go Go.Rex
noncomputable def pulse_allSmall_c1_b1a9 (v1 : Int) (v2 : (List Int)) (v3 : Int) : Option (Int) :=
  (getI v2 v1).bind fun v5 =>
  (pulse_within v5 (IntKind.i64.wrap (0 - v3)) v3).bind fun (v6, v7) =>
  (pulse_refuse_c1_11f9 v6 v7).bind fun v8 =>
  some (v8)

end Go.Rex

namespace Go.Rex
open Go Go.Rex
noncomputable def pulse_each_c1_9286_l1 (v1 : Int) (v2 : (List Int)) (v3 : Int) : (Int) → Option ((Int) ⊕ ((Int) ⊕ (Unit))) := fun v5 =>
  if (decide (v5 < v1)) = true then
    ((pulse_allSmall_c1_b1a9 v5 v2 v3).bind fun v8 =>
    if (decide (v8 ≠ 0)) = true then
      (some (.inr (.inl v8)))
    else
      (some (.inl (IntKind.i64.wrap (v5 + 1)))))
  else
    (some (.inr (.inr ())))
noncomputable def pulse_each_c1_9286 (v1 : Int) (v2 : (List Int)) (v3 : Int) : Option (Int) :=
  (run (pulse_each_c1_9286_l1 v1 v2 v3) 0).bind fun v9 => match v9 with
  | (.inl v10) =>
    some (v10)
  | (.inr _) =>
    some (0)

end Go.Rex

namespace Go.Rex
open Go Go.Rex
noncomputable def pulse_isPrime_l1 (v1 : Int) : (Int) → Option ((Int) ⊕ ((Unit) ⊕ (Unit))) := fun v3 =>
  if (decide ((IntKind.i64.wrap (v3 * v3)) ≤ v1)) = true then
    (if v3 = 0 then none else
    (if (decide ((v1.tmod v3) = 0)) = true then
      (some (.inr (.inl ())))
    else
      (some (.inl (IntKind.i64.wrap (v3 + 1))))))
  else
    (some (.inr (.inr ())))
noncomputable def pulse_isPrime (v1 : Int) : Option (Bool) :=
  (run (pulse_isPrime_l1 v1) 2).bind fun v4 => match v4 with
  | (.inl _) =>
    some (false)
  | (.inr _) =>
    some (true)

end Go.Rex

namespace Go.Rex
open Go Go.Rex
noncomputable def pulse_CheckField_c1_aed7 (v1 : Int) (v2 : Int) (v3 : Int) : Option (Int) :=
  (pulse_isPrime v1).bind fun v5 =>
  (pulse_refuse (!v5) 15).bind fun (v6, v7) =>
  (pulse_refuse_c1_11f9 v6 v7).bind fun v8 =>
  some (v8)

end Go.Rex

namespace Go.Rex
open Go Go.Rex
noncomputable def pulse_CheckField_c2_aed7 (v1 : Int) (v2 : Int) (v3 : Int) : Option (Int) :=
  if v3 = 0 then none else
  ((pulse_refuse (decide (((IntKind.i64.wrap (v1 - 1)).tmod v3) ≠ 0)) 13).bind fun (v5, v6) =>
  (pulse_refuse_c1_11f9 v5 v6).bind fun v7 =>
  some (v7))

end Go.Rex

namespace Go.Rex
open Go Go.Rex
noncomputable def pulse_field_product (v1 : Int) (v2 : Int) (v3 : Int) (v4 : Int) (v5 : Int) : Option (Int) :=
  if v1 = 0 then none else
  (some (((IntKind.i64.wrap (v4 * v5)).tmod v1)))

end Go.Rex

namespace Go.Rex
open Go Go.Rex
noncomputable def pulse_field_isRooted_l1 (v1 : Int) (v2 : Int) (v3 : Int) : (Int × Int) → Option ((Int × Int) ⊕ ((Int × Int))) := fun (v5, v6) =>
  if (decide (v5 ≠ 1)) = true then
    (if (decide (v6 < v3)) = true then
      ((pulse_field_product v1 v2 v3 v5 v2).bind fun v10 =>
      some (.inl (v10, (IntKind.i64.wrap (v6 + 1)))))
    else
      (some (.inr (v5, v6))))
  else
    (some (.inr (v5, v6)))
noncomputable def pulse_field_isRooted (v1 : Int) (v2 : Int) (v3 : Int) : Option (Bool) :=
  (run (pulse_field_isRooted_l1 v1 v2 v3) (v2, 1)).bind fun (v11, v12) =>
  if (decide (v11 = 1)) = true then
    (some ((decide (v12 = v3))))
  else
    (some (false))

end Go.Rex

namespace Go.Rex
open Go Go.Rex
noncomputable def pulse_CheckField_c3_aed7 (v1 : Int) (v2 : Int) (v3 : Int) : Option (Int) :=
  (pulse_field_isRooted v1 v2 v3).bind fun v5 =>
  (pulse_refuse (!v5) 20).bind fun (v6, v7) =>
  (pulse_refuse_c1_11f9 v6 v7).bind fun v8 =>
  some (v8)

end Go.Rex

namespace Go.Rex
open Go Go.Rex
noncomputable def pulse_firstError_ae77 (v1 : Bool) (v2 : Int) (v3 : Bool) (v4 : Int) (v5 : Bool) (v6 : Int) (v7 : Int) (v8 : Int) (v9 : Int) (v10 : Int) (v11 : Int) (v12 : Int) (v13 : Int) (v14 : Int) (v15 : Int) : Option (Int) :=
  (pulse_refuse_c1_11f9 v1 v2).bind fun v17 =>
  if (decide (v17 ≠ 0)) = true then
    (some (v17))
  else
    ((pulse_refuse_c1_11f9 v3 v4).bind fun v18 =>
    if (decide (v18 ≠ 0)) = true then
      (some (v18))
    else
      ((pulse_refuse_c1_11f9 v5 v6).bind fun v19 =>
      if (decide (v19 ≠ 0)) = true then
        (some (v19))
      else
        ((pulse_CheckField_c1_aed7 v7 v8 v9).bind fun v20 =>
        if (decide (v20 ≠ 0)) = true then
          (some (v20))
        else
          ((pulse_CheckField_c2_aed7 v10 v11 v12).bind fun v21 =>
          if (decide (v21 ≠ 0)) = true then
            (some (v21))
          else
            ((pulse_CheckField_c3_aed7 v13 v14 v15).bind fun v22 =>
            if (decide (v22 ≠ 0)) = true then
              (some (v22))
            else
              (some (0)))))))

end Go.Rex

namespace Go.Rex
open Go Go.Rex
noncomputable def pulse_CheckField (v1 : Int) (v2 : Int) (v3 : Int) : Option (Int) :=
  (pulse_within v1 2 2147483647).bind fun (v5, v6) =>
  (pulse_within v3 1 1024).bind fun (v7, v8) =>
  (pulse_within v2 1 (IntKind.i64.wrap (v1 - 1))).bind fun (v9, v10) =>
  (pulse_firstError_ae77 v5 v6 v7 v8 v9 v10 v1 v2 v3 v1 v2 v3 v1 v2 v3).bind fun v11 =>
  some (v11)

end Go.Rex

namespace Go.Rex
open Go Go.Rex
noncomputable def pulse_field_check (v1 : Int) (v2 : Int) (v3 : Int) : Option (Int) :=
  (pulse_CheckField v1 v2 v3).bind fun v5 =>
  some (v5)

end Go.Rex

namespace Go.Rex
open Go Go.Rex
noncomputable def pulse_firstError_b5c0 (v1 : Bool) (v2 : Int) (v3 : Int) (v4 : (List Int)) (v5 : Int) (v6 : Int) (v7 : Int) (v8 : Int) (v9 : Bool) (v10 : Int) : Option (Int) :=
  (pulse_refuse_c1_11f9 v1 v2).bind fun v12 =>
  if (decide (v12 ≠ 0)) = true then
    (some (v12))
  else
    ((pulse_each_c1_9286 v3 v4 v5).bind fun v13 =>
    if (decide (v13 ≠ 0)) = true then
      (some (v13))
    else
      ((pulse_field_check v6 v7 v8).bind fun v14 =>
      if (decide (v14 ≠ 0)) = true then
        (some (v14))
      else
        ((pulse_refuse_c1_11f9 v9 v10).bind fun v15 =>
        if (decide (v15 ≠ 0)) = true then
          (some (v15))
        else
          (some (0)))))

end Go.Rex

namespace Go.Rex
open Go Go.Rex
noncomputable def pulse_field_transformed_c1_c5e7 (v1 : (List Int)) (v2 : Int) (v3 : Int) (v4 : Int) : Option (Int) :=
  (pulse_refuse (decide ((v1.length : Int) > 1024)) 8).bind fun (v6, v7) =>
  (pulse_allSmall v1 2147483647).bind fun (v8, v9, v10) =>
  (pulse_refuse (decide ((v1.length : Int) ≠ v4)) 13).bind fun (v11, v12) =>
  (pulse_firstError_b5c0 v6 v7 v8 v9 v10 v2 v3 v4 v11 v12).bind fun v13 =>
  some (v13)

end Go.Rex

namespace Go.Rex
open Go Go.Rex
noncomputable def pulse_field_powers_l1 (v1 : Int) (v2 : Int) (v3 : Int) : ((List Int)) → Option (((List Int)) ⊕ (((List Int)))) := fun v5 =>
  if (decide ((v5.length : Int) < v3)) = true then
    ((getI v5 (IntKind.i64.wrap ((v5.length : Int) - 1))).bind fun v10 =>
    (pulse_field_product v1 v2 v3 v10 v2).bind fun v11 =>
    (appI 8 v5 ([v11] : List Int)).bind fun v12 =>
    some (.inl v12))
  else
    (some (.inr v5))
noncomputable def pulse_field_powers (v1 : Int) (v2 : Int) (v3 : Int) : Option ((List Int)) :=
  (run (pulse_field_powers_l1 v1 v2 v3) ([1] : List Int)).bind fun v13 =>
  some (v13)

end Go.Rex

namespace Go.Rex
open Go Go.Rex
noncomputable def pulse_modulo (v1 : Int) (v2 : Int) : Option (Int) :=
  if v2 = 0 then none else
  (some (((IntKind.i64.wrap ((v1.tmod v2) + v2)).tmod v2)))

end Go.Rex

namespace Go.Rex
open Go Go.Rex
noncomputable def pulse_field_transform_l2 (v1 : Int) (v2 : Int) (v3 : Int) (v4 : (List Int)) (v6 : (List Int)) (v9 : Int) : ((List Int) × Int) → Option (((List Int) × Int) ⊕ (((List Int)))) := fun (v26, v27) =>
  if (decide (v27 < (v4.length : Int))) = true then
    ((getI v4 v27).bind fun v34 =>
    (getI v26 v9).bind fun v35 =>
    (pulse_modulo v34 v1).bind fun v36 =>
    if v3 = 0 then none else
    ((getI v6 ((IntKind.i64.wrap (v27 * v9)).tmod v3)).bind fun v37 =>
    (pulse_field_product v1 v2 v3 v36 v37).bind fun v38 =>
    some (.inl ((v26.set v9.toNat (IntKind.i64.wrap (v35 + v38))), (IntKind.i64.wrap (v27 + 1))))))
  else
    (some (.inr v26))
noncomputable def pulse_field_transform_l1 (v1 : Int) (v2 : Int) (v3 : Int) (v4 : (List Int)) (v6 : (List Int)) (v7 : (List Int)) : ((List Int) × Int) → Option (((List Int) × Int) ⊕ (((List Int)))) := fun (v8, v9) =>
  if (decide (v9 < (v7.length : Int))) = true then
    ((run (pulse_field_transform_l2 v1 v2 v3 v4 v6 v9) (v8, 0)).bind fun v39 =>
    (getI v39 v9).bind fun v40 =>
    if v1 = 0 then none else
    (some (.inl ((v39.set v9.toNat (v40.tmod v1)), (IntKind.i64.wrap (v9 + 1))))))
  else
    (some (.inr v8))
noncomputable def pulse_field_transform (v1 : Int) (v2 : Int) (v3 : Int) (v4 : (List Int)) : Option ((List Int)) :=
  (pulse_field_powers v1 v2 v3).bind fun v6 =>
  (mkI 8 v3 (0 : Int)).bind fun v7 =>
  (run (pulse_field_transform_l1 v1 v2 v3 v4 v6 v7) (v7, 0)).bind fun v41 =>
  some (v41)

end Go.Rex

namespace Go.Rex
open Go Go.Rex
noncomputable def pulse_Transformed (v1 : (List Int)) (v2 : Int) (v3 : Int) (v4 : Int) : Option ((List Int) × Int) :=
  (pulse_field_transformed v2 v3 v4 v1).bind fun (v7, v8, v9, v10) =>
  (pulse_field_transformed_c1_c5e7 v7 v8 v9 v10).bind fun v11 =>
  if (decide (v11 ≠ 0)) = true then
    (some (([] : List Int), v11))
  else
    ((pulse_field_transform v2 v3 v4 v1).bind fun v12 =>
    some (v12, 0))

end Go.Rex

namespace Go.Rex
open Go Go.Rex
noncomputable def pulse_field_power_l1 (v1 : Int) (v2 : Int) (v3 : Int) : (Int × Int × Int) → Option ((Int × Int × Int) ⊕ ((Int))) := fun (v7, v8, v9) =>
  if (decide (v8 > 0)) = true then
    (if (decide ((v8.tmod 2) = 1)) = true then
      ((pulse_field_product v1 v2 v3 v9 v7).bind fun v14 =>
      (pulse_field_product v1 v2 v3 v7 v7).bind fun v15 =>
      some (.inl (v15, (IntKind.i64.wrap (v8.tdiv 2)), v14)))
    else
      ((pulse_field_product v1 v2 v3 v7 v7).bind fun v16 =>
      some (.inl (v16, (IntKind.i64.wrap (v8.tdiv 2)), v9))))
  else
    (some (.inr v9))
noncomputable def pulse_field_power (v1 : Int) (v2 : Int) (v3 : Int) (v4 : Int) (v5 : Int) : Option (Int) :=
  (run (pulse_field_power_l1 v1 v2 v3) (v4, v5, 1)).bind fun v17 =>
  some (v17)

end Go.Rex

namespace Go.Rex
open Go Go.Rex
noncomputable def pulse_field_inverse (v1 : Int) (v2 : Int) (v3 : Int) (v4 : Int) : Option (Int) :=
  (pulse_field_power v1 v2 v3 v4 (IntKind.i64.wrap (v1 - 2))).bind fun v6 =>
  some (v6)

end Go.Rex

namespace Go.Rex
open Go Go.Rex
noncomputable def pulse_field_back_l1 (v1 : Int) (v2 : Int) (v3 : Int) (v7 : Int) (v8 : (List Int)) : ((List Int) × Int) → Option (((List Int) × Int) ⊕ (((List Int)))) := fun (v9, v10) =>
  if (decide (v10 < (v8.length : Int))) = true then
    ((getI v9 v10).bind fun v14 =>
    (pulse_field_product v1 v2 v3 v14 v7).bind fun v15 =>
    some (.inl ((v9.set v10.toNat v15), (IntKind.i64.wrap (v10 + 1)))))
  else
    (some (.inr v9))
noncomputable def pulse_field_back (v1 : Int) (v2 : Int) (v3 : Int) (v4 : (List Int)) : Option ((List Int)) :=
  (pulse_field_inverse v1 v2 v3 v2).bind fun v6 =>
  (pulse_field_inverse v1 v2 v3 v3).bind fun v7 =>
  (pulse_field_transform v1 v6 v3 v4).bind fun v8 =>
  (run (pulse_field_back_l1 v1 v2 v3 v7 v8) (v8, 0)).bind fun v16 =>
  some (v16)

end Go.Rex

namespace Go.Rex
open Go Go.Rex
noncomputable def pulse_Back (v1 : (List Int)) (v2 : Int) (v3 : Int) (v4 : Int) : Option ((List Int) × Int) :=
  (pulse_field_transformed v2 v3 v4 v1).bind fun (v7, v8, v9, v10) =>
  (pulse_field_transformed_c1_c5e7 v7 v8 v9 v10).bind fun v11 =>
  if (decide (v11 ≠ 0)) = true then
    (some (([] : List Int), v11))
  else
    ((pulse_field_back v2 v3 v4 v1).bind fun v12 =>
    some (v12, 0))

end Go.Rex

namespace Go.Rex
open Go Go.Rex
noncomputable def base_Within (v1 : Int) (v2 : Int) (v3 : Int) : Option (Bool) :=
  if (decide (v2 ≤ v1)) = true then
    (some ((decide (v1 ≤ v3))))
  else
    (some (false))

end Go.Rex

namespace Go.Rex
open Go Go.Rex
noncomputable def ref04_rangeErr_l1 (v1 : (List Int)) (v2 : Int) : (Int) → Option ((Int) ⊕ ((Unit) ⊕ (Unit))) := fun v4 =>
  if (decide (v4 < (v1.length : Int))) = true then
    ((getI v1 v4).bind fun v7 =>
    (base_Within v7 (IntKind.i64.wrap (0 - v2)) v2).bind fun v8 =>
    if v8 = true then
      (some (.inl (IntKind.i64.wrap (v4 + 1))))
    else
      (some (.inr (.inl ()))))
  else
    (some (.inr (.inr ())))
noncomputable def ref04_rangeErr (v1 : (List Int)) (v2 : Int) : Option (Int) :=
  (run (ref04_rangeErr_l1 v1 v2) 0).bind fun v9 => match v9 with
  | (.inl _) =>
    some (2)
  | (.inr _) =>
    some (0)

end Go.Rex

namespace Go.Rex
open Go Go.Rex
noncomputable def ref04_IsPrime_l1 (v1 : Int) : (Int) → Option ((Int) ⊕ ((Unit) ⊕ (Unit))) := fun v3 =>
  if (decide ((IntKind.i64.wrap (v3 * v3)) ≤ v1)) = true then
    (if v3 = 0 then none else
    (if (decide ((v1.tmod v3) = 0)) = true then
      (some (.inr (.inl ())))
    else
      (some (.inl (IntKind.i64.wrap (v3 + 1))))))
  else
    (some (.inr (.inr ())))
noncomputable def ref04_IsPrime (v1 : Int) : Option (Bool) :=
  if (decide (v1 < 2)) = true then
    (some (false))
  else
    ((run (ref04_IsPrime_l1 v1) 2).bind fun v4 => match v4 with
    | (.inl _) =>
      some (false)
    | (.inr _) =>
      some (true))

end Go.Rex

namespace Go.Rex
open Go Go.Rex
noncomputable def ref04_Power_l1 (v3 : Int) : (Int × Int × Int) → Option ((Int × Int × Int) ⊕ ((Int))) := fun (v5, v6, v7) =>
  if (decide (v6 > 0)) = true then
    (if (decide ((v6.tmod 2) = 1)) = true then
      (some (.inl (((IntKind.i64.wrap (v5 * v5)).tmod v3), (IntKind.i64.wrap (v6.tdiv 2)), ((IntKind.i64.wrap (v7 * v5)).tmod v3))))
    else
      (some (.inl (((IntKind.i64.wrap (v5 * v5)).tmod v3), (IntKind.i64.wrap (v6.tdiv 2)), v7))))
  else
    (some (.inr v7))
noncomputable def ref04_Power (v1 : Int) (v2 : Int) (v3 : Int) : Option (Int) :=
  if v3 = 0 then none else
  ((run (ref04_Power_l1 v3) (v1, v2, ((1 : Int).tmod v3))).bind fun v9 =>
  some (v9))

end Go.Rex

namespace Go.Rex
open Go Go.Rex
noncomputable def ref04_Primes_l2 (v5 : Int) : (Int) → Option ((Int) ⊕ ((Int))) := fun v12 =>
  if (decide ((v12.tmod v5) = 0)) = true then
    (some (.inl (IntKind.i64.wrap (v12.tdiv v5))))
  else
    (some (.inr v12))
noncomputable def ref04_Primes_l3 : (Unit) → Option ((Unit) ⊕ ((Unit))) := fun _ =>
  some (.inr ())
noncomputable def ref04_Primes_l1 : (Int × (List Int) × Int) → Option ((Int × (List Int) × Int) ⊕ (((List Int)))) := fun (v3, v4, v5) =>
  if (decide (v3 > 1)) = true then
    (if v5 = 0 then none else
    (if (decide ((v3.tmod v5) = 0)) = true then
      ((appI 8 v4 ([v5] : List Int)).bind fun v11 =>
      (run (ref04_Primes_l2 v5) v3).bind fun v14 =>
      some (.inl (v14, v11, (IntKind.i64.wrap (v5 + 1)))))
    else
      ((run (ref04_Primes_l3) ()).bind fun _ =>
      some (.inl (v3, v4, (IntKind.i64.wrap (v5 + 1)))))))
  else
    (some (.inr v4))
noncomputable def ref04_Primes (v1 : Int) : Option ((List Int)) :=
  (run (ref04_Primes_l1) (v1, ([] : List Int), 2)).bind fun v15 =>
  some (v15)

end Go.Rex

namespace Go.Rex
open Go Go.Rex
noncomputable def ref04_isRoot_l1 (v1 : Int) (v2 : Int) (v3 : Int) (v6 : (List Int)) : (Int) → Option ((Int) ⊕ ((Unit) ⊕ (Unit))) := fun v7 =>
  if (decide (v7 < (v6.length : Int))) = true then
    ((getI v6 v7).bind fun v10 =>
    if v10 = 0 then none else
    ((ref04_Power v1 (IntKind.i64.wrap (v2.tdiv v10)) v3).bind fun v11 =>
    if (decide (v11 = ((1 : Int).tmod v3))) = true then
      (some (.inr (.inl ())))
    else
      (some (.inl (IntKind.i64.wrap (v7 + 1))))))
  else
    (some (.inr (.inr ())))
noncomputable def ref04_isRoot (v1 : Int) (v2 : Int) (v3 : Int) : Option (Bool) :=
  (ref04_Power v1 v2 v3).bind fun v5 =>
  if v3 = 0 then none else
  (if (decide (v5 ≠ ((1 : Int).tmod v3))) = true then
    (some (false))
  else
    ((ref04_Primes v2).bind fun v6 =>
    (run (ref04_isRoot_l1 v1 v2 v3 v6) 0).bind fun v12 => match v12 with
    | (.inl _) =>
      some (false)
    | (.inr _) =>
      some (true)))

end Go.Rex

namespace Go.Rex
open Go Go.Rex
noncomputable def ref04_CheckField (v1 : Int) (v2 : Int) (v3 : Int) : Option (Int) :=
  (base_Within v1 2 2147483647).bind fun v5 =>
  if v5 = true then
    ((base_Within v3 1 1024).bind fun v6 =>
    if v6 = true then
      ((base_Within v2 1 (IntKind.i64.wrap (v1 - 1))).bind fun v7 =>
      if v7 = true then
        ((ref04_IsPrime v1).bind fun v8 =>
        if v8 = true then
          (if v3 = 0 then none else
          (if (decide (((IntKind.i64.wrap (v1 - 1)).tmod v3) ≠ 0)) = true then
            (some (13))
          else
            ((ref04_isRoot v2 v3 v1).bind fun v9 =>
            if v9 = true then
              (some (0))
            else
              (some (20)))))
        else
          (some (15)))
      else
        (some (2)))
    else
      (some (2)))
  else
    (some (2))

end Go.Rex

namespace Go.Rex
open Go Go.Rex
noncomputable def ref04_FieldErr (v1 : (List Int)) (v2 : Int) (v3 : Int) (v4 : Int) : Option (Int) :=
  if (decide ((v1.length : Int) > 1024)) = true then
    (some (8))
  else
    ((ref04_rangeErr v1 2147483647).bind fun v6 =>
    if (decide (v6 ≠ 0)) = true then
      (some (v6))
    else
      ((ref04_CheckField v2 v3 v4).bind fun v7 =>
      if (decide (v7 ≠ 0)) = true then
        (some (v7))
      else
        (if (decide ((v1.length : Int) ≠ v4)) = true then
          (some (13))
        else
          (some (0)))))

end Go.Rex

namespace Go.Rex
open Go Go.Rex
noncomputable def base_Mod (v1 : Int) (v2 : Int) : Option (Int) :=
  if v2 = 0 then none else
  (if (decide ((v1.tmod v2) < 0)) = true then
    (some ((IntKind.i64.wrap ((v1.tmod v2) + v2))))
  else
    (some ((v1.tmod v2))))

end Go.Rex

namespace Go.Rex
open Go Go.Rex
noncomputable def ref04_sums_l2 (v1 : (List Int)) (v3 : Int) (v19 : Int) : (Int × Int × Int) → Option ((Int × Int × Int) ⊕ ((Int))) := fun (v20, v21, v22) =>
  if (decide (v22 < (v1.length : Int))) = true then
    ((getI v1 v22).bind fun v26 =>
    (base_Mod v26 v3).bind fun v27 =>
    some (.inl (((IntKind.i64.wrap (v20 + (IntKind.i64.wrap (v27 * v21)))).tmod v3), ((IntKind.i64.wrap (v21 * v19)).tmod v3), (IntKind.i64.wrap (v22 + 1)))))
  else
    (some (.inr v20))
noncomputable def ref04_sums_l1 (v1 : (List Int)) (v2 : Int) (v3 : Int) : ((List Int) × Int) → Option (((List Int) × Int) ⊕ (((List Int)))) := fun (v5, v6) =>
  if (decide (v6 < (v1.length : Int))) = true then
    (if v3 = 0 then none else
    ((ref04_Power v2 v6 v3).bind fun v19 =>
    (run (ref04_sums_l2 v1 v3 v19) (0, ((1 : Int).tmod v3), 0)).bind fun v28 =>
    (appI 8 v5 ([v28] : List Int)).bind fun v29 =>
    some (.inl (v29, (IntKind.i64.wrap (v6 + 1))))))
  else
    (some (.inr v5))
noncomputable def ref04_sums (v1 : (List Int)) (v2 : Int) (v3 : Int) : Option ((List Int)) :=
  (run (ref04_sums_l1 v1 v2 v3) (([] : List Int), 0)).bind fun v30 =>
  some (v30)

end Go.Rex

namespace Go.Rex
open Go Go.Rex
noncomputable def ref04_Transformed (v1 : (List Int)) (v2 : Int) (v3 : Int) (v4 : Int) : Option ((List Int)) :=
  (ref04_sums v1 v3 v2).bind fun v6 =>
  some (v6)

end Go.Rex

namespace Go.Rex
open Go Go.Rex
noncomputable def base_Ints_l1 (v1 : (List Int)) (v2 : (List Int)) : (Int) → Option ((Int) ⊕ ((Unit) ⊕ (Unit))) := fun v4 =>
  if (decide (v4 < (v1.length : Int))) = true then
    ((getI v1 v4).bind fun v7 =>
    (getI v2 v4).bind fun v8 =>
    if (decide (v7 ≠ v8)) = true then
      (some (.inr (.inl ())))
    else
      (some (.inl (IntKind.i64.wrap (v4 + 1)))))
  else
    (some (.inr (.inr ())))
noncomputable def base_Ints (v1 : (List Int)) (v2 : (List Int)) : Option (Bool) :=
  if (decide ((v1.length : Int) ≠ (v2.length : Int))) = true then
    (some (false))
  else
    ((run (base_Ints_l1 v1 v2) 0).bind fun v9 => match v9 with
    | (.inl _) =>
      some (false)
    | (.inr _) =>
      some (true))

end Go.Rex

namespace Go.Rex
open Go Go.Rex
noncomputable def ref04_inverse (v1 : Int) (v2 : Int) : Option (Int) :=
  if v2 = 0 then none else
  ((ref04_Power (v1.tmod v2) (IntKind.i64.wrap (v2 - 2)) v2).bind fun v4 =>
  some ((v4.tmod v2)))

end Go.Rex

namespace Go.Rex
open Go Go.Rex
noncomputable def ref04_Back_l1 (v2 : Int) (v4 : Int) : ((List Int) × Int) → Option (((List Int) × Int) ⊕ (((List Int)))) := fun (v8, v9) =>
  if (decide (v9 < (v8.length : Int))) = true then
    ((getI v8 v9).bind fun v13 =>
    (ref04_inverse v4 v2).bind fun v14 =>
    if v2 = 0 then none else
    (some (.inl ((v8.set v9.toNat ((IntKind.i64.wrap (v13 * v14)).tmod v2)), (IntKind.i64.wrap (v9 + 1))))))
  else
    (some (.inr v8))
noncomputable def ref04_Back (v1 : (List Int)) (v2 : Int) (v3 : Int) (v4 : Int) : Option ((List Int)) :=
  (ref04_inverse v3 v2).bind fun v6 =>
  (ref04_sums v1 v6 v2).bind fun v7 =>
  (run (ref04_Back_l1 v2 v4) (v7, 0)).bind fun v15 =>
  some (v15)

end Go.Rex

namespace Go.Rex
open Go Go.Rex
noncomputable def law04_PulseTransforms_l1 (v1 : (List Int)) (v2 : Int) (v3 : Int) (v7 : (List Int)) (v18 : (List Int)) (v23 : (List Int)) : (Int) → Option ((Int) ⊕ ((Unit) ⊕ (Unit))) := fun v25 =>
  if (decide (v25 < (v1.length : Int))) = true then
    ((getI v18 v25).bind fun v32 =>
    (getI v1 v25).bind fun v33 =>
    (base_Mod v33 v2).bind fun v34 =>
    if (decide (v32 ≠ v34)) = true then
      (some (.inr (.inl ())))
    else
      ((getI v23 v25).bind fun v35 =>
      (getI v7 v25).bind fun v36 =>
      (ref04_Power v3 v25 v2).bind fun v37 =>
      if v2 = 0 then none else
      (if (decide (v35 ≠ ((IntKind.i64.wrap (v36 * v37)).tmod v2))) = true then
        (some (.inr (.inl ())))
      else
        (some (.inl (IntKind.i64.wrap (v25 + 1)))))))
  else
    (some (.inr (.inr ())))
noncomputable def law04_PulseTransforms_l2 (v1 : (List Int)) (v2 : Int) (v3 : Int) (v40 : (List Int)) (v51 : (List Int)) (v56 : (List Int)) : (Int) → Option ((Int) ⊕ ((Unit) ⊕ (Unit))) := fun v58 =>
  if (decide (v58 < (v1.length : Int))) = true then
    ((getI v51 v58).bind fun v65 =>
    (getI v1 v58).bind fun v66 =>
    (base_Mod v66 v2).bind fun v67 =>
    if (decide (v65 ≠ v67)) = true then
      (some (.inr (.inl ())))
    else
      ((getI v56 v58).bind fun v68 =>
      (getI v40 v58).bind fun v69 =>
      (ref04_Power v3 v58 v2).bind fun v70 =>
      if v2 = 0 then none else
      (if (decide (v68 ≠ ((IntKind.i64.wrap (v69 * v70)).tmod v2))) = true then
        (some (.inr (.inl ())))
      else
        (some (.inl (IntKind.i64.wrap (v58 + 1)))))))
  else
    (some (.inr (.inr ())))
noncomputable def law04_PulseTransforms (v1 : (List Int)) (v2 : Int) (v3 : Int) (v4 : Int) : Option Bool :=
  if (decide ((v1.length : Int) > 40)) = true then
    (if (decide ((v1.length : Int) ≤ 1024)) = true then
      (some (true))
    else
      (if (decide ((v1.length : Int) > 1026)) = true then
        (some (true))
      else
        ((base_CopyInts v1).bind fun v6 =>
        (pulse_Transformed v6 v2 v3 v4).bind fun (v7, v8) =>
        (base_CopyInts v1).bind fun v9 =>
        (pulse_Back v9 v2 v3 v4).bind fun (v10, v11) =>
        (ref04_FieldErr v1 v2 v3 v4).bind fun v12 =>
        if (decide (v12 ≠ 0)) = true then
          (if (decide (v8 = v12)) = true then
            (if (decide (v11 = v12)) = true then
              (some ((decide ((IntKind.i64.wrap ((v7.length : Int) + (v10.length : Int))) = 0))))
            else
              (some (false)))
          else
            (some (false)))
        else
          (if (decide (v8 ≠ 0)) = true then
            (some (false))
          else
            ((ref04_Transformed v1 v2 v3 v4).bind fun v13 =>
            (base_Ints v7 v13).bind fun v14 =>
            if v14 = true then
              (if (decide (v11 ≠ 0)) = true then
                (some (false))
              else
                ((ref04_Back v1 v2 v3 v4).bind fun v15 =>
                (base_Ints v10 v15).bind fun v16 =>
                if v16 = true then
                  ((base_CopyInts v7).bind fun v17 =>
                  (pulse_Back v17 v2 v3 v4).bind fun (v18, v19) =>
                  (getI v1 (IntKind.i64.wrap ((v1.length : Int) - 1))).bind fun v20 =>
                  (subI v1 0 (IntKind.i64.wrap ((v1.length : Int) - 1))).bind fun v21 =>
                  (appI 8 ([v20] : List Int) v21).bind fun v22 =>
                  (pulse_Transformed v22 v2 v3 v4).bind fun (v23, v24) =>
                  if (decide (v19 ≠ 0)) = true then
                    (some (false))
                  else
                    (if (decide (v24 ≠ 0)) = true then
                      (some (false))
                    else
                      (if (decide ((v18.length : Int) ≠ (v1.length : Int))) = true then
                        (some (false))
                      else
                        (if (decide ((v23.length : Int) ≠ (v1.length : Int))) = true then
                          (some (false))
                        else
                          ((run (law04_PulseTransforms_l1 v1 v2 v3 v7 v18 v23) 0).bind fun v38 => match v38 with
                          | (.inl _) =>
                            some (false)
                          | (.inr _) =>
                            some (true))))))
                else
                  (some (false))))
            else
              (some (false)))))))
  else
    (if (decide ((v1.length : Int) > 1026)) = true then
      (some (true))
    else
      ((base_CopyInts v1).bind fun v39 =>
      (pulse_Transformed v39 v2 v3 v4).bind fun (v40, v41) =>
      (base_CopyInts v1).bind fun v42 =>
      (pulse_Back v42 v2 v3 v4).bind fun (v43, v44) =>
      (ref04_FieldErr v1 v2 v3 v4).bind fun v45 =>
      if (decide (v45 ≠ 0)) = true then
        (if (decide (v41 = v45)) = true then
          (if (decide (v44 = v45)) = true then
            (some ((decide ((IntKind.i64.wrap ((v40.length : Int) + (v43.length : Int))) = 0))))
          else
            (some (false)))
        else
          (some (false)))
      else
        (if (decide (v41 ≠ 0)) = true then
          (some (false))
        else
          ((ref04_Transformed v1 v2 v3 v4).bind fun v46 =>
          (base_Ints v40 v46).bind fun v47 =>
          if v47 = true then
            (if (decide (v44 ≠ 0)) = true then
              (some (false))
            else
              ((ref04_Back v1 v2 v3 v4).bind fun v48 =>
              (base_Ints v43 v48).bind fun v49 =>
              if v49 = true then
                ((base_CopyInts v40).bind fun v50 =>
                (pulse_Back v50 v2 v3 v4).bind fun (v51, v52) =>
                (getI v1 (IntKind.i64.wrap ((v1.length : Int) - 1))).bind fun v53 =>
                (subI v1 0 (IntKind.i64.wrap ((v1.length : Int) - 1))).bind fun v54 =>
                (appI 8 ([v53] : List Int) v54).bind fun v55 =>
                (pulse_Transformed v55 v2 v3 v4).bind fun (v56, v57) =>
                if (decide (v52 ≠ 0)) = true then
                  (some (false))
                else
                  (if (decide (v57 ≠ 0)) = true then
                    (some (false))
                  else
                    (if (decide ((v51.length : Int) ≠ (v1.length : Int))) = true then
                      (some (false))
                    else
                      (if (decide ((v56.length : Int) ≠ (v1.length : Int))) = true then
                        (some (false))
                      else
                        ((run (law04_PulseTransforms_l2 v1 v2 v3 v40 v51 v56) 0).bind fun v71 => match v71 with
                        | (.inl _) =>
                          some (false)
                        | (.inr _) =>
                          some (true))))))
              else
                (some (false))))
          else
            (some (false))))))

end Go.Rex
