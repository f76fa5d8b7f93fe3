/- The functions of the program and of the reference, as functions of lists and numbers. -/
import Derived.Test.YtnnmnciaopaciaaTexS
set_option linter.unusedSimpArgs false
set_option linter.unusedVariables false
namespace Go.Rex
open Go Go.Rex
def e_i (x : Int) : List TV := [.v (.int .i64 x)]

end Go.Rex

namespace Go.Rex
open Go Go.Rex
noncomputable def pulse_refuse (v1 : Bool) (v2 : Int) : Option (Bool × Int) :=
  some (v1, v2)

end Go.Rex

namespace Go.Rex
open Go Go.Rex
noncomputable def pulse_within (v1 : Int) (v2 : Int) (v3 : Int) : Option (Bool × Int) :=
  if (decide (v1 < v2)) = true then
    ((pulse_refuse true 2).bind fun (v6, v7) =>
    some (v6, v7))
  else
    ((pulse_refuse (decide (v1 > v3)) 2).bind fun (v8, v9) =>
    some (v8, v9))

end Go.Rex

namespace Go.Rex
open Go Go.Rex
noncomputable def pulse_refuse_c1_677d (v1 : Bool) (v2 : Int) : Option (Int) :=
  if v1 = true then
    (some (v2))
  else
    (some (0))

end Go.Rex

namespace Go.Rex
open Go Go.Rex
noncomputable def pulse_firstError_5168 (v1 : Bool) (v2 : Int) (v3 : Bool) (v4 : Int) : Option (Int) :=
  (pulse_refuse_c1_677d v1 v2).bind fun v6 =>
  if (decide (v6 ≠ 0)) = true then
    (some (v6))
  else
    ((pulse_refuse_c1_677d v3 v4).bind fun v7 =>
    if (decide (v7 ≠ 0)) = true then
      (some (v7))
    else
      (some (0)))

end Go.Rex

namespace Go.Rex
open Go Go.Rex
noncomputable def pulse_modulo (v1 : Int) (v2 : Int) : Option (Int) :=
  if v2 = 0 then none else
  (some (((IntKind.i64.wrap ((v1.tmod v2) + v2)).tmod v2)))

end Go.Rex

namespace Go.Rex
open Go Go.Rex
noncomputable def pulse_isPrime_l1 (v1 : Int) : (Int) → Option ((Int) ⊕ ((Unit) ⊕ (Unit))) := fun v3 =>
  if (decide ((IntKind.i64.wrap (v3 * v3)) ≤ v1)) = true then
    (if v3 = 0 then none else
    (if (decide ((v1.tmod v3) = 0)) = true then
      (some (.inr (.inl ())))
    else
      (some (.inl (IntKind.i64.wrap (v3 + 1))))))
  else
    (some (.inr (.inr ())))
noncomputable def pulse_isPrime (v1 : Int) : Option (Bool) :=
  (run (pulse_isPrime_l1 v1) 2).bind fun v4 => match v4 with
  | (.inl _) =>
    some (false)
  | (.inr _) =>
    some (true)

end Go.Rex

namespace Go.Rex
open Go Go.Rex
noncomputable def pulse_field_product (v1 : Int) (v2 : Int) (v3 : Int) (v4 : Int) (v5 : Int) : Option (Int) :=
  if v1 = 0 then none else
  (some (((IntKind.i64.wrap (v4 * v5)).tmod v1)))

end Go.Rex

namespace Go.Rex
open Go Go.Rex
noncomputable def pulse_field_power_l1 (v1 : Int) (v2 : Int) (v3 : Int) : (Int × Int × Int) → Option ((Int × Int × Int) ⊕ ((Int))) := fun (v7, v8, v9) =>
  if (decide (v8 > 0)) = true then
    (if (decide ((v8.tmod 2) = 1)) = true then
      ((pulse_field_product v1 v2 v3 v9 v7).bind fun v14 =>
      (pulse_field_product v1 v2 v3 v7 v7).bind fun v15 =>
      some (.inl (v15, (IntKind.i64.wrap (v8.tdiv 2)), v14)))
    else
      ((pulse_field_product v1 v2 v3 v7 v7).bind fun v16 =>
      some (.inl (v16, (IntKind.i64.wrap (v8.tdiv 2)), v9))))
  else
    (some (.inr v9))
noncomputable def pulse_field_power (v1 : Int) (v2 : Int) (v3 : Int) (v4 : Int) (v5 : Int) : Option (Int) :=
  (run (pulse_field_power_l1 v1 v2 v3) (v4, v5, 1)).bind fun v17 =>
  some (v17)

end Go.Rex

namespace Go.Rex
open Go Go.Rex
noncomputable def pulse_field_isRooted_l1 (v1 : Int) (v2 : Int) (v3 : Int) : (Int × Int) → Option ((Int × Int) ⊕ ((Int × Int))) := fun (v5, v6) =>
  if (decide (v5 ≠ 1)) = true then
    (if (decide (v6 < v3)) = true then
      ((pulse_field_product v1 v2 v3 v5 v2).bind fun v10 =>
      some (.inl (v10, (IntKind.i64.wrap (v6 + 1)))))
    else
      (some (.inr (v5, v6))))
  else
    (some (.inr (v5, v6)))
noncomputable def pulse_field_isRooted (v1 : Int) (v2 : Int) (v3 : Int) : Option (Bool) :=
  (run (pulse_field_isRooted_l1 v1 v2 v3) (v2, 1)).bind fun (v11, v12) =>
  if (decide (v11 = 1)) = true then
    (some ((decide (v12 = v3))))
  else
    (some (false))

end Go.Rex

namespace Go.Rex
open Go Go.Rex
noncomputable def pulse_rooted_l1 (v1 : Int) (v2 : Int) : (Int) → Option ((Int) ⊕ ((Int))) := fun v6 =>
  if v1 = 0 then none else
  ((pulse_field_power v2 0 v1 v6 (IntKind.i64.wrap ((IntKind.i64.wrap (v2 - 1)).tdiv v1))).bind fun v10 =>
  (pulse_field_isRooted v2 v10 v1).bind fun v11 =>
  if v11 = true then
    (some (.inr v10))
  else
    (some (.inl (IntKind.i64.wrap (v6 + 1)))))
noncomputable def pulse_rooted (v1 : Int) (v2 : Int) : Option (Int × Int × Int) :=
  (run (pulse_rooted_l1 v1 v2) 1).bind fun v12 =>
  some (v2, v12, v1)

end Go.Rex

namespace Go.Rex
open Go Go.Rex
noncomputable def pulse_FieldOf_l1 (v1 : Int) : (Int) → Option ((Int) ⊕ ((Int × Int × Int) ⊕ (Unit))) := fun v13 =>
  if (decide (v13 ≤ 2147483647)) = true then
    ((pulse_isPrime v13).bind fun v21 =>
    if v21 = true then
      ((pulse_rooted v1 v13).bind fun (v22, v23, v24) =>
      some (.inr (.inl (v22, v23, v24))))
    else
      (some (.inl (IntKind.i64.wrap (v13 + v1)))))
  else
    (some (.inr (.inr ())))
noncomputable def pulse_FieldOf (v1 : Int) (v2 : Int) : Option (Int × Int × Int × Int) :=
  (pulse_within v1 1 1024).bind fun (v7, v8) =>
  (pulse_within v2 2 2147483647).bind fun (v9, v10) =>
  (pulse_firstError_5168 v7 v8 v9 v10).bind fun v11 =>
  if (decide (v11 ≠ 0)) = true then
    (some (0, 0, 0, v11))
  else
    ((pulse_modulo (IntKind.i64.wrap (1 - v2)) v1).bind fun v12 =>
    (run (pulse_FieldOf_l1 v1) (IntKind.i64.wrap (v2 + v12))).bind fun v25 => match v25 with
    | (.inl (v26, v27, v28)) =>
      some (v26, v27, v28, 0)
    | (.inr _) =>
      some (0, 0, 0, 12))

end Go.Rex

namespace Go.Rex
open Go Go.Rex
noncomputable def base_Within (v1 : Int) (v2 : Int) (v3 : Int) : Option (Bool) :=
  if (decide (v2 ≤ v1)) = true then
    (some ((decide (v1 ≤ v3))))
  else
    (some (false))

end Go.Rex

namespace Go.Rex
open Go Go.Rex
noncomputable def base_Floor (v1 : Int) (v2 : Int) : Option (Int) :=
  if v2 = 0 then none else
  (if (decide ((v1.tmod v2) < 0)) = true then
    (some ((IntKind.i64.wrap ((IntKind.i64.wrap (v1.tdiv v2)) - 1))))
  else
    (some ((IntKind.i64.wrap (v1.tdiv v2)))))

end Go.Rex

namespace Go.Rex
open Go Go.Rex
noncomputable def base_Ceil (v1 : Int) (v2 : Int) : Option (Int) :=
  (base_Floor (IntKind.i64.wrap (0 - v1)) v2).bind fun v4 =>
  some ((IntKind.i64.wrap (0 - v4)))

end Go.Rex

namespace Go.Rex
open Go Go.Rex
noncomputable def ref04_IsPrime_l1 (v1 : Int) : (Int) → Option ((Int) ⊕ ((Unit) ⊕ (Unit))) := fun v3 =>
  if (decide ((IntKind.i64.wrap (v3 * v3)) ≤ v1)) = true then
    (if v3 = 0 then none else
    (if (decide ((v1.tmod v3) = 0)) = true then
      (some (.inr (.inl ())))
    else
      (some (.inl (IntKind.i64.wrap (v3 + 1))))))
  else
    (some (.inr (.inr ())))
noncomputable def ref04_IsPrime (v1 : Int) : Option (Bool) :=
  if (decide (v1 < 2)) = true then
    (some (false))
  else
    ((run (ref04_IsPrime_l1 v1) 2).bind fun v4 => match v4 with
    | (.inl _) =>
      some (false)
    | (.inr _) =>
      some (true))

end Go.Rex

namespace Go.Rex
open Go Go.Rex
noncomputable def ref04_Power_l1 (v3 : Int) : (Int × Int × Int) → Option ((Int × Int × Int) ⊕ ((Int))) := fun (v5, v6, v7) =>
  if (decide (v6 > 0)) = true then
    (if (decide ((v6.tmod 2) = 1)) = true then
      (some (.inl (((IntKind.i64.wrap (v5 * v5)).tmod v3), (IntKind.i64.wrap (v6.tdiv 2)), ((IntKind.i64.wrap (v7 * v5)).tmod v3))))
    else
      (some (.inl (((IntKind.i64.wrap (v5 * v5)).tmod v3), (IntKind.i64.wrap (v6.tdiv 2)), v7))))
  else
    (some (.inr v7))
noncomputable def ref04_Power (v1 : Int) (v2 : Int) (v3 : Int) : Option (Int) :=
  if v3 = 0 then none else
  ((run (ref04_Power_l1 v3) (v1, v2, ((1 : Int).tmod v3))).bind fun v9 =>
  some (v9))

end Go.Rex

namespace Go.Rex
open Go Go.Rex
noncomputable def ref04_Primes_l2 (v5 : Int) : (Int) → Option ((Int) ⊕ ((Int))) := fun v12 =>
  if (decide ((v12.tmod v5) = 0)) = true then
    (some (.inl (IntKind.i64.wrap (v12.tdiv v5))))
  else
    (some (.inr v12))
noncomputable def ref04_Primes_l3 : (Unit) → Option ((Unit) ⊕ ((Unit))) := fun _ =>
  some (.inr ())
noncomputable def ref04_Primes_l1 : (Int × (List Int) × Int) → Option ((Int × (List Int) × Int) ⊕ (((List Int)))) := fun (v3, v4, v5) =>
  if (decide (v3 > 1)) = true then
    (if v5 = 0 then none else
    (if (decide ((v3.tmod v5) = 0)) = true then
      ((appI 8 v4 ([v5] : List Int)).bind fun v11 =>
      (run (ref04_Primes_l2 v5) v3).bind fun v14 =>
      some (.inl (v14, v11, (IntKind.i64.wrap (v5 + 1)))))
    else
      ((run (ref04_Primes_l3) ()).bind fun _ =>
      some (.inl (v3, v4, (IntKind.i64.wrap (v5 + 1)))))))
  else
    (some (.inr v4))
noncomputable def ref04_Primes (v1 : Int) : Option ((List Int)) :=
  (run (ref04_Primes_l1) (v1, ([] : List Int), 2)).bind fun v15 =>
  some (v15)

end Go.Rex

namespace Go.Rex
open Go Go.Rex
noncomputable def ref04_isRoot_l1 (v1 : Int) (v2 : Int) (v3 : Int) (v6 : (List Int)) : (Int) → Option ((Int) ⊕ ((Unit) ⊕ (Unit))) := fun v7 =>
  if (decide (v7 < (v6.length : Int))) = true then
    ((getI v6 v7).bind fun v10 =>
    if v10 = 0 then none else
    ((ref04_Power v1 (IntKind.i64.wrap (v2.tdiv v10)) v3).bind fun v11 =>
    if (decide (v11 = ((1 : Int).tmod v3))) = true then
      (some (.inr (.inl ())))
    else
      (some (.inl (IntKind.i64.wrap (v7 + 1))))))
  else
    (some (.inr (.inr ())))
noncomputable def ref04_isRoot (v1 : Int) (v2 : Int) (v3 : Int) : Option (Bool) :=
  (ref04_Power v1 v2 v3).bind fun v5 =>
  if v3 = 0 then none else
  (if (decide (v5 ≠ ((1 : Int).tmod v3))) = true then
    (some (false))
  else
    ((ref04_Primes v2).bind fun v6 =>
    (run (ref04_isRoot_l1 v1 v2 v3 v6) 0).bind fun v12 => match v12 with
    | (.inl _) =>
      some (false)
    | (.inr _) =>
      some (true)))

end Go.Rex

namespace Go.Rex
open Go Go.Rex
noncomputable def ref04_FieldOf_l1 (v1 : Int) : (Int) → Option ((Int) ⊕ ((Int))) := fun v10 =>
  if (decide (v10 ≤ 2147483647)) = true then
    ((ref04_IsPrime v10).bind fun v13 =>
    if v13 = true then
      (some (.inr v10))
    else
      (some (.inl (IntKind.i64.wrap (v10 + v1)))))
  else
    (some (.inr v10))
noncomputable def ref04_FieldOf_l2 (v1 : Int) (v14 : Int) : (Int) → Option ((Int) ⊕ ((Int))) := fun v15 =>
  if v1 = 0 then none else
  ((ref04_Power v15 (IntKind.i64.wrap ((IntKind.i64.wrap (v14 - 1)).tdiv v1)) v14).bind fun v19 =>
  (ref04_isRoot v19 v1 v14).bind fun v20 =>
  if v20 = true then
    (some (.inr v15))
  else
    (some (.inl (IntKind.i64.wrap (v15 + 1)))))
noncomputable def ref04_FieldOf (v1 : Int) (v2 : Int) : Option (Int × Int × Int × Int) :=
  (base_Within v1 1 1024).bind fun v7 =>
  if v7 = true then
    ((base_Within v2 2 2147483647).bind fun v8 =>
    if v8 = true then
      ((base_Ceil (IntKind.i64.wrap (v2 - 1)) v1).bind fun v9 =>
      (run (ref04_FieldOf_l1 v1) (IntKind.i64.wrap ((IntKind.i64.wrap (v9 * v1)) + 1))).bind fun v14 =>
      if (decide (v14 > 2147483647)) = true then
        (some (0, 0, 0, 12))
      else
        ((run (ref04_FieldOf_l2 v1 v14) 1).bind fun v21 =>
        if v1 = 0 then none else
        ((ref04_Power v21 (IntKind.i64.wrap ((IntKind.i64.wrap (v14 - 1)).tdiv v1)) v14).bind fun v22 =>
        some (v14, v22, v1, 0))))
    else
      (some (0, 0, 0, 2)))
  else
    (some (0, 0, 0, 2))

end Go.Rex

namespace Go.Rex
open Go Go.Rex
noncomputable def pulse_CheckField_c1_6047 (v1 : Int) (v2 : Int) (v3 : Int) : Option (Int) :=
  (pulse_isPrime v1).bind fun v5 =>
  (pulse_refuse (!v5) 15).bind fun (v6, v7) =>
  (pulse_refuse_c1_677d v6 v7).bind fun v8 =>
  some (v8)

end Go.Rex

namespace Go.Rex
open Go Go.Rex
noncomputable def pulse_CheckField_c2_6047 (v1 : Int) (v2 : Int) (v3 : Int) : Option (Int) :=
  if v3 = 0 then none else
  ((pulse_refuse (decide (((IntKind.i64.wrap (v1 - 1)).tmod v3) ≠ 0)) 13).bind fun (v5, v6) =>
  (pulse_refuse_c1_677d v5 v6).bind fun v7 =>
  some (v7))

end Go.Rex

namespace Go.Rex
open Go Go.Rex
noncomputable def pulse_CheckField_c3_6047 (v1 : Int) (v2 : Int) (v3 : Int) : Option (Int) :=
  (pulse_field_isRooted v1 v2 v3).bind fun v5 =>
  (pulse_refuse (!v5) 20).bind fun (v6, v7) =>
  (pulse_refuse_c1_677d v6 v7).bind fun v8 =>
  some (v8)

end Go.Rex

namespace Go.Rex
open Go Go.Rex
noncomputable def pulse_firstError_c360 (v1 : Bool) (v2 : Int) (v3 : Bool) (v4 : Int) (v5 : Bool) (v6 : Int) (v7 : Int) (v8 : Int) (v9 : Int) (v10 : Int) (v11 : Int) (v12 : Int) (v13 : Int) (v14 : Int) (v15 : Int) : Option (Int) :=
  (pulse_refuse_c1_677d v1 v2).bind fun v17 =>
  if (decide (v17 ≠ 0)) = true then
    (some (v17))
  else
    ((pulse_refuse_c1_677d v3 v4).bind fun v18 =>
    if (decide (v18 ≠ 0)) = true then
      (some (v18))
    else
      ((pulse_refuse_c1_677d v5 v6).bind fun v19 =>
      if (decide (v19 ≠ 0)) = true then
        (some (v19))
      else
        ((pulse_CheckField_c1_6047 v7 v8 v9).bind fun v20 =>
        if (decide (v20 ≠ 0)) = true then
          (some (v20))
        else
          ((pulse_CheckField_c2_6047 v10 v11 v12).bind fun v21 =>
          if (decide (v21 ≠ 0)) = true then
            (some (v21))
          else
            ((pulse_CheckField_c3_6047 v13 v14 v15).bind fun v22 =>
            if (decide (v22 ≠ 0)) = true then
              (some (v22))
            else
              (some (0)))))))

end Go.Rex

namespace Go.Rex
open Go Go.Rex
noncomputable def pulse_CheckField (v1 : Int) (v2 : Int) (v3 : Int) : Option (Int) :=
  (pulse_within v1 2 2147483647).bind fun (v5, v6) =>
  (pulse_within v3 1 1024).bind fun (v7, v8) =>
  (pulse_within v2 1 (IntKind.i64.wrap (v1 - 1))).bind fun (v9, v10) =>
  (pulse_firstError_c360 v5 v6 v7 v8 v9 v10 v1 v2 v3 v1 v2 v3 v1 v2 v3).bind fun v11 =>
  some (v11)

end Go.Rex

namespace Go.Rex
open Go Go.Rex
noncomputable def ref04_CheckField (v1 : Int) (v2 : Int) (v3 : Int) : Option (Int) :=
  (base_Within v1 2 2147483647).bind fun v5 =>
  if v5 = true then
    ((base_Within v3 1 1024).bind fun v6 =>
    if v6 = true then
      ((base_Within v2 1 (IntKind.i64.wrap (v1 - 1))).bind fun v7 =>
      if v7 = true then
        ((ref04_IsPrime v1).bind fun v8 =>
        if v8 = true then
          (if v3 = 0 then none else
          (if (decide (((IntKind.i64.wrap (v1 - 1)).tmod v3) ≠ 0)) = true then
            (some (13))
          else
            ((ref04_isRoot v2 v3 v1).bind fun v9 =>
            if v9 = true then
              (some (0))
            else
              (some (20)))))
        else
          (some (15)))
      else
        (some (2)))
    else
      (some (2)))
  else
    (some (2))

end Go.Rex

namespace Go.Rex
open Go Go.Rex
noncomputable def law04_PulseFields (v1 : Int) (v2 : Int) (v3 : Int) (v4 : Int) (v5 : Int) : Option Bool :=
  (pulse_FieldOf v4 v5).bind fun (v7, v8, v9, v10) =>
  (ref04_FieldOf v4 v5).bind fun (v11, v12, v13, v14) =>
  (pulse_CheckField v1 v2 v3).bind fun v15 =>
  (ref04_CheckField v1 v2 v3).bind fun v16 =>
  if (decide (v15 = v16)) = true then
    (if (decide (v10 = v14)) = true then
      (some (([v7 == v11, v8 == v12, v9 == v13].all id)))
    else
      (some (false)))
  else
    (some (false))

end Go.Rex

namespace Go.Rex
open Go Go.Rex
noncomputable def base_SameBits (v1 : Nat) (v2 : Nat) (v3 : Nat) (v4 : Nat) : Option (Bool) :=
  if (decide (((v1 : Nat) : Int) = ((v3 : Nat) : Int))) = true then
    (some ((decide (((v2 : Nat) : Int) = ((v4 : Nat) : Int)))))
  else
    (some (false))

end Go.Rex

namespace Go.Rex
open Go Go.Rex
noncomputable def base_SameSamples_l1 (v1 : (List (Nat × Nat))) (v2 : (List (Nat × Nat))) : (Int) → Option ((Int) ⊕ ((Unit) ⊕ (Unit))) := fun v4 =>
  if (decide (v4 < (v1.length : Int))) = true then
    ((getI v1 v4).bind fun (v14, v15) =>
    (f2f .f32 v14 .f64).bind fun v16 =>
    (f2f .f32 v15 .f64).bind fun v17 =>
    (getI v2 v4).bind fun (v18, v19) =>
    (f2f .f32 v18 .f64).bind fun v20 =>
    (f2f .f32 v19 .f64).bind fun v21 =>
    (base_SameBits v16 v17 v20 v21).bind fun v22 =>
    if v22 = true then
      (some (.inl (IntKind.i64.wrap (v4 + 1))))
    else
      (some (.inr (.inl ()))))
  else
    (some (.inr (.inr ())))
noncomputable def base_SameSamples (v1 : (List (Nat × Nat))) (v2 : (List (Nat × Nat))) : Option (Bool) :=
  if (decide ((v1.length : Int) ≠ (v2.length : Int))) = true then
    (some (false))
  else
    ((run (base_SameSamples_l1 v1 v2) 0).bind fun v23 => match v23 with
    | (.inl _) =>
      some (false)
    | (.inr _) =>
      some (true))

end Go.Rex

namespace Go.Rex
open Go Go.Rex
noncomputable def pulse_Chirp_l1 (v1 : Int) (v2 : Int) : ((List (Nat × Nat)) × Int × Int) → Option (((List (Nat × Nat)) × Int × Int) ⊕ (((List (Nat × Nat))))) := fun (v10, v11, v12) =>
  if (decide (v12 < v1)) = true then
    (if v2 = 0 then none else
    ((getI ([(1065353216, 0), (0, 1065353216), (3212836864, 0), (0, 3212836864)] : List (Nat × Nat)) ((IntKind.i64.wrap (v11 + (IntKind.i64.wrap (v12.tdiv v2)))).tmod 4)).bind fun (v17, v18) =>
    (appI 8 v10 ([(v17, v18)] : List (Nat × Nat))).bind fun v19 =>
    some (.inl (v19, (IntKind.i64.wrap (v11 + (IntKind.i64.wrap (v12.tdiv v2)))), (IntKind.i64.wrap (v12 + 1))))))
  else
    (some (.inr v10))
noncomputable def pulse_Chirp (v1 : Int) (v2 : Int) : Option ((List (Nat × Nat)) × Int) :=
  (pulse_within v1 1 1024).bind fun (v5, v6) =>
  (pulse_within v2 1 1000).bind fun (v7, v8) =>
  (pulse_firstError_5168 v5 v6 v7 v8).bind fun v9 =>
  if (decide (v9 ≠ 0)) = true then
    (some (([] : List (Nat × Nat)), v9))
  else
    ((run (pulse_Chirp_l1 v1 v2) (([] : List (Nat × Nat)), 0, 0)).bind fun v20 =>
    some (v20, 0))

end Go.Rex

namespace Go.Rex
open Go Go.Rex
noncomputable def ref04_quarter (v1 : Int) : Option (Int × Int) :=
  (getI ([(1, 0), (0, 1), ((-1), 0), (0, (-1))] : List (Int × Int)) (v1.tmod 4)).bind fun (v4, v5) =>
  some (v4, v5)

end Go.Rex

namespace Go.Rex
open Go Go.Rex
noncomputable def base_Size (v1 : Int) : Option (Int) :=
  some ((if (IntKind.i64.wrap (0 - v1)) > v1 then (IntKind.i64.wrap (0 - v1)) else v1))

end Go.Rex

namespace Go.Rex
open Go Go.Rex
noncomputable def ref04_numbers_l1 (v1 : (List (Int × Int))) : ((List (Nat × Nat)) × Int) → Option (((List (Nat × Nat)) × Int) ⊕ ((Unit) ⊕ ((List (Nat × Nat))))) := fun (v4, v5) =>
  if (decide (v5 < (v1.length : Int))) = true then
    ((getI v1 v5).bind fun (v12, v13) =>
    (base_Size v12).bind fun v14 =>
    if (decide (v14 > 16777216)) = true then
      (some (.inr (.inl ())))
    else
      ((base_Size v13).bind fun v15 =>
      if (decide (v15 > 16777216)) = true then
        (some (.inr (.inl ())))
      else
        ((appI 8 v4 ([((FloatKind.f32.nearest v12), (FloatKind.f32.nearest v13))] : List (Nat × Nat))).bind fun v16 =>
        some (.inl (v16, (IntKind.i64.wrap (v5 + 1)))))))
  else
    (some (.inr (.inr v4)))
noncomputable def ref04_numbers (v1 : (List (Int × Int))) : Option ((List (Nat × Nat)) × Bool) :=
  (run (ref04_numbers_l1 v1) (([] : List (Nat × Nat)), 0)).bind fun v17 => match v17 with
  | (.inl _) =>
    some (([] : List (Nat × Nat)), false)
  | (.inr v18) =>
    some (v18, true)

end Go.Rex

namespace Go.Rex
open Go Go.Rex
noncomputable def ref04_told (v1 : (List (Int × Int))) : Option ((List (Nat × Nat)) × Int) :=
  (ref04_numbers v1).bind fun (v4, v5) =>
  if v5 = true then
    (some (v4, 0))
  else
    (some (([] : List (Nat × Nat)), 8))

end Go.Rex

namespace Go.Rex
open Go Go.Rex
noncomputable def ref04_Chirp_l1 (v1 : Int) (v2 : Int) : ((List (Int × Int)) × Int × Int) → Option (((List (Int × Int)) × Int × Int) ⊕ (((List (Int × Int))))) := fun (v7, v8, v9) =>
  if (decide (v9 < v1)) = true then
    (if v2 = 0 then none else
    ((ref04_quarter (IntKind.i64.wrap (v8 + (IntKind.i64.wrap (v9.tdiv v2))))).bind fun (v14, v15) =>
    (appI 16 v7 ([(v14, v15)] : List (Int × Int))).bind fun v16 =>
    some (.inl (v16, (IntKind.i64.wrap (v8 + (IntKind.i64.wrap (v9.tdiv v2)))), (IntKind.i64.wrap (v9 + 1))))))
  else
    (some (.inr v7))
noncomputable def ref04_Chirp (v1 : Int) (v2 : Int) : Option ((List (Nat × Nat)) × Int) :=
  (base_Within v1 1 1024).bind fun v5 =>
  if v5 = true then
    ((base_Within v2 1 1000).bind fun v6 =>
    if v6 = true then
      ((run (ref04_Chirp_l1 v1 v2) (([] : List (Int × Int)), 0, 0)).bind fun v17 =>
      (ref04_told v17).bind fun (v18, v19) =>
      some (v18, v19))
    else
      (some (([] : List (Nat × Nat)), 2)))
  else
    (some (([] : List (Nat × Nat)), 2))

end Go.Rex

namespace Go.Rex
open Go Go.Rex
noncomputable def law04_PulseChirps (v1 : Int) (v2 : Int) : Option Bool :=
  if (decide (v1 > 100)) = true then
    (if (decide (v1 ≤ 1024)) = true then
      (some (true))
    else
      ((pulse_Chirp v1 v2).bind fun (v4, v5) =>
      (ref04_Chirp v1 v2).bind fun (v6, v7) =>
      if (decide (v5 = v7)) = true then
        ((base_SameSamples v4 v6).bind fun v8 =>
        some (v8))
      else
        (some (false))))
  else
    ((pulse_Chirp v1 v2).bind fun (v9, v10) =>
    (ref04_Chirp v1 v2).bind fun (v11, v12) =>
    if (decide (v10 = v12)) = true then
      ((base_SameSamples v9 v11).bind fun v13 =>
      some (v13))
    else
      (some (false)))

end Go.Rex
