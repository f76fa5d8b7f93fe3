/- The functions of the program and of the reference, as functions of lists and numbers. -/
import Derived.Test.YtojekkfmnnoabaaTexU
set_option linter.unusedSimpArgs false
set_option linter.unusedVariables false
set_option linter.defProp false
namespace Go.Rex
open Go Go.Rex
def e_i (x : Int) : List TV := [.v (.int .i64 x)]

end Go.Rex

namespace Go.Rex
open Go Go.Rex
noncomputable def filter_coefficientsOf (v1 : Int) (v2 : Int) (v3 : Int) (v4 : Int) (v5 : Int) : Option (Int × Int × Int × Int × Int) :=
  some (v1, v2, v3, v4, v5)

end Go.Rex

namespace Go.Rex
open Go Go.Rex
noncomputable def filter_isSmall (v1 : Int) (v2 : Int) : Option (Bool) :=
  if (decide ((IntKind.i64.wrap (0 - v2)) ≤ v1)) = true then
    (some ((decide (v1 ≤ v2))))
  else
    (some (false))

end Go.Rex

namespace Go.Rex
open Go Go.Rex
noncomputable def filter_allSmall_l1 (v1 : (List Int)) (v2 : Int) : (Int) → Option ((Int) ⊕ ((Unit) ⊕ (Unit))) := fun v4 =>
  if (decide (v4 < (v1.length : Int))) = true then
    ((getI v1 v4).bind fun v7 =>
    (filter_isSmall v7 v2).bind fun v8 =>
    if v8 = true then
      (some (.inl (IntKind.i64.wrap (v4 + 1))))
    else
      (some (.inr (.inl ()))))
  else
    (some (.inr (.inr ())))
noncomputable def filter_allSmall (v1 : (List Int)) (v2 : Int) : Option (Int) :=
  (run (filter_allSmall_l1 v1 v2) 0).bind fun v9 => match v9 with
  | (.inl _) =>
    some (2)
  | (.inr _) =>
    some (0)

end Go.Rex

namespace Go.Rex
open Go Go.Rex
noncomputable def filter_CheckSection (v1 : Int) (v2 : Int) (v3 : Int) (v4 : Int) (v5 : Int) : Option (Int) :=
  (filter_coefficientsOf v1 v2 v3 v4 v5).bind fun (v7, v8, v9, v10, v11) =>
  (filter_allSmall ([v7, v8, v9, v10, v11] : List Int) 32768).bind fun v12 =>
  some (v12)

end Go.Rex

namespace Go.Rex
open Go Go.Rex
noncomputable def filter_refuse (v1 : Bool) (v2 : Int) : Option (Int) :=
  if v1 = true then
    (some (v2))
  else
    (some (0))

end Go.Rex

namespace Go.Rex
open Go Go.Rex
noncomputable def filter_within (v1 : Int) (v2 : Int) (v3 : Int) : Option (Int) :=
  if (decide (v1 < v2)) = true then
    ((filter_refuse true 2).bind fun v5 =>
    some (v5))
  else
    ((filter_refuse (decide (v1 > v3)) 2).bind fun v6 =>
    some (v6))

end Go.Rex

namespace Go.Rex
open Go Go.Rex
noncomputable def filter_firstError_l1 (v1 : (List Int)) : (Int) → Option ((Int) ⊕ ((Int) ⊕ (Unit))) := fun v3 =>
  if (decide (v3 < (v1.length : Int))) = true then
    ((getI v1 v3).bind fun v6 =>
    if (decide (v6 ≠ 0)) = true then
      (some (.inr (.inl v6)))
    else
      (some (.inl (IntKind.i64.wrap (v3 + 1)))))
  else
    (some (.inr (.inr ())))
noncomputable def filter_firstError (v1 : (List Int)) : Option (Int) :=
  (run (filter_firstError_l1 v1) 0).bind fun v7 => match v7 with
  | (.inl v8) =>
    some (v8)
  | (.inr _) =>
    some (0)

end Go.Rex

namespace Go.Rex
open Go Go.Rex
noncomputable def filter_turnError (v1 : Int) (v2 : Int) (v3 : Int) : Option (Int) :=
  (filter_isSmall v1 v3).bind fun v5 =>
  if v5 = true then
    ((filter_isSmall v2 v3).bind fun v6 =>
    if v6 = true then
      ((filter_within v3 1 100).bind fun v7 =>
      (filter_refuse (!(decide ((IntKind.i64.wrap ((IntKind.i64.wrap (v1 * v1)) + (IntKind.i64.wrap (v2 * v2)))) = (IntKind.i64.wrap (v3 * v3))))) 10).bind fun v8 =>
      (filter_firstError ([v7, v8] : List Int)).bind fun v9 =>
      some (v9))
    else
      ((filter_within v3 1 100).bind fun v10 =>
      (filter_refuse true 10).bind fun v11 =>
      (filter_firstError ([v10, v11] : List Int)).bind fun v12 =>
      some (v12)))
  else
    ((filter_within v3 1 100).bind fun v13 =>
    (filter_refuse true 10).bind fun v14 =>
    (filter_firstError ([v13, v14] : List Int)).bind fun v15 =>
    some (v15))

end Go.Rex

namespace Go.Rex
open Go Go.Rex
noncomputable def filter_size (v1 : Int) : Option (Int) :=
  some ((if (IntKind.i64.wrap (0 - v1)) > v1 then (IntKind.i64.wrap (0 - v1)) else v1))

end Go.Rex

namespace Go.Rex
open Go Go.Rex
noncomputable def filter_divisor_l1 : (Int × Int) → Option ((Int × Int) ⊕ ((Int))) := fun (v4, v5) =>
  if (decide (v5 ≠ 0)) = true then
    (if v5 = 0 then none else
    (some (.inl (v5, (v4.tmod v5)))))
  else
    (some (.inr v4))
noncomputable def filter_divisor (v1 : Int) (v2 : Int) : Option (Int) :=
  (run (filter_divisor_l1) (v1, v2)).bind fun v7 =>
  (filter_size v7).bind fun v8 =>
  some (v8)

end Go.Rex

namespace Go.Rex
open Go Go.Rex
noncomputable def filter_formError (v1 : Int) (v2 : Int) : Option (Int) :=
  if (decide (v2 ≤ 0)) = true then
    ((filter_refuse true 3).bind fun v4 =>
    some (v4))
  else
    ((filter_divisor v1 v2).bind fun v5 =>
    (filter_refuse (decide (v5 ≠ 1)) 3).bind fun v6 =>
    some (v6))

end Go.Rex

namespace Go.Rex
open Go Go.Rex
noncomputable def filter_sizeSquared (v1 : Int) (v2 : Int) (v3 : Int) (v4 : Int) (v5 : Int) (v6 : Int) : Option (Int) :=
  some ((IntKind.i64.wrap ((IntKind.i64.wrap ((IntKind.i64.wrap ((IntKind.i64.wrap ((IntKind.i64.wrap (v1 * (IntKind.i64.wrap ((IntKind.i64.wrap (v4 * v4)) - (IntKind.i64.wrap (v5 * v5)))))) + (IntKind.i64.wrap ((IntKind.i64.wrap (v2 * v4)) * v6)))) + (IntKind.i64.wrap ((IntKind.i64.wrap (v3 * v6)) * v6)))) * (IntKind.i64.wrap ((IntKind.i64.wrap ((IntKind.i64.wrap (v1 * (IntKind.i64.wrap ((IntKind.i64.wrap (v4 * v4)) - (IntKind.i64.wrap (v5 * v5)))))) + (IntKind.i64.wrap ((IntKind.i64.wrap (v2 * v4)) * v6)))) + (IntKind.i64.wrap ((IntKind.i64.wrap (v3 * v6)) * v6)))))) + (IntKind.i64.wrap ((IntKind.i64.wrap ((IntKind.i64.wrap ((IntKind.i64.wrap ((IntKind.i64.wrap (2 * v1)) * v4)) * v5)) + (IntKind.i64.wrap ((IntKind.i64.wrap (v2 * v5)) * v6)))) * (IntKind.i64.wrap ((IntKind.i64.wrap ((IntKind.i64.wrap ((IntKind.i64.wrap (2 * v1)) * v4)) * v5)) + (IntKind.i64.wrap ((IntKind.i64.wrap (v2 * v5)) * v6)))))))))

end Go.Rex

namespace Go.Rex
open Go Go.Rex
noncomputable def filter_gainOf (v1 : Int) (v2 : Int) (v3 : Int) (v4 : Int) (v5 : Int) (v6 : Int) (v7 : Int) (v8 : Int) : Option (Int × Int × Int) :=
  (filter_sizeSquared v1 v2 v3 v6 v7 v8).bind fun v12 =>
  (filter_sizeSquared 16384 v4 v5 v6 v7 v8).bind fun v13 =>
  if (decide (v13 = 0)) = true then
    (some (0, 0, 11))
  else
    (some (v12, v13, 0))

end Go.Rex

namespace Go.Rex
open Go Go.Rex
noncomputable def math_bits_Mul64 (v1 : Int) (v2 : Int) : Option (Int × Int) :=
  (shI .shr .u64 v1 32).bind fun v5 =>
  (shI .shr .u64 v2 32).bind fun v6 =>
  (shI .shr .u64 (IntKind.u64.wrap ((bitI .and .u64 v1 4294967295) * (bitI .and .u64 v2 4294967295))) 32).bind fun v7 =>
  (shI .shr .u64 (IntKind.u64.wrap ((IntKind.u64.wrap (v5 * (bitI .and .u64 v2 4294967295))) + v7)) 32).bind fun v8 =>
  (shI .shr .u64 (IntKind.u64.wrap ((bitI .and .u64 (IntKind.u64.wrap ((IntKind.u64.wrap (v5 * (bitI .and .u64 v2 4294967295))) + v7)) 4294967295) + (IntKind.u64.wrap ((bitI .and .u64 v1 4294967295) * v6)))) 32).bind fun v9 =>
  some ((IntKind.u64.wrap ((IntKind.u64.wrap ((IntKind.u64.wrap (v5 * v6)) + v8)) + v9)), (IntKind.u64.wrap (v1 * v2)))

end Go.Rex

namespace Go.Rex
open Go Go.Rex
noncomputable def filter_product (v1 : Int) (v2 : Int) : Option (Int × Int) :=
  (math_bits_Mul64 (IntKind.u64.wrap v1) (IntKind.u64.wrap v2)).bind fun (v5, v6) =>
  some (v5, v6)

end Go.Rex

namespace Go.Rex
open Go Go.Rex
noncomputable def cmp_isNaN_uint64 (v1 : Int) : Option (Bool) :=
  some ((decide (v1 ≠ v1)))

end Go.Rex

namespace Go.Rex
open Go Go.Rex
noncomputable def cmp_Compare_uint64 (v1 : Int) (v2 : Int) : Option (Int) :=
  (cmp_isNaN_uint64 v1).bind fun v4 =>
  (cmp_isNaN_uint64 v2).bind fun v5 =>
  if v4 = true then
    (if v5 = true then
      (some (0))
    else
      (some ((-1))))
  else
    (if v5 = true then
      (some (1))
    else
      (if (decide (v1 < v2)) = true then
        (some ((-1)))
      else
        (if (decide (v1 > v2)) = true then
          (some (1))
        else
          (some (0)))))

end Go.Rex

namespace Go.Rex
open Go Go.Rex
noncomputable def cmp_Or_int_l1 (v1 : (List Int)) : (Int) → Option ((Int) ⊕ ((Int) ⊕ (Unit))) := fun v3 =>
  if (decide (v3 < (v1.length : Int))) = true then
    ((getI v1 v3).bind fun v6 =>
    if (decide (v6 ≠ 0)) = true then
      (some (.inr (.inl v6)))
    else
      (some (.inl (IntKind.i64.wrap (v3 + 1)))))
  else
    (some (.inr (.inr ())))
noncomputable def cmp_Or_int (v1 : (List Int)) : Option (Int) :=
  (run (cmp_Or_int_l1 v1) 0).bind fun v7 => match v7 with
  | (.inl v8) =>
    some (v8)
  | (.inr _) =>
    some (0)

end Go.Rex

namespace Go.Rex
open Go Go.Rex
noncomputable def filter_wide_compare (v1 : Int) (v2 : Int) (v3 : Int) (v4 : Int) : Option (Int) :=
  (cmp_Compare_uint64 v1 v3).bind fun v6 =>
  (cmp_Compare_uint64 v2 v4).bind fun v7 =>
  (cmp_Or_int ([v6, v7] : List Int)).bind fun v8 =>
  some (v8)

end Go.Rex

namespace Go.Rex
open Go Go.Rex
noncomputable def filter_CompareGain (v1 : Int) (v2 : Int) (v3 : Int) (v4 : Int) (v5 : Int) (v6 : Int) (v7 : Int) (v8 : Int) (v9 : Int) (v10 : Int) : Option (Int × Int) :=
  (filter_CheckSection v1 v2 v3 v4 v5).bind fun v13 =>
  (filter_turnError v6 v7 v8).bind fun v14 =>
  (filter_formError v9 v10).bind fun v15 =>
  (filter_within v9 0 1000000000).bind fun v16 =>
  (filter_within v10 1 1000000000).bind fun v17 =>
  (filter_firstError ([v13, v14, v15, v16, v17] : List Int)).bind fun v18 =>
  if (decide (v18 ≠ 0)) = true then
    (some (0, v18))
  else
    ((filter_gainOf v1 v2 v3 v4 v5 v6 v7 v8).bind fun (v19, v20, v21) =>
    if (decide (v21 ≠ 0)) = true then
      (some (0, v21))
    else
      ((filter_product v19 v10).bind fun (v22, v23) =>
      (filter_product v9 v20).bind fun (v24, v25) =>
      (filter_wide_compare v22 v23 v24 v25).bind fun v26 =>
      some (v26, 0)))

end Go.Rex

namespace Go.Rex
open Go Go.Rex
noncomputable def filter_lowest (v1 : Int) (v2 : Int) : Option (Int × Int) :=
  if (decide (v2 < 0)) = true then
    ((filter_divisor (IntKind.i64.wrap (0 - v1)) (IntKind.i64.wrap (0 - v2))).bind fun v5 =>
    if v5 = 0 then none else
    (some ((IntKind.i64.wrap ((IntKind.i64.wrap (0 - v1)).tdiv v5)), (IntKind.i64.wrap ((IntKind.i64.wrap (0 - v2)).tdiv v5)))))
  else
    ((filter_divisor v1 v2).bind fun v6 =>
    if v6 = 0 then none else
    (some ((IntKind.i64.wrap (v1.tdiv v6)), (IntKind.i64.wrap (v2.tdiv v6)))))

end Go.Rex

namespace Go.Rex
open Go Go.Rex
noncomputable def filter_GainSquare (v1 : Int) (v2 : Int) (v3 : Int) (v4 : Int) (v5 : Int) (v6 : Int) (v7 : Int) (v8 : Int) : Option (Int × Int × Int) :=
  (filter_CheckSection v1 v2 v3 v4 v5).bind fun v12 =>
  (filter_turnError v6 v7 v8).bind fun v13 =>
  (filter_firstError ([v12, v13] : List Int)).bind fun v14 =>
  if (decide (v14 ≠ 0)) = true then
    (some (0, 0, v14))
  else
    ((filter_gainOf v1 v2 v3 v4 v5 v6 v7 v8).bind fun (v15, v16, v17) =>
    if (decide (v17 ≠ 0)) = true then
      (some (0, 0, v17))
    else
      ((filter_lowest v15 v16).bind fun (v18, v19) =>
      if (decide ((if v19 > v18 then v19 else v18) > 1000000000)) = true then
        (some (0, 0, 8))
      else
        (some (v18, v19, 0))))

end Go.Rex

namespace Go.Rex
open Go Go.Rex
noncomputable def base_Within (v1 : Int) (v2 : Int) (v3 : Int) : Option (Bool) :=
  if (decide (v2 ≤ v1)) = true then
    (some ((decide (v1 ≤ v3))))
  else
    (some (false))

end Go.Rex

namespace Go.Rex
open Go Go.Rex
noncomputable def ref06_CheckSection_l1 (v1 : Int) (v2 : Int) (v3 : Int) (v4 : Int) (v5 : Int) : (Int) → Option ((Int) ⊕ ((Unit) ⊕ (Unit))) := fun v7 =>
  if (decide (v7 < 5)) = true then
    ((getI ([v1, v2, v3, v4, v5] : List Int) v7).bind fun v10 =>
    (base_Within v10 (-32768) 32768).bind fun v11 =>
    if v11 = true then
      (some (.inl (IntKind.i64.wrap (v7 + 1))))
    else
      (some (.inr (.inl ()))))
  else
    (some (.inr (.inr ())))
noncomputable def ref06_CheckSection (v1 : Int) (v2 : Int) (v3 : Int) (v4 : Int) (v5 : Int) : Option (Int) :=
  (run (ref06_CheckSection_l1 v1 v2 v3 v4 v5) 0).bind fun v12 => match v12 with
  | (.inl _) =>
    some (2)
  | (.inr _) =>
    some (0)

end Go.Rex

namespace Go.Rex
open Go Go.Rex
noncomputable def ref06_TurnErr (v1 : Int) (v2 : Int) (v3 : Int) : Option (Int) :=
  (base_Within v3 1 100).bind fun v5 =>
  if v5 = true then
    ((base_Within v1 (IntKind.i64.wrap (0 - v3)) v3).bind fun v6 =>
    if v6 = true then
      ((base_Within v2 (IntKind.i64.wrap (0 - v3)) v3).bind fun v7 =>
      if v7 = true then
        (if (decide ((IntKind.i64.wrap ((IntKind.i64.wrap (v1 * v1)) + (IntKind.i64.wrap (v2 * v2)))) ≠ (IntKind.i64.wrap (v3 * v3)))) = true then
          (some (10))
        else
          (some (0)))
      else
        (some (10)))
    else
      (some (10)))
  else
    (some (2))

end Go.Rex

namespace Go.Rex
open Go Go.Rex
noncomputable def ref06_square (v1 : Int) (v2 : Int) (v3 : Int) (v4 : Int) (v5 : Int) (v6 : Int) : Option (Int) :=
  some ((IntKind.i64.wrap ((IntKind.i64.wrap ((IntKind.i64.wrap ((IntKind.i64.wrap ((IntKind.i64.wrap (v1 * (IntKind.i64.wrap ((IntKind.i64.wrap (v4 * v4)) - (IntKind.i64.wrap (v5 * v5)))))) + (IntKind.i64.wrap ((IntKind.i64.wrap (v2 * v4)) * v6)))) + (IntKind.i64.wrap ((IntKind.i64.wrap (v3 * v6)) * v6)))) * (IntKind.i64.wrap ((IntKind.i64.wrap ((IntKind.i64.wrap (v1 * (IntKind.i64.wrap ((IntKind.i64.wrap (v4 * v4)) - (IntKind.i64.wrap (v5 * v5)))))) + (IntKind.i64.wrap ((IntKind.i64.wrap (v2 * v4)) * v6)))) + (IntKind.i64.wrap ((IntKind.i64.wrap (v3 * v6)) * v6)))))) + (IntKind.i64.wrap ((IntKind.i64.wrap ((IntKind.i64.wrap ((IntKind.i64.wrap ((IntKind.i64.wrap (2 * v1)) * v4)) * v5)) + (IntKind.i64.wrap ((IntKind.i64.wrap (v2 * v5)) * v6)))) * (IntKind.i64.wrap ((IntKind.i64.wrap ((IntKind.i64.wrap ((IntKind.i64.wrap (2 * v1)) * v4)) * v5)) + (IntKind.i64.wrap ((IntKind.i64.wrap (v2 * v5)) * v6)))))))))

end Go.Rex

namespace Go.Rex
open Go Go.Rex
noncomputable def ref06_Gain (v1 : Int) (v2 : Int) (v3 : Int) (v4 : Int) (v5 : Int) (v6 : Int) (v7 : Int) (v8 : Int) : Option (Int × Int) :=
  (ref06_square v1 v2 v3 v6 v7 v8).bind fun v11 =>
  (ref06_square 16384 v4 v5 v6 v7 v8).bind fun v12 =>
  some (v11, v12)

end Go.Rex

namespace Go.Rex
open Go Go.Rex
noncomputable def base_Size (v1 : Int) : Option (Int) :=
  some ((if (IntKind.i64.wrap (0 - v1)) > v1 then (IntKind.i64.wrap (0 - v1)) else v1))

end Go.Rex

namespace Go.Rex
open Go Go.Rex
noncomputable def base_Gcd_l1 : (Int × Int) → Option ((Int × Int) ⊕ ((Int))) := fun (v4, v5) =>
  if (decide (v5 ≠ 0)) = true then
    (if v5 = 0 then none else
    (some (.inl (v5, (v4.tmod v5)))))
  else
    (some (.inr v4))
noncomputable def base_Gcd (v1 : Int) (v2 : Int) : Option (Int) :=
  (run (base_Gcd_l1) (v1, v2)).bind fun v7 =>
  (base_Size v7).bind fun v8 =>
  some (v8)

end Go.Rex

namespace Go.Rex
open Go Go.Rex
noncomputable def base_Lowest (v1 : Int) (v2 : Int) : Option (Int × Int) :=
  (base_Gcd v1 v2).bind fun v5 =>
  if (decide (v2 < 0)) = true then
    (if (IntKind.i64.wrap (0 - v5)) = 0 then none else
    (some ((IntKind.i64.wrap (v1.tdiv (IntKind.i64.wrap (0 - v5)))), (IntKind.i64.wrap (v2.tdiv (IntKind.i64.wrap (0 - v5)))))))
  else
    (if v5 = 0 then none else
    (some ((IntKind.i64.wrap (v1.tdiv v5)), (IntKind.i64.wrap (v2.tdiv v5)))))

end Go.Rex

namespace Go.Rex
open Go Go.Rex
noncomputable def base_IsSmall (v1 : Int) (v2 : Int) : Option (Bool) :=
  (base_Within v1 (-1000000000) 1000000000).bind fun v4 =>
  if v4 = true then
    ((base_Within v2 1 1000000000).bind fun v5 =>
    some (v5))
  else
    (some (false))

end Go.Rex

namespace Go.Rex
open Go Go.Rex
noncomputable def ref06_GainSquare (v1 : Int) (v2 : Int) (v3 : Int) (v4 : Int) (v5 : Int) (v6 : Int) (v7 : Int) (v8 : Int) : Option (Int × Int × Int) :=
  (ref06_Gain v1 v2 v3 v4 v5 v6 v7 v8).bind fun (v12, v13) =>
  if (decide (v13 = 0)) = true then
    (some (0, 0, 11))
  else
    ((base_Lowest v12 v13).bind fun (v14, v15) =>
    (base_IsSmall v14 v15).bind fun v16 =>
    if v16 = true then
      (some (v14, v15, 0))
    else
      (some (0, 0, 8)))

end Go.Rex

namespace Go.Rex
open Go Go.Rex
noncomputable def base_IsLowest (v1 : Int) (v2 : Int) : Option (Bool) :=
  if (decide (v2 > 0)) = true then
    ((base_Gcd v1 v2).bind fun v4 =>
    some ((decide (v4 = 1))))
  else
    (some (false))

end Go.Rex

namespace Go.Rex
open Go Go.Rex
noncomputable def ref06_FracErr (v1 : Int) (v2 : Int) : Option (Int) :=
  (base_IsLowest v1 v2).bind fun v4 =>
  if v4 = true then
    ((base_IsSmall v1 v2).bind fun v5 =>
    if v5 = true then
      (some (0))
    else
      (some (2)))
  else
    (some (3))

end Go.Rex

namespace Go.Rex
open Go Go.Rex
noncomputable def base_Floor (v1 : Int) (v2 : Int) : Option (Int) :=
  if v2 = 0 then none else
  (if (decide ((v1.tmod v2) < 0)) = true then
    (some ((IntKind.i64.wrap ((IntKind.i64.wrap (v1.tdiv v2)) - 1))))
  else
    (some ((IntKind.i64.wrap (v1.tdiv v2)))))

end Go.Rex

namespace Go.Rex
open Go Go.Rex
noncomputable def base_Compare_l1 : (Int × Int × Int × Int) → Option ((Int × Int × Int × Int) ⊕ ((Int))) := fun (v6, v7, v8, v9) =>
  (base_Floor v6 v7).bind fun v13 =>
  (base_Floor v8 v9).bind fun v14 =>
  if (decide (v13 < v14)) = true then
    (some (.inr (-1)))
  else
    (if (decide (v13 > v14)) = true then
      (some (.inr 1))
    else
      (if (decide ((IntKind.i64.wrap (v6 - (IntKind.i64.wrap (v13 * v7)))) = 0)) = true then
        (if (decide ((IntKind.i64.wrap (v8 - (IntKind.i64.wrap (v14 * v9)))) = 0)) = true then
          (some (.inr 0))
        else
          (some (.inr (-1))))
      else
        (if (decide ((IntKind.i64.wrap (v8 - (IntKind.i64.wrap (v14 * v9)))) = 0)) = true then
          (some (.inr 1))
        else
          (some (.inl (v9, (IntKind.i64.wrap (v8 - (IntKind.i64.wrap (v14 * v9)))), v7, (IntKind.i64.wrap (v6 - (IntKind.i64.wrap (v13 * v7))))))))))
noncomputable def base_Compare (v1 : Int) (v2 : Int) (v3 : Int) (v4 : Int) : Option (Int) :=
  (run (base_Compare_l1) (v1, v2, v3, v4)).bind fun v15 =>
  some (v15)

end Go.Rex

namespace Go.Rex
open Go Go.Rex
noncomputable def ref06_CompareGain (v1 : Int) (v2 : Int) (v3 : Int) (v4 : Int) (v5 : Int) (v6 : Int) (v7 : Int) (v8 : Int) (v9 : Int) (v10 : Int) : Option (Int × Int) :=
  (ref06_Gain v1 v2 v3 v4 v5 v6 v7 v8).bind fun (v13, v14) =>
  if (decide (v14 = 0)) = true then
    (some (0, 11))
  else
    ((base_Compare v13 v14 v9 v10).bind fun v15 =>
    some (v15, 0))

end Go.Rex

namespace Go.Rex
open Go Go.Rex
noncomputable def base_Cmp (v1 : Int) (v2 : Int) (v3 : Int) (v4 : Int) : Option (Int) :=
  if (decide ((IntKind.i64.wrap (v1 * v4)) < (IntKind.i64.wrap (v3 * v2)))) = true then
    (some ((-1)))
  else
    (if (decide ((IntKind.i64.wrap (v1 * v4)) > (IntKind.i64.wrap (v3 * v2)))) = true then
      (some (1))
    else
      (some (0)))

end Go.Rex

namespace Go.Rex
open Go Go.Rex
noncomputable def law06_FilterGains (v1 : Int) (v2 : Int) (v3 : Int) (v4 : Int) (v5 : Int) (v6 : Int) (v7 : Int) (v8 : Int) (v9 : Int) (v10 : Int) : Option Bool :=
  (filter_CompareGain v1 v2 v3 v4 v5 v6 v7 v8 v9 v10).bind fun (v12, v13) =>
  (filter_GainSquare v1 v2 v3 v4 v5 v6 v7 v8).bind fun (v14, v15, v16) =>
  (ref06_CheckSection v1 v2 v3 v4 v5).bind fun v17 =>
  if (decide (v17 = 0)) = true then
    ((ref06_TurnErr v6 v7 v8).bind fun v18 =>
    if (decide (v18 ≠ 0)) = true then
      (if (decide (v13 = v18)) = true then
        (if (decide (v16 = v18)) = true then
          (if (decide (v12 = 0)) = true then
            (some (([v14 == 0, v15 == 0].all id)))
          else
            (some (false)))
        else
          (some (false)))
      else
        (some (false)))
    else
      ((ref06_GainSquare v1 v2 v3 v4 v5 v6 v7 v8).bind fun (v19, v20, v21) =>
      (ref06_FracErr v9 v10).bind fun v22 =>
      if (decide (v22 = 0)) = true then
        (if (decide (v9 < 0)) = true then
          (if (decide (v13 ≠ 2)) = true then
            (some (false))
          else
            (if (decide (v12 ≠ 0)) = true then
              (some (false))
            else
              (if (decide (v16 ≠ v21)) = true then
                (some (false))
              else
                (if ([v14 == v19, v15 == v20].all id) = true then
                  ((filter_GainSquare v1 v2 v3 v4 v5 v6 (IntKind.i64.wrap (0 - v7)) v8).bind fun (v23, v24, v25) =>
                  if (decide (v25 = v21)) = true then
                    (if ([v23 == v14, v24 == v15].all id) = true then
                      (if (decide (v21 ≠ 0)) = true then
                        (some (true))
                      else
                        (some (true)))
                    else
                      (some (false)))
                  else
                    (some (false)))
                else
                  (some (false))))))
        else
          ((ref06_CompareGain v1 v2 v3 v4 v5 v6 v7 v8 v9 v10).bind fun (v26, v27) =>
          if (decide (v13 ≠ v27)) = true then
            (some (false))
          else
            (if (decide (v12 ≠ v26)) = true then
              (some (false))
            else
              (if (decide (v16 ≠ v21)) = true then
                (some (false))
              else
                (if ([v14 == v19, v15 == v20].all id) = true then
                  ((filter_GainSquare v1 v2 v3 v4 v5 v6 (IntKind.i64.wrap (0 - v7)) v8).bind fun (v28, v29, v30) =>
                  if (decide (v30 = v21)) = true then
                    (if ([v28 == v14, v29 == v15].all id) = true then
                      (if (decide (v21 ≠ 0)) = true then
                        (some (true))
                      else
                        (if (decide (v27 ≠ 0)) = true then
                          (some (true))
                        else
                          ((base_Cmp v14 v15 v9 v10).bind fun v31 =>
                          some ((decide (v12 = v31))))))
                    else
                      (some (false)))
                  else
                    (some (false)))
                else
                  (some (false)))))))
      else
        (if (decide (v13 ≠ v22)) = true then
          (some (false))
        else
          (if (decide (v12 ≠ 0)) = true then
            (some (false))
          else
            (if (decide (v16 ≠ v21)) = true then
              (some (false))
            else
              (if ([v14 == v19, v15 == v20].all id) = true then
                ((filter_GainSquare v1 v2 v3 v4 v5 v6 (IntKind.i64.wrap (0 - v7)) v8).bind fun (v32, v33, v34) =>
                if (decide (v34 = v21)) = true then
                  (if ([v32 == v14, v33 == v15].all id) = true then
                    (if (decide (v21 ≠ 0)) = true then
                      (some (true))
                    else
                      (if (decide (v22 ≠ 0)) = true then
                        (some (true))
                      else
                        ((base_Cmp v14 v15 v9 v10).bind fun v35 =>
                        some ((decide (v12 = v35))))))
                  else
                    (some (false)))
                else
                  (some (false)))
              else
                (some (false))))))))
  else
    (if (decide (v17 ≠ 0)) = true then
      (if (decide (v13 = v17)) = true then
        (if (decide (v16 = v17)) = true then
          (if (decide (v12 = 0)) = true then
            (some (([v14 == 0, v15 == 0].all id)))
          else
            (some (false)))
        else
          (some (false)))
      else
        (some (false)))
    else
      ((ref06_GainSquare v1 v2 v3 v4 v5 v6 v7 v8).bind fun (v36, v37, v38) =>
      (ref06_FracErr v9 v10).bind fun v39 =>
      if (decide (v39 = 0)) = true then
        (if (decide (v9 < 0)) = true then
          (if (decide (v13 ≠ 2)) = true then
            (some (false))
          else
            (if (decide (v12 ≠ 0)) = true then
              (some (false))
            else
              (if (decide (v16 ≠ v38)) = true then
                (some (false))
              else
                (if ([v14 == v36, v15 == v37].all id) = true then
                  ((filter_GainSquare v1 v2 v3 v4 v5 v6 (IntKind.i64.wrap (0 - v7)) v8).bind fun (v40, v41, v42) =>
                  if (decide (v42 = v38)) = true then
                    (if ([v40 == v14, v41 == v15].all id) = true then
                      (if (decide (v38 ≠ 0)) = true then
                        (some (true))
                      else
                        (some (true)))
                    else
                      (some (false)))
                  else
                    (some (false)))
                else
                  (some (false))))))
        else
          ((ref06_CompareGain v1 v2 v3 v4 v5 v6 v7 v8 v9 v10).bind fun (v43, v44) =>
          if (decide (v13 ≠ v44)) = true then
            (some (false))
          else
            (if (decide (v12 ≠ v43)) = true then
              (some (false))
            else
              (if (decide (v16 ≠ v38)) = true then
                (some (false))
              else
                (if ([v14 == v36, v15 == v37].all id) = true then
                  ((filter_GainSquare v1 v2 v3 v4 v5 v6 (IntKind.i64.wrap (0 - v7)) v8).bind fun (v45, v46, v47) =>
                  if (decide (v47 = v38)) = true then
                    (if ([v45 == v14, v46 == v15].all id) = true then
                      (if (decide (v38 ≠ 0)) = true then
                        (some (true))
                      else
                        (if (decide (v44 ≠ 0)) = true then
                          (some (true))
                        else
                          ((base_Cmp v14 v15 v9 v10).bind fun v48 =>
                          some ((decide (v12 = v48))))))
                    else
                      (some (false)))
                  else
                    (some (false)))
                else
                  (some (false)))))))
      else
        (if (decide (v13 ≠ v39)) = true then
          (some (false))
        else
          (if (decide (v12 ≠ 0)) = true then
            (some (false))
          else
            (if (decide (v16 ≠ v38)) = true then
              (some (false))
            else
              (if ([v14 == v36, v15 == v37].all id) = true then
                ((filter_GainSquare v1 v2 v3 v4 v5 v6 (IntKind.i64.wrap (0 - v7)) v8).bind fun (v49, v50, v51) =>
                if (decide (v51 = v38)) = true then
                  (if ([v49 == v14, v50 == v15].all id) = true then
                    (if (decide (v38 ≠ 0)) = true then
                      (some (true))
                    else
                      (if (decide (v39 ≠ 0)) = true then
                        (some (true))
                      else
                        ((base_Cmp v14 v15 v9 v10).bind fun v52 =>
                        some ((decide (v12 = v52))))))
                  else
                    (some (false)))
                else
                  (some (false)))
              else
                (some (false))))))))

end Go.Rex
