/- The functions of the program and of the reference, as functions of lists and numbers. -/
import Derived.Test.YtojekkfmnnoabaaTexU
set_option linter.unusedSimpArgs false
set_option linter.unusedVariables false
set_option linter.defProp false
namespace Go.Rex
open Go Go.Rex
def e_iiiii (x : (Int × Int × Int × Int × Int)) : List TV := [.v (.int .i64 x.1), .v (.int .i64 x.2.1), .v (.int .i64 x.2.2.1), .v (.int .i64 x.2.2.2.1), .v (.int .i64 x.2.2.2.2)]
def e_i (x : Int) : List TV := [.v (.int .i64 x)]
def txt_c95356 : ByteArray := ⟨#[0, 1, 2, 2, 3, 3, 3, 3, 4, 4, 4, 4, 4, 4, 4, 4, 5, 5, 5, 5, 5, 5, 5, 5, 5, 5, 5, 5, 5, 5, 5, 5, 6, 6, 6, 6, 6, 6, 6, 6, 6, 6, 6, 6, 6, 6, 6, 6, 6, 6, 6, 6, 6, 6, 6, 6, 6, 6, 6, 6, 6, 6, 6, 6, 7, 7, 7, 7, 7, 7, 7, 7, 7, 7, 7, 7, 7, 7, 7, 7, 7, 7, 7, 7, 7, 7, 7, 7, 7, 7, 7, 7, 7, 7, 7, 7, 7, 7, 7, 7, 7, 7, 7, 7, 7, 7, 7, 7, 7, 7, 7, 7, 7, 7, 7, 7, 7, 7, 7, 7, 7, 7, 7, 7, 7, 7, 7, 7, 8, 8, 8, 8, 8, 8, 8, 8, 8, 8, 8, 8, 8, 8, 8, 8, 8, 8, 8, 8, 8, 8, 8, 8, 8, 8, 8, 8, 8, 8, 8, 8, 8, 8, 8, 8, 8, 8, 8, 8, 8, 8, 8, 8, 8, 8, 8, 8, 8, 8, 8, 8, 8, 8, 8, 8, 8, 8, 8, 8, 8, 8, 8, 8, 8, 8, 8, 8, 8, 8, 8, 8, 8, 8, 8, 8, 8, 8, 8, 8, 8, 8, 8, 8, 8, 8, 8, 8, 8, 8, 8, 8, 8, 8, 8, 8, 8, 8, 8, 8, 8, 8, 8, 8, 8, 8, 8, 8, 8, 8, 8, 8, 8, 8, 8, 8, 8, 8, 8, 8, 8, 8, 8, 8, 8, 8, 8, 8]⟩

end Go.Rex

namespace Go.Rex
open Go Go.Rex
noncomputable def law06_few (v1 : (List (Int × Int × Int × Int × Int))) : Option (Bool) :=
  some ((decide ((v1.length : Int) ≤ 8)))

end Go.Rex

namespace Go.Rex
open Go Go.Rex
noncomputable def ref06_Copy (v1 : (List (Int × Int × Int × Int × Int))) : Option ((List (Int × Int × Int × Int × Int))) :=
  (appI 40 ([] : List (Int × Int × Int × Int × Int)) v1).bind fun v3 =>
  some (v3)

end Go.Rex

namespace Go.Rex
open Go Go.Rex
noncomputable def filter_coefficientsOf (v1 : Int) (v2 : Int) (v3 : Int) (v4 : Int) (v5 : Int) : Option (Int × Int × Int × Int × Int) :=
  some (v1, v2, v3, v4, v5)

end Go.Rex

namespace Go.Rex
open Go Go.Rex
noncomputable def filter_isSmall (v1 : Int) (v2 : Int) : Option (Bool) :=
  if (decide ((IntKind.i64.wrap (0 - v2)) ≤ v1)) = true then
    (some ((decide (v1 ≤ v2))))
  else
    (some (false))

end Go.Rex

namespace Go.Rex
open Go Go.Rex
noncomputable def filter_allSmall_l1 (v1 : (List Int)) (v2 : Int) : (Int) → Option ((Int) ⊕ ((Unit) ⊕ (Unit))) := fun v4 =>
  if (decide (v4 < (v1.length : Int))) = true then
    ((getI v1 v4).bind fun v7 =>
    (filter_isSmall v7 v2).bind fun v8 =>
    if v8 = true then
      (some (.inl (IntKind.i64.wrap (v4 + 1))))
    else
      (some (.inr (.inl ()))))
  else
    (some (.inr (.inr ())))
noncomputable def filter_allSmall (v1 : (List Int)) (v2 : Int) : Option (Int) :=
  (run (filter_allSmall_l1 v1 v2) 0).bind fun v9 => match v9 with
  | (.inl _) =>
    some (2)
  | (.inr _) =>
    some (0)

end Go.Rex

namespace Go.Rex
open Go Go.Rex
noncomputable def filter_CheckSection (v1 : Int) (v2 : Int) (v3 : Int) (v4 : Int) (v5 : Int) : Option (Int) :=
  (filter_coefficientsOf v1 v2 v3 v4 v5).bind fun (v7, v8, v9, v10, v11) =>
  (filter_allSmall ([v7, v8, v9, v10, v11] : List Int) 32768).bind fun v12 =>
  some (v12)

end Go.Rex

namespace Go.Rex
open Go Go.Rex
noncomputable def filter_CheckCascade_l1 (v1 : (List (Int × Int × Int × Int × Int))) : (Int) → Option ((Int) ⊕ ((Int × Int) ⊕ (Unit))) := fun v4 =>
  if (decide (v4 < (v1.length : Int))) = true then
    ((getI v1 v4).bind fun (v13, v14, v15, v16, v17) =>
    (filter_CheckSection v13 v14 v15 v16 v17).bind fun v18 =>
    if (decide (v18 ≠ 0)) = true then
      (some (.inr (.inl (v4, v18))))
    else
      (some (.inl (IntKind.i64.wrap (v4 + 1)))))
  else
    (some (.inr (.inr ())))
noncomputable def filter_CheckCascade (v1 : (List (Int × Int × Int × Int × Int))) : Option (Int × Int) :=
  if (decide ((v1.length : Int) > 6)) = true then
    (some (0, 8))
  else
    ((run (filter_CheckCascade_l1 v1) 0).bind fun v19 => match v19 with
    | (.inl (v20, v21)) =>
      some (v20, v21)
    | (.inr _) =>
      some (0, 0))

end Go.Rex

namespace Go.Rex
open Go Go.Rex
noncomputable def filter_cascadeError (v1 : (List (Int × Int × Int × Int × Int))) : Option (Int) :=
  (filter_CheckCascade v1).bind fun (v3, v4) =>
  some (v4)

end Go.Rex

namespace Go.Rex
open Go Go.Rex
noncomputable def filter_refuse (v1 : Bool) (v2 : Int) : Option (Int) :=
  if v1 = true then
    (some (v2))
  else
    (some (0))

end Go.Rex

namespace Go.Rex
open Go Go.Rex
noncomputable def filter_within (v1 : Int) (v2 : Int) (v3 : Int) : Option (Int) :=
  if (decide (v1 < v2)) = true then
    ((filter_refuse true 2).bind fun v5 =>
    some (v5))
  else
    ((filter_refuse (decide (v1 > v3)) 2).bind fun v6 =>
    some (v6))

end Go.Rex

namespace Go.Rex
open Go Go.Rex
noncomputable def filter_firstError_l1 (v1 : (List Int)) : (Int) → Option ((Int) ⊕ ((Int) ⊕ (Unit))) := fun v3 =>
  if (decide (v3 < (v1.length : Int))) = true then
    ((getI v1 v3).bind fun v6 =>
    if (decide (v6 ≠ 0)) = true then
      (some (.inr (.inl v6)))
    else
      (some (.inl (IntKind.i64.wrap (v3 + 1)))))
  else
    (some (.inr (.inr ())))
noncomputable def filter_firstError (v1 : (List Int)) : Option (Int) :=
  (run (filter_firstError_l1 v1) 0).bind fun v7 => match v7 with
  | (.inl v8) =>
    some (v8)
  | (.inr _) =>
    some (0)

end Go.Rex

namespace Go.Rex
open Go Go.Rex
noncomputable def filter_turnError (v1 : Int) (v2 : Int) (v3 : Int) : Option (Int) :=
  (filter_isSmall v1 v3).bind fun v5 =>
  if v5 = true then
    ((filter_isSmall v2 v3).bind fun v6 =>
    if v6 = true then
      ((filter_within v3 1 100).bind fun v7 =>
      (filter_refuse (!(decide ((IntKind.i64.wrap ((IntKind.i64.wrap (v1 * v1)) + (IntKind.i64.wrap (v2 * v2)))) = (IntKind.i64.wrap (v3 * v3))))) 10).bind fun v8 =>
      (filter_firstError ([v7, v8] : List Int)).bind fun v9 =>
      some (v9))
    else
      ((filter_within v3 1 100).bind fun v10 =>
      (filter_refuse true 10).bind fun v11 =>
      (filter_firstError ([v10, v11] : List Int)).bind fun v12 =>
      some (v12)))
  else
    ((filter_within v3 1 100).bind fun v13 =>
    (filter_refuse true 10).bind fun v14 =>
    (filter_firstError ([v13, v14] : List Int)).bind fun v15 =>
    some (v15))

end Go.Rex

namespace Go.Rex
open Go Go.Rex
noncomputable def filter_sizeSquared (v1 : Int) (v2 : Int) (v3 : Int) (v4 : Int) (v5 : Int) (v6 : Int) : Option (Int) :=
  some ((IntKind.i64.wrap ((IntKind.i64.wrap ((IntKind.i64.wrap ((IntKind.i64.wrap ((IntKind.i64.wrap (v1 * (IntKind.i64.wrap ((IntKind.i64.wrap (v4 * v4)) - (IntKind.i64.wrap (v5 * v5)))))) + (IntKind.i64.wrap ((IntKind.i64.wrap (v2 * v4)) * v6)))) + (IntKind.i64.wrap ((IntKind.i64.wrap (v3 * v6)) * v6)))) * (IntKind.i64.wrap ((IntKind.i64.wrap ((IntKind.i64.wrap (v1 * (IntKind.i64.wrap ((IntKind.i64.wrap (v4 * v4)) - (IntKind.i64.wrap (v5 * v5)))))) + (IntKind.i64.wrap ((IntKind.i64.wrap (v2 * v4)) * v6)))) + (IntKind.i64.wrap ((IntKind.i64.wrap (v3 * v6)) * v6)))))) + (IntKind.i64.wrap ((IntKind.i64.wrap ((IntKind.i64.wrap ((IntKind.i64.wrap ((IntKind.i64.wrap (2 * v1)) * v4)) * v5)) + (IntKind.i64.wrap ((IntKind.i64.wrap (v2 * v5)) * v6)))) * (IntKind.i64.wrap ((IntKind.i64.wrap ((IntKind.i64.wrap ((IntKind.i64.wrap (2 * v1)) * v4)) * v5)) + (IntKind.i64.wrap ((IntKind.i64.wrap (v2 * v5)) * v6)))))))))

end Go.Rex

namespace Go.Rex
open Go Go.Rex
noncomputable def filter_gainOf (v1 : Int) (v2 : Int) (v3 : Int) (v4 : Int) (v5 : Int) (v6 : Int) (v7 : Int) (v8 : Int) : Option (Int × Int × Int) :=
  (filter_sizeSquared v1 v2 v3 v6 v7 v8).bind fun v12 =>
  (filter_sizeSquared 16384 v4 v5 v6 v7 v8).bind fun v13 =>
  if (decide (v13 = 0)) = true then
    (some (0, 0, 11))
  else
    (some (v12, v13, 0))

end Go.Rex

namespace Go.Rex
open Go Go.Rex
noncomputable def math_bits_Mul64 (v1 : Int) (v2 : Int) : Option (Int × Int) :=
  (shI .shr .u64 v1 32).bind fun v5 =>
  (shI .shr .u64 v2 32).bind fun v6 =>
  (shI .shr .u64 (IntKind.u64.wrap ((bitI .and .u64 v1 4294967295) * (bitI .and .u64 v2 4294967295))) 32).bind fun v7 =>
  (shI .shr .u64 (IntKind.u64.wrap ((IntKind.u64.wrap (v5 * (bitI .and .u64 v2 4294967295))) + v7)) 32).bind fun v8 =>
  (shI .shr .u64 (IntKind.u64.wrap ((bitI .and .u64 (IntKind.u64.wrap ((IntKind.u64.wrap (v5 * (bitI .and .u64 v2 4294967295))) + v7)) 4294967295) + (IntKind.u64.wrap ((bitI .and .u64 v1 4294967295) * v6)))) 32).bind fun v9 =>
  some ((IntKind.u64.wrap ((IntKind.u64.wrap ((IntKind.u64.wrap (v5 * v6)) + v8)) + v9)), (IntKind.u64.wrap (v1 * v2)))

end Go.Rex

namespace Go.Rex
open Go Go.Rex
noncomputable def filter_product (v1 : Int) (v2 : Int) : Option (Int × Int) :=
  (math_bits_Mul64 (IntKind.u64.wrap v1) (IntKind.u64.wrap v2)).bind fun (v5, v6) =>
  some (v5, v6)

end Go.Rex

namespace Go.Rex
open Go Go.Rex
noncomputable def cmp_isNaN_uint64 (v1 : Int) : Option (Bool) :=
  some ((decide (v1 ≠ v1)))

end Go.Rex

namespace Go.Rex
open Go Go.Rex
noncomputable def cmp_Compare_uint64 (v1 : Int) (v2 : Int) : Option (Int) :=
  (cmp_isNaN_uint64 v1).bind fun v4 =>
  (cmp_isNaN_uint64 v2).bind fun v5 =>
  if v4 = true then
    (if v5 = true then
      (some (0))
    else
      (some ((-1))))
  else
    (if v5 = true then
      (some (1))
    else
      (if (decide (v1 < v2)) = true then
        (some ((-1)))
      else
        (if (decide (v1 > v2)) = true then
          (some (1))
        else
          (some (0)))))

end Go.Rex

namespace Go.Rex
open Go Go.Rex
noncomputable def cmp_Or_int_l1 (v1 : (List Int)) : (Int) → Option ((Int) ⊕ ((Int) ⊕ (Unit))) := fun v3 =>
  if (decide (v3 < (v1.length : Int))) = true then
    ((getI v1 v3).bind fun v6 =>
    if (decide (v6 ≠ 0)) = true then
      (some (.inr (.inl v6)))
    else
      (some (.inl (IntKind.i64.wrap (v3 + 1)))))
  else
    (some (.inr (.inr ())))
noncomputable def cmp_Or_int (v1 : (List Int)) : Option (Int) :=
  (run (cmp_Or_int_l1 v1) 0).bind fun v7 => match v7 with
  | (.inl v8) =>
    some (v8)
  | (.inr _) =>
    some (0)

end Go.Rex

namespace Go.Rex
open Go Go.Rex
noncomputable def filter_wide_compare (v1 : Int) (v2 : Int) (v3 : Int) (v4 : Int) : Option (Int) :=
  (cmp_Compare_uint64 v1 v3).bind fun v6 =>
  (cmp_Compare_uint64 v2 v4).bind fun v7 =>
  (cmp_Or_int ([v6, v7] : List Int)).bind fun v8 =>
  some (v8)

end Go.Rex

namespace Go.Rex
open Go Go.Rex
noncomputable def math_bits_Len64 (v1 : Int) : Option (Int) :=
  if (decide (v1 ≥ 4294967296)) = true then
    ((shI .shr .u64 v1 32).bind fun v3 =>
    if (decide (v3 ≥ 65536)) = true then
      ((shI .shr .u64 v3 16).bind fun v4 =>
      if (decide (v4 ≥ 256)) = true then
        ((shI .shr .u64 v4 8).bind fun v5 =>
        (strI txt_c95356 (IntKind.u8.wrap v5)).bind fun v6 =>
        some ((IntKind.i64.wrap (56 + (IntKind.i64.wrap v6)))))
      else
        ((strI txt_c95356 (IntKind.u8.wrap v4)).bind fun v7 =>
        some ((IntKind.i64.wrap (48 + (IntKind.i64.wrap v7))))))
    else
      (if (decide (v3 ≥ 256)) = true then
        ((shI .shr .u64 v3 8).bind fun v8 =>
        (strI txt_c95356 (IntKind.u8.wrap v8)).bind fun v9 =>
        some ((IntKind.i64.wrap (40 + (IntKind.i64.wrap v9)))))
      else
        ((strI txt_c95356 (IntKind.u8.wrap v3)).bind fun v10 =>
        some ((IntKind.i64.wrap (32 + (IntKind.i64.wrap v10)))))))
  else
    (if (decide (v1 ≥ 65536)) = true then
      ((shI .shr .u64 v1 16).bind fun v11 =>
      if (decide (v11 ≥ 256)) = true then
        ((shI .shr .u64 v11 8).bind fun v12 =>
        (strI txt_c95356 (IntKind.u8.wrap v12)).bind fun v13 =>
        some ((IntKind.i64.wrap (24 + (IntKind.i64.wrap v13)))))
      else
        ((strI txt_c95356 (IntKind.u8.wrap v11)).bind fun v14 =>
        some ((IntKind.i64.wrap (16 + (IntKind.i64.wrap v14))))))
    else
      (if (decide (v1 ≥ 256)) = true then
        ((shI .shr .u64 v1 8).bind fun v15 =>
        (strI txt_c95356 (IntKind.u8.wrap v15)).bind fun v16 =>
        some ((IntKind.i64.wrap (8 + (IntKind.i64.wrap v16)))))
      else
        ((strI txt_c95356 (IntKind.u8.wrap v1)).bind fun v17 =>
        some ((IntKind.i64.wrap (0 + (IntKind.i64.wrap v17)))))))

end Go.Rex

namespace Go.Rex
open Go Go.Rex
noncomputable def math_bits_LeadingZeros64 (v1 : Int) : Option (Int) :=
  (math_bits_Len64 v1).bind fun v3 =>
  some ((IntKind.i64.wrap (64 - v3)))

end Go.Rex

namespace Go.Rex
open Go Go.Rex
noncomputable def math_bits_Div64_l1 (v7 : Int) (v8 : Int) (v12 : Int) : (Int × Int) → Option ((Int × Int) ⊕ ((Int))) := fun (v13, v14) =>
  if (decide (v13 ≥ 4294967296)) = true then
    (if (decide ((IntKind.u64.wrap (v14 + v8)) ≥ 4294967296)) = true then
      (some (.inr (IntKind.u64.wrap (v13 - 1))))
    else
      (some (.inl ((IntKind.u64.wrap (v13 - 1)), (IntKind.u64.wrap (v14 + v8))))))
  else
    (if (decide ((IntKind.u64.wrap (v13 * (bitI .and .u64 v7 4294967295))) > (IntKind.u64.wrap ((IntKind.u64.wrap (4294967296 * v14)) + v12)))) = true then
      (if (decide ((IntKind.u64.wrap (v14 + v8)) ≥ 4294967296)) = true then
        (some (.inr (IntKind.u64.wrap (v13 - 1))))
      else
        (some (.inl ((IntKind.u64.wrap (v13 - 1)), (IntKind.u64.wrap (v14 + v8))))))
    else
      (some (.inr v13)))
noncomputable def math_bits_Div64_l2 (v7 : Int) (v8 : Int) (v11 : Int) : (Int × Int) → Option ((Int × Int) ⊕ ((Int))) := fun (v17, v18) =>
  if (decide (v18 ≥ 4294967296)) = true then
    (if (decide ((IntKind.u64.wrap (v17 + v8)) ≥ 4294967296)) = true then
      (some (.inr (IntKind.u64.wrap (v18 - 1))))
    else
      (some (.inl ((IntKind.u64.wrap (v17 + v8)), (IntKind.u64.wrap (v18 - 1))))))
  else
    (if (decide ((IntKind.u64.wrap (v18 * (bitI .and .u64 v7 4294967295))) > (IntKind.u64.wrap ((IntKind.u64.wrap (4294967296 * v17)) + (bitI .and .u64 v11 4294967295))))) = true then
      (if (decide ((IntKind.u64.wrap (v17 + v8)) ≥ 4294967296)) = true then
        (some (.inr (IntKind.u64.wrap (v18 - 1))))
      else
        (some (.inl ((IntKind.u64.wrap (v17 + v8)), (IntKind.u64.wrap (v18 - 1))))))
    else
      (some (.inr v18)))
noncomputable def math_bits_Div64 (v1 : Int) (v2 : Int) (v3 : Int) : Option (Int × Int) :=
  if (decide (v3 = 0)) = true then
    (none)
  else
    (if (decide (v3 ≤ v1)) = true then
      (none)
    else
      (if (decide (v1 = 0)) = true then
        (if v3 = 0 then none else
        (some ((IntKind.u64.wrap (v2.tdiv v3)), (v2.tmod v3))))
      else
        ((math_bits_LeadingZeros64 v3).bind fun v6 =>
        (shI .shl .u64 v3 (IntKind.u64.wrap v6)).bind fun v7 =>
        (shI .shr .u64 v7 32).bind fun v8 =>
        (shI .shl .u64 v1 (IntKind.u64.wrap v6)).bind fun v9 =>
        (shI .shr .u64 v2 (IntKind.u64.wrap (64 - (IntKind.u64.wrap v6)))).bind fun v10 =>
        (shI .shl .u64 v2 (IntKind.u64.wrap v6)).bind fun v11 =>
        (shI .shr .u64 v11 32).bind fun v12 =>
        if v8 = 0 then none else
        ((run (math_bits_Div64_l1 v7 v8 v12) ((IntKind.u64.wrap ((bitI .or .u64 v9 v10).tdiv v8)), (IntKind.u64.wrap ((bitI .or .u64 v9 v10) - (IntKind.u64.wrap ((IntKind.u64.wrap ((bitI .or .u64 v9 v10).tdiv v8)) * v8)))))).bind fun v16 =>
        (run (math_bits_Div64_l2 v7 v8 v11) ((IntKind.u64.wrap ((IntKind.u64.wrap ((IntKind.u64.wrap ((IntKind.u64.wrap ((bitI .or .u64 v9 v10) * 4294967296)) + v12)) - (IntKind.u64.wrap (v16 * v7)))) - (IntKind.u64.wrap ((IntKind.u64.wrap ((IntKind.u64.wrap ((IntKind.u64.wrap ((IntKind.u64.wrap ((bitI .or .u64 v9 v10) * 4294967296)) + v12)) - (IntKind.u64.wrap (v16 * v7)))).tdiv v8)) * v8)))), (IntKind.u64.wrap ((IntKind.u64.wrap ((IntKind.u64.wrap ((IntKind.u64.wrap ((bitI .or .u64 v9 v10) * 4294967296)) + v12)) - (IntKind.u64.wrap (v16 * v7)))).tdiv v8)))).bind fun v20 =>
        (shI .shr .u64 (IntKind.u64.wrap ((IntKind.u64.wrap ((IntKind.u64.wrap ((IntKind.u64.wrap ((IntKind.u64.wrap ((IntKind.u64.wrap ((bitI .or .u64 v9 v10) * 4294967296)) + v12)) - (IntKind.u64.wrap (v16 * v7)))) * 4294967296)) + (bitI .and .u64 v11 4294967295))) - (IntKind.u64.wrap (v20 * v7)))) (IntKind.u64.wrap v6)).bind fun v21 =>
        some ((IntKind.u64.wrap ((IntKind.u64.wrap (v16 * 4294967296)) + v20)), v21)))))

end Go.Rex

namespace Go.Rex
open Go Go.Rex
noncomputable def filter_wide_over (v1 : Int) (v2 : Int) (v3 : Int) : Option (Int × Int) :=
  (math_bits_Div64 v1 v2 (IntKind.u64.wrap v3)).bind fun (v6, v7) =>
  if (decide (v7 > 0)) = true then
    (some ((IntKind.i64.wrap v6), (IntKind.i64.wrap ((IntKind.i64.wrap v6) + 1))))
  else
    (some ((IntKind.i64.wrap v6), (IntKind.i64.wrap v6)))

end Go.Rex

namespace Go.Rex
open Go Go.Rex
noncomputable def filter_gain_inParts (v1 : Int) (v2 : Int) : Option (Int × Int × Int) :=
  (filter_product v1 1048576).bind fun (v6, v7) =>
  (filter_product 1073741824 v2).bind fun (v8, v9) =>
  (filter_wide_compare v6 v7 v8 v9).bind fun v10 =>
  if (decide (v10 > 0)) = true then
    (some (0, 0, 8))
  else
    ((filter_wide_over v6 v7 v2).bind fun (v11, v12) =>
    some (v11, v12, 0))

end Go.Rex

namespace Go.Rex
open Go Go.Rex
noncomputable def filter_floor (v1 : Int) (v2 : Int) : Option (Int) :=
  if v2 = 0 then none else
  (some ((IntKind.i64.wrap ((IntKind.i64.wrap (v1 - ((IntKind.i64.wrap ((v1.tmod v2) + v2)).tmod v2))).tdiv v2))))

end Go.Rex

namespace Go.Rex
open Go Go.Rex
noncomputable def filter_ceiling (v1 : Int) (v2 : Int) : Option (Int) :=
  (filter_floor (IntKind.i64.wrap (0 - v1)) v2).bind fun v4 =>
  some ((IntKind.i64.wrap (0 - v4)))

end Go.Rex

namespace Go.Rex
open Go Go.Rex
noncomputable def filter_gain_times (v1 : Int) (v2 : Int) (v3 : Int) (v4 : Int) : Option (Int × Int × Int) :=
  (filter_gain_inParts v1 v2).bind fun (v8, v9, v10) =>
  if (decide (v10 ≠ 0)) = true then
    (some (0, 0, v10))
  else
    ((filter_floor (IntKind.i64.wrap (v3 * v8)) 1048576).bind fun v11 =>
    (filter_ceiling (IntKind.i64.wrap (v4 * v9)) 1048576).bind fun v12 =>
    (filter_refuse (decide (v12 > 1073741824)) 8).bind fun v13 =>
    some (v11, v12, v13))

end Go.Rex

namespace Go.Rex
open Go Go.Rex
noncomputable def filter_GainRange_l1 (v1 : (List (Int × Int × Int × Int × Int))) (v2 : Int) (v3 : Int) (v4 : Int) : (Int × Int × Int) → Option ((Int × Int × Int) ⊕ ((Int) ⊕ (Int × Int))) := fun (v11, v12, v13) =>
  if (decide (v13 < (v1.length : Int))) = true then
    ((getI v1 v13).bind fun (v28, v29, v30, v31, v32) =>
    (filter_gainOf v28 v29 v30 v31 v32 v2 v3 v4).bind fun (v33, v34, v35) =>
    if (decide (v35 ≠ 0)) = true then
      (some (.inr (.inl v35)))
    else
      ((filter_gain_times v33 v34 v11 v12).bind fun (v36, v37, v38) =>
      if (decide (v38 ≠ 0)) = true then
        (some (.inr (.inl v38)))
      else
        (some (.inl (v36, v37, (IntKind.i64.wrap (v13 + 1)))))))
  else
    (some (.inr (.inr (v11, v12))))
noncomputable def filter_GainRange (v1 : (List (Int × Int × Int × Int × Int))) (v2 : Int) (v3 : Int) (v4 : Int) : Option (Int × Int × Int) :=
  (filter_cascadeError v1).bind fun v8 =>
  (filter_turnError v2 v3 v4).bind fun v9 =>
  (filter_firstError ([v8, v9] : List Int)).bind fun v10 =>
  if (decide (v10 ≠ 0)) = true then
    (some (0, 0, v10))
  else
    ((run (filter_GainRange_l1 v1 v2 v3 v4) (1048576, 1048576, 0)).bind fun v39 => match v39 with
    | (.inl v40) =>
      some (0, 0, v40)
    | (.inr (v41, v42)) =>
      some (v41, v42, 0))

end Go.Rex

namespace Go.Rex
open Go Go.Rex
noncomputable def base_Within (v1 : Int) (v2 : Int) (v3 : Int) : Option (Bool) :=
  if (decide (v2 ≤ v1)) = true then
    (some ((decide (v1 ≤ v3))))
  else
    (some (false))

end Go.Rex

namespace Go.Rex
open Go Go.Rex
noncomputable def ref06_CheckSection_l1 (v1 : Int) (v2 : Int) (v3 : Int) (v4 : Int) (v5 : Int) : (Int) → Option ((Int) ⊕ ((Unit) ⊕ (Unit))) := fun v7 =>
  if (decide (v7 < 5)) = true then
    ((getI ([v1, v2, v3, v4, v5] : List Int) v7).bind fun v10 =>
    (base_Within v10 (-32768) 32768).bind fun v11 =>
    if v11 = true then
      (some (.inl (IntKind.i64.wrap (v7 + 1))))
    else
      (some (.inr (.inl ()))))
  else
    (some (.inr (.inr ())))
noncomputable def ref06_CheckSection (v1 : Int) (v2 : Int) (v3 : Int) (v4 : Int) (v5 : Int) : Option (Int) :=
  (run (ref06_CheckSection_l1 v1 v2 v3 v4 v5) 0).bind fun v12 => match v12 with
  | (.inl _) =>
    some (2)
  | (.inr _) =>
    some (0)

end Go.Rex

namespace Go.Rex
open Go Go.Rex
noncomputable def ref06_CheckCascade_l1 (v1 : (List (Int × Int × Int × Int × Int))) : (Int) → Option ((Int) ⊕ ((Int × Int) ⊕ (Unit))) := fun v4 =>
  if (decide (v4 < (v1.length : Int))) = true then
    ((getI v1 v4).bind fun (v13, v14, v15, v16, v17) =>
    (ref06_CheckSection v13 v14 v15 v16 v17).bind fun v18 =>
    if (decide (v18 ≠ 0)) = true then
      (some (.inr (.inl (v4, v18))))
    else
      (some (.inl (IntKind.i64.wrap (v4 + 1)))))
  else
    (some (.inr (.inr ())))
noncomputable def ref06_CheckCascade (v1 : (List (Int × Int × Int × Int × Int))) : Option (Int × Int) :=
  if (decide ((v1.length : Int) > 6)) = true then
    (some (0, 8))
  else
    ((run (ref06_CheckCascade_l1 v1) 0).bind fun v19 => match v19 with
    | (.inl (v20, v21)) =>
      some (v20, v21)
    | (.inr _) =>
      some (0, 0))

end Go.Rex

namespace Go.Rex
open Go Go.Rex
noncomputable def ref06_TurnErr (v1 : Int) (v2 : Int) (v3 : Int) : Option (Int) :=
  (base_Within v3 1 100).bind fun v5 =>
  if v5 = true then
    ((base_Within v1 (IntKind.i64.wrap (0 - v3)) v3).bind fun v6 =>
    if v6 = true then
      ((base_Within v2 (IntKind.i64.wrap (0 - v3)) v3).bind fun v7 =>
      if v7 = true then
        (if (decide ((IntKind.i64.wrap ((IntKind.i64.wrap (v1 * v1)) + (IntKind.i64.wrap (v2 * v2)))) ≠ (IntKind.i64.wrap (v3 * v3)))) = true then
          (some (10))
        else
          (some (0)))
      else
        (some (10)))
    else
      (some (10)))
  else
    (some (2))

end Go.Rex

namespace Go.Rex
open Go Go.Rex
noncomputable def ref06_square (v1 : Int) (v2 : Int) (v3 : Int) (v4 : Int) (v5 : Int) (v6 : Int) : Option (Int) :=
  some ((IntKind.i64.wrap ((IntKind.i64.wrap ((IntKind.i64.wrap ((IntKind.i64.wrap ((IntKind.i64.wrap (v1 * (IntKind.i64.wrap ((IntKind.i64.wrap (v4 * v4)) - (IntKind.i64.wrap (v5 * v5)))))) + (IntKind.i64.wrap ((IntKind.i64.wrap (v2 * v4)) * v6)))) + (IntKind.i64.wrap ((IntKind.i64.wrap (v3 * v6)) * v6)))) * (IntKind.i64.wrap ((IntKind.i64.wrap ((IntKind.i64.wrap (v1 * (IntKind.i64.wrap ((IntKind.i64.wrap (v4 * v4)) - (IntKind.i64.wrap (v5 * v5)))))) + (IntKind.i64.wrap ((IntKind.i64.wrap (v2 * v4)) * v6)))) + (IntKind.i64.wrap ((IntKind.i64.wrap (v3 * v6)) * v6)))))) + (IntKind.i64.wrap ((IntKind.i64.wrap ((IntKind.i64.wrap ((IntKind.i64.wrap ((IntKind.i64.wrap (2 * v1)) * v4)) * v5)) + (IntKind.i64.wrap ((IntKind.i64.wrap (v2 * v5)) * v6)))) * (IntKind.i64.wrap ((IntKind.i64.wrap ((IntKind.i64.wrap ((IntKind.i64.wrap (2 * v1)) * v4)) * v5)) + (IntKind.i64.wrap ((IntKind.i64.wrap (v2 * v5)) * v6)))))))))

end Go.Rex

namespace Go.Rex
open Go Go.Rex
noncomputable def ref06_Gain (v1 : Int) (v2 : Int) (v3 : Int) (v4 : Int) (v5 : Int) (v6 : Int) (v7 : Int) (v8 : Int) : Option (Int × Int) :=
  (ref06_square v1 v2 v3 v6 v7 v8).bind fun v11 =>
  (ref06_square 16384 v4 v5 v6 v7 v8).bind fun v12 =>
  some (v11, v12)

end Go.Rex

namespace Go.Rex
open Go Go.Rex
noncomputable def base_Floor (v1 : Int) (v2 : Int) : Option (Int) :=
  if v2 = 0 then none else
  (if (decide ((v1.tmod v2) < 0)) = true then
    (some ((IntKind.i64.wrap ((IntKind.i64.wrap (v1.tdiv v2)) - 1))))
  else
    (some ((IntKind.i64.wrap (v1.tdiv v2)))))

end Go.Rex

namespace Go.Rex
open Go Go.Rex
noncomputable def base_Mod (v1 : Int) (v2 : Int) : Option (Int) :=
  if v2 = 0 then none else
  (if (decide ((v1.tmod v2) < 0)) = true then
    (some ((IntKind.i64.wrap ((v1.tmod v2) + v2))))
  else
    (some ((v1.tmod v2))))

end Go.Rex

namespace Go.Rex
open Go Go.Rex
noncomputable def ref06_Parts_l1 (v2 : Int) : (Int × Int × Int) → Option ((Int × Int × Int) ⊕ ((Int × Int))) := fun (v7, v8, v9) =>
  if (decide (v9 < 20)) = true then
    (if (decide ((IntKind.i64.wrap (2 * v8)) ≥ v2)) = true then
      (some (.inl ((IntKind.i64.wrap ((IntKind.i64.wrap (2 * v7)) + 1)), (IntKind.i64.wrap ((IntKind.i64.wrap (2 * v8)) - v2)), (IntKind.i64.wrap (v9 + 1)))))
    else
      (some (.inl ((IntKind.i64.wrap (2 * v7)), (IntKind.i64.wrap (2 * v8)), (IntKind.i64.wrap (v9 + 1))))))
  else
    (some (.inr (v7, v8)))
noncomputable def ref06_Parts (v1 : Int) (v2 : Int) : Option (Int × Int) :=
  (base_Floor v1 v2).bind fun v5 =>
  (base_Mod v1 v2).bind fun v6 =>
  if (decide (v5 > 1073741824)) = true then
    (some (v5, v5))
  else
    ((run (ref06_Parts_l1 v2) (v5, v6, 0)).bind fun (v12, v13) =>
    if (decide (v13 > 0)) = true then
      (some (v12, (IntKind.i64.wrap (v12 + 1))))
    else
      (some (v12, v12)))

end Go.Rex

namespace Go.Rex
open Go Go.Rex
noncomputable def base_Ceil (v1 : Int) (v2 : Int) : Option (Int) :=
  (base_Floor (IntKind.i64.wrap (0 - v1)) v2).bind fun v4 =>
  some ((IntKind.i64.wrap (0 - v4)))

end Go.Rex

namespace Go.Rex
open Go Go.Rex
noncomputable def ref06_GainRange_l1 (v1 : (List (Int × Int × Int × Int × Int))) (v2 : Int) (v3 : Int) (v4 : Int) : (Int × Int × Int) → Option ((Int × Int × Int) ⊕ ((Int) ⊕ (Int × Int))) := fun (v8, v9, v10) =>
  if (decide (v10 < (v1.length : Int))) = true then
    ((getI v1 v10).bind fun (v25, v26, v27, v28, v29) =>
    (ref06_Gain v25 v26 v27 v28 v29 v2 v3 v4).bind fun (v30, v31) =>
    if (decide (v31 = 0)) = true then
      (some (.inr (.inl 11)))
    else
      ((ref06_Parts v30 v31).bind fun (v32, v33) =>
      if (decide (v33 > 1073741824)) = true then
        (some (.inr (.inl 8)))
      else
        ((base_Floor (IntKind.i64.wrap (v8 * v32)) 1048576).bind fun v34 =>
        (base_Ceil (IntKind.i64.wrap (v9 * v33)) 1048576).bind fun v35 =>
        if (decide (v35 > 1073741824)) = true then
          (some (.inr (.inl 8)))
        else
          (some (.inl (v34, v35, (IntKind.i64.wrap (v10 + 1))))))))
  else
    (some (.inr (.inr (v8, v9))))
noncomputable def ref06_GainRange (v1 : (List (Int × Int × Int × Int × Int))) (v2 : Int) (v3 : Int) (v4 : Int) : Option (Int × Int × Int) :=
  (run (ref06_GainRange_l1 v1 v2 v3 v4) (1048576, 1048576, 0)).bind fun v36 => match v36 with
  | (.inl v37) =>
    some (0, 0, v37)
  | (.inr (v38, v39)) =>
    some (v38, v39, 0)

end Go.Rex

namespace Go.Rex
open Go Go.Rex
noncomputable def filter_size (v1 : Int) : Option (Int) :=
  some ((if (IntKind.i64.wrap (0 - v1)) > v1 then (IntKind.i64.wrap (0 - v1)) else v1))

end Go.Rex

namespace Go.Rex
open Go Go.Rex
noncomputable def filter_divisor_l1 : (Int × Int) → Option ((Int × Int) ⊕ ((Int))) := fun (v4, v5) =>
  if (decide (v5 ≠ 0)) = true then
    (if v5 = 0 then none else
    (some (.inl (v5, (v4.tmod v5)))))
  else
    (some (.inr v4))
noncomputable def filter_divisor (v1 : Int) (v2 : Int) : Option (Int) :=
  (run (filter_divisor_l1) (v1, v2)).bind fun v7 =>
  (filter_size v7).bind fun v8 =>
  some (v8)

end Go.Rex

namespace Go.Rex
open Go Go.Rex
noncomputable def filter_lowest (v1 : Int) (v2 : Int) : Option (Int × Int) :=
  if (decide (v2 < 0)) = true then
    ((filter_divisor (IntKind.i64.wrap (0 - v1)) (IntKind.i64.wrap (0 - v2))).bind fun v5 =>
    if v5 = 0 then none else
    (some ((IntKind.i64.wrap ((IntKind.i64.wrap (0 - v1)).tdiv v5)), (IntKind.i64.wrap ((IntKind.i64.wrap (0 - v2)).tdiv v5)))))
  else
    ((filter_divisor v1 v2).bind fun v6 =>
    if v6 = 0 then none else
    (some ((IntKind.i64.wrap (v1.tdiv v6)), (IntKind.i64.wrap (v2.tdiv v6)))))

end Go.Rex

namespace Go.Rex
open Go Go.Rex
noncomputable def filter_GainSquare (v1 : Int) (v2 : Int) (v3 : Int) (v4 : Int) (v5 : Int) (v6 : Int) (v7 : Int) (v8 : Int) : Option (Int × Int × Int) :=
  (filter_CheckSection v1 v2 v3 v4 v5).bind fun v12 =>
  (filter_turnError v6 v7 v8).bind fun v13 =>
  (filter_firstError ([v12, v13] : List Int)).bind fun v14 =>
  if (decide (v14 ≠ 0)) = true then
    (some (0, 0, v14))
  else
    ((filter_gainOf v1 v2 v3 v4 v5 v6 v7 v8).bind fun (v15, v16, v17) =>
    if (decide (v17 ≠ 0)) = true then
      (some (0, 0, v17))
    else
      ((filter_lowest v15 v16).bind fun (v18, v19) =>
      if (decide ((if v19 > v18 then v19 else v18) > 1000000000)) = true then
        (some (0, 0, 8))
      else
        (some (v18, v19, 0))))

end Go.Rex

namespace Go.Rex
open Go Go.Rex
noncomputable def base_Compare_l1 : (Int × Int × Int × Int) → Option ((Int × Int × Int × Int) ⊕ ((Int))) := fun (v6, v7, v8, v9) =>
  (base_Floor v6 v7).bind fun v13 =>
  (base_Floor v8 v9).bind fun v14 =>
  if (decide (v13 < v14)) = true then
    (some (.inr (-1)))
  else
    (if (decide (v13 > v14)) = true then
      (some (.inr 1))
    else
      (if (decide ((IntKind.i64.wrap (v6 - (IntKind.i64.wrap (v13 * v7)))) = 0)) = true then
        (if (decide ((IntKind.i64.wrap (v8 - (IntKind.i64.wrap (v14 * v9)))) = 0)) = true then
          (some (.inr 0))
        else
          (some (.inr (-1))))
      else
        (if (decide ((IntKind.i64.wrap (v8 - (IntKind.i64.wrap (v14 * v9)))) = 0)) = true then
          (some (.inr 1))
        else
          (some (.inl (v9, (IntKind.i64.wrap (v8 - (IntKind.i64.wrap (v14 * v9)))), v7, (IntKind.i64.wrap (v6 - (IntKind.i64.wrap (v13 * v7))))))))))
noncomputable def base_Compare (v1 : Int) (v2 : Int) (v3 : Int) (v4 : Int) : Option (Int) :=
  (run (base_Compare_l1) (v1, v2, v3, v4)).bind fun v15 =>
  some (v15)

end Go.Rex

namespace Go.Rex
open Go Go.Rex
noncomputable def law06_FilterRanges (v1 : (List (Int × Int × Int × Int × Int))) (v2 : Int) (v3 : Int) (v4 : Int) : Option Bool :=
  (law06_few v1).bind fun v6 =>
  if v6 = true then
    ((ref06_Copy v1).bind fun v7 =>
    (filter_GainRange v7 v2 v3 v4).bind fun (v8, v9, v10) =>
    (ref06_CheckCascade v1).bind fun (v11, v12) =>
    if (decide (v12 = 0)) = true then
      ((ref06_TurnErr v2 v3 v4).bind fun v13 =>
      if (decide (v13 = 0)) = true then
        ((ref06_GainRange v1 v2 v3 v4).bind fun (v14, v15, v16) =>
        if (decide (v10 ≠ v16)) = true then
          (some (false))
        else
          (if ([v8 == v14, v9 == v15].all id) = true then
            (if (decide (v16 ≠ 0)) = true then
              (some (true))
            else
              (if (decide ((v1.length : Int) ≠ 1)) = true then
                (some (true))
              else
                ((getI v1 0).bind fun (v17, v18, v19, v20, v21) =>
                (filter_GainSquare v17 v18 v19 v20 v21 v2 v3 v4).bind fun (v22, v23, v24) =>
                if (decide (v24 ≠ 0)) = true then
                  (some (true))
                else
                  ((base_Compare v8 1048576 v22 v23).bind fun v25 =>
                  if (decide (v25 ≤ 0)) = true then
                    ((base_Compare v9 1048576 v22 v23).bind fun v26 =>
                    some ((decide (v26 ≥ 0))))
                  else
                    (some (false))))))
          else
            (some (false))))
      else
        (if (decide (v10 ≠ v13)) = true then
          (some (false))
        else
          (if ([v8 == 0, v9 == 0].all id) = true then
            (if (decide (v13 ≠ 0)) = true then
              (some (true))
            else
              (if (decide ((v1.length : Int) ≠ 1)) = true then
                (some (true))
              else
                ((getI v1 0).bind fun (v27, v28, v29, v30, v31) =>
                (filter_GainSquare v27 v28 v29 v30 v31 v2 v3 v4).bind fun (v32, v33, v34) =>
                if (decide (v34 ≠ 0)) = true then
                  (some (true))
                else
                  ((base_Compare v8 1048576 v32 v33).bind fun v35 =>
                  if (decide (v35 ≤ 0)) = true then
                    ((base_Compare v9 1048576 v32 v33).bind fun v36 =>
                    some ((decide (v36 ≥ 0))))
                  else
                    (some (false))))))
          else
            (some (false)))))
    else
      (if (decide (v10 ≠ v12)) = true then
        (some (false))
      else
        (if ([v8 == 0, v9 == 0].all id) = true then
          (if (decide (v12 ≠ 0)) = true then
            (some (true))
          else
            (if (decide ((v1.length : Int) ≠ 1)) = true then
              (some (true))
            else
              ((getI v1 0).bind fun (v37, v38, v39, v40, v41) =>
              (filter_GainSquare v37 v38 v39 v40 v41 v2 v3 v4).bind fun (v42, v43, v44) =>
              if (decide (v44 ≠ 0)) = true then
                (some (true))
              else
                ((base_Compare v8 1048576 v42 v43).bind fun v45 =>
                if (decide (v45 ≤ 0)) = true then
                  ((base_Compare v9 1048576 v42 v43).bind fun v46 =>
                  some ((decide (v46 ≥ 0))))
                else
                  (some (false))))))
        else
          (some (false)))))
  else
    (some (true))

end Go.Rex
