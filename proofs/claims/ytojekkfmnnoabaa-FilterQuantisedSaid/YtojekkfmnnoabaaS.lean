/- The functions of the program and of the reference, as functions of lists and numbers. -/
import Derived.Test.YtojekkfmnnoabaaTexU
set_option linter.unusedSimpArgs false
set_option linter.unusedVariables false
set_option linter.defProp false
namespace Go.Rex
open Go Go.Rex
def e_i (x : Int) : List TV := [.v (.int .i64 x)]
def e_ii (x : (Int × Int)) : List TV := [.v (.int .i64 x.1), .v (.int .i64 x.2)]

end Go.Rex

namespace Go.Rex
open Go Go.Rex
noncomputable def filter_refuse (v1 : Bool) (v2 : Int) : Option (Int) :=
  if v1 = true then
    (some (v2))
  else
    (some (0))

end Go.Rex

namespace Go.Rex
open Go Go.Rex
noncomputable def filter_size (v1 : Int) : Option (Int) :=
  some ((if (IntKind.i64.wrap (0 - v1)) > v1 then (IntKind.i64.wrap (0 - v1)) else v1))

end Go.Rex

namespace Go.Rex
open Go Go.Rex
noncomputable def filter_divisor_l1 : (Int × Int) → Option ((Int × Int) ⊕ ((Int))) := fun (v4, v5) =>
  if (decide (v5 ≠ 0)) = true then
    (if v5 = 0 then none else
    (some (.inl (v5, (v4.tmod v5)))))
  else
    (some (.inr v4))
noncomputable def filter_divisor (v1 : Int) (v2 : Int) : Option (Int) :=
  (run (filter_divisor_l1) (v1, v2)).bind fun v7 =>
  (filter_size v7).bind fun v8 =>
  some (v8)

end Go.Rex

namespace Go.Rex
open Go Go.Rex
noncomputable def filter_formError (v1 : Int) (v2 : Int) : Option (Int) :=
  if (decide (v2 ≤ 0)) = true then
    ((filter_refuse true 3).bind fun v4 =>
    some (v4))
  else
    ((filter_divisor v1 v2).bind fun v5 =>
    (filter_refuse (decide (v5 ≠ 1)) 3).bind fun v6 =>
    some (v6))

end Go.Rex

namespace Go.Rex
open Go Go.Rex
noncomputable def filter_isSmall (v1 : Int) (v2 : Int) : Option (Bool) :=
  if (decide ((IntKind.i64.wrap (0 - v2)) ≤ v1)) = true then
    (some ((decide (v1 ≤ v2))))
  else
    (some (false))

end Go.Rex

namespace Go.Rex
open Go Go.Rex
noncomputable def filter_allSmall_l1 (v1 : (List Int)) (v2 : Int) : (Int) → Option ((Int) ⊕ ((Unit) ⊕ (Unit))) := fun v4 =>
  if (decide (v4 < (v1.length : Int))) = true then
    ((getI v1 v4).bind fun v7 =>
    (filter_isSmall v7 v2).bind fun v8 =>
    if v8 = true then
      (some (.inl (IntKind.i64.wrap (v4 + 1))))
    else
      (some (.inr (.inl ()))))
  else
    (some (.inr (.inr ())))
noncomputable def filter_allSmall (v1 : (List Int)) (v2 : Int) : Option (Int) :=
  (run (filter_allSmall_l1 v1 v2) 0).bind fun v9 => match v9 with
  | (.inl _) =>
    some (2)
  | (.inr _) =>
    some (0)

end Go.Rex

namespace Go.Rex
open Go Go.Rex
noncomputable def filter_firstError_l1 (v1 : (List Int)) : (Int) → Option ((Int) ⊕ ((Int) ⊕ (Unit))) := fun v3 =>
  if (decide (v3 < (v1.length : Int))) = true then
    ((getI v1 v3).bind fun v6 =>
    if (decide (v6 ≠ 0)) = true then
      (some (.inr (.inl v6)))
    else
      (some (.inl (IntKind.i64.wrap (v3 + 1)))))
  else
    (some (.inr (.inr ())))
noncomputable def filter_firstError (v1 : (List Int)) : Option (Int) :=
  (run (filter_firstError_l1 v1) 0).bind fun v7 => match v7 with
  | (.inl v8) =>
    some (v8)
  | (.inr _) =>
    some (0)

end Go.Rex

namespace Go.Rex
open Go Go.Rex
noncomputable def filter_floor (v1 : Int) (v2 : Int) : Option (Int) :=
  if v2 = 0 then none else
  (some ((IntKind.i64.wrap ((IntKind.i64.wrap (v1 - ((IntKind.i64.wrap ((v1.tmod v2) + v2)).tmod v2))).tdiv v2))))

end Go.Rex

namespace Go.Rex
open Go Go.Rex
noncomputable def filter_nearest (v1 : Int) (v2 : Int) : Option (Int) :=
  (filter_floor (IntKind.i64.wrap ((IntKind.i64.wrap (2 * v1)) + v2)) (IntKind.i64.wrap (2 * v2))).bind fun v4 =>
  some (v4)

end Go.Rex

namespace Go.Rex
open Go Go.Rex
noncomputable def filter_quantised (v1 : Int) (v2 : Int) : Option (Int × Int) :=
  (filter_formError v1 v2).bind fun v5 =>
  (filter_allSmall ([v1, v2] : List Int) 1000000000).bind fun v6 =>
  (filter_firstError ([v5, v6] : List Int)).bind fun v7 =>
  if (decide (v7 ≠ 0)) = true then
    (some (0, v7))
  else
    ((filter_nearest (IntKind.i64.wrap (v1 * 16384)) v2).bind fun v8 =>
    (filter_isSmall v8 32768).bind fun v9 =>
    (filter_refuse (!v9) 8).bind fun v10 =>
    some (v8, v10))

end Go.Rex

namespace Go.Rex
open Go Go.Rex
noncomputable def filter_coefficients_section (v1 : Int) (v2 : Int) (v3 : Int) (v4 : Int) (v5 : Int) : Option (Int × Int × Int × Int × Int) :=
  some (v1, v2, v3, v4, v5)

end Go.Rex

namespace Go.Rex
open Go Go.Rex
noncomputable def filter_Quantised_l1 (v1 : Int) (v2 : Int) (v3 : Int) (v4 : Int) (v5 : Int) (v6 : Int) (v7 : Int) (v8 : Int) (v9 : Int) (v10 : Int) : (Int × Int × Int × Int × Int × Int) → Option ((Int × Int × Int × Int × Int × Int) ⊕ ((Int) ⊕ (Int × Int × Int × Int × Int))) := fun (v17, v18, v19, v20, v21, v22) =>
  if (decide (v22 < 5)) = true then
    ((getI ([(v1, v2), (v3, v4), (v5, v6), (v7, v8), (v9, v10)] : List (Int × Int)) v22).bind fun (v34, v35) =>
    (filter_quantised v34 v35).bind fun (v36, v37) =>
    if (decide (v37 ≠ 0)) = true then
      (some (.inr (.inl v37)))
    else
      ((getI ([v17, v18, v19, v20, v21] : List Int) v22).bind fun v38 =>
      some (.inl ((if v22 = 0 then v36 else v17), (if v22 = 1 then v36 else v18), (if v22 = 2 then v36 else v19), (if v22 = 3 then v36 else v20), (if v22 = 4 then v36 else v21), (IntKind.i64.wrap (v22 + 1))))))
  else
    (some (.inr (.inr (v17, v18, v19, v20, v21))))
noncomputable def filter_Quantised (v1 : Int) (v2 : Int) (v3 : Int) (v4 : Int) (v5 : Int) (v6 : Int) (v7 : Int) (v8 : Int) (v9 : Int) (v10 : Int) : Option (Int × Int × Int × Int × Int × Int) :=
  (run (filter_Quantised_l1 v1 v2 v3 v4 v5 v6 v7 v8 v9 v10) (0, 0, 0, 0, 0, 0)).bind fun v39 => match v39 with
  | (.inl v40) =>
    some (0, 0, 0, 0, 0, v40)
  | (.inr (v41, v42, v43, v44, v45)) =>
    (filter_coefficients_section v41 v42 v43 v44 v45).bind fun (v46, v47, v48, v49, v50) =>
    some (v46, v47, v48, v49, v50, 0)

end Go.Rex

namespace Go.Rex
open Go Go.Rex
noncomputable def base_Size (v1 : Int) : Option (Int) :=
  some ((if (IntKind.i64.wrap (0 - v1)) > v1 then (IntKind.i64.wrap (0 - v1)) else v1))

end Go.Rex

namespace Go.Rex
open Go Go.Rex
noncomputable def base_Gcd_l1 : (Int × Int) → Option ((Int × Int) ⊕ ((Int))) := fun (v4, v5) =>
  if (decide (v5 ≠ 0)) = true then
    (if v5 = 0 then none else
    (some (.inl (v5, (v4.tmod v5)))))
  else
    (some (.inr v4))
noncomputable def base_Gcd (v1 : Int) (v2 : Int) : Option (Int) :=
  (run (base_Gcd_l1) (v1, v2)).bind fun v7 =>
  (base_Size v7).bind fun v8 =>
  some (v8)

end Go.Rex

namespace Go.Rex
open Go Go.Rex
noncomputable def base_IsLowest (v1 : Int) (v2 : Int) : Option (Bool) :=
  if (decide (v2 > 0)) = true then
    ((base_Gcd v1 v2).bind fun v4 =>
    some ((decide (v4 = 1))))
  else
    (some (false))

end Go.Rex

namespace Go.Rex
open Go Go.Rex
noncomputable def base_Within (v1 : Int) (v2 : Int) (v3 : Int) : Option (Bool) :=
  if (decide (v2 ≤ v1)) = true then
    (some ((decide (v1 ≤ v3))))
  else
    (some (false))

end Go.Rex

namespace Go.Rex
open Go Go.Rex
noncomputable def base_IsSmall (v1 : Int) (v2 : Int) : Option (Bool) :=
  (base_Within v1 (-1000000000) 1000000000).bind fun v4 =>
  if v4 = true then
    ((base_Within v2 1 1000000000).bind fun v5 =>
    some (v5))
  else
    (some (false))

end Go.Rex

namespace Go.Rex
open Go Go.Rex
noncomputable def ref06_FracErr (v1 : Int) (v2 : Int) : Option (Int) :=
  (base_IsLowest v1 v2).bind fun v4 =>
  if v4 = true then
    ((base_IsSmall v1 v2).bind fun v5 =>
    if v5 = true then
      (some (0))
    else
      (some (2)))
  else
    (some (3))

end Go.Rex

namespace Go.Rex
open Go Go.Rex
noncomputable def base_Floor (v1 : Int) (v2 : Int) : Option (Int) :=
  if v2 = 0 then none else
  (if (decide ((v1.tmod v2) < 0)) = true then
    (some ((IntKind.i64.wrap ((IntKind.i64.wrap (v1.tdiv v2)) - 1))))
  else
    (some ((IntKind.i64.wrap (v1.tdiv v2)))))

end Go.Rex

namespace Go.Rex
open Go Go.Rex
noncomputable def ref06_Quantised_l1 (v1 : Int) (v2 : Int) (v3 : Int) (v4 : Int) (v5 : Int) (v6 : Int) (v7 : Int) (v8 : Int) (v9 : Int) (v10 : Int) : (Int × Int × Int × Int × Int × Int) → Option ((Int × Int × Int × Int × Int × Int) ⊕ ((Int) ⊕ (Int × Int × Int × Int × Int))) := fun (v17, v18, v19, v20, v21, v22) =>
  if (decide (v22 < 5)) = true then
    ((getI ([(v1, v2), (v3, v4), (v5, v6), (v7, v8), (v9, v10)] : List (Int × Int)) v22).bind fun (v36, v37) =>
    (ref06_FracErr v36 v37).bind fun v38 =>
    if (decide (v38 ≠ 0)) = true then
      (some (.inr (.inl v38)))
    else
      ((base_Floor (IntKind.i64.wrap ((IntKind.i64.wrap ((IntKind.i64.wrap (2 * v36)) * 16384)) + v37)) (IntKind.i64.wrap (2 * v37))).bind fun v39 =>
      (getI ([v17, v18, v19, v20, v21] : List Int) v22).bind fun v40 =>
      (getI ([(if v22 = 0 then v39 else v17), (if v22 = 1 then v39 else v18), (if v22 = 2 then v39 else v19), (if v22 = 3 then v39 else v20), (if v22 = 4 then v39 else v21)] : List Int) v22).bind fun v41 =>
      (base_Within v41 (-32768) 32768).bind fun v42 =>
      if v42 = true then
        (some (.inl ((if v22 = 0 then v39 else v17), (if v22 = 1 then v39 else v18), (if v22 = 2 then v39 else v19), (if v22 = 3 then v39 else v20), (if v22 = 4 then v39 else v21), (IntKind.i64.wrap (v22 + 1)))))
      else
        (some (.inr (.inl 8)))))
  else
    (some (.inr (.inr (v17, v18, v19, v20, v21))))
noncomputable def ref06_Quantised (v1 : Int) (v2 : Int) (v3 : Int) (v4 : Int) (v5 : Int) (v6 : Int) (v7 : Int) (v8 : Int) (v9 : Int) (v10 : Int) : Option (Int × Int × Int × Int × Int × Int) :=
  (run (ref06_Quantised_l1 v1 v2 v3 v4 v5 v6 v7 v8 v9 v10) (0, 0, 0, 0, 0, 0)).bind fun v43 => match v43 with
  | (.inl v44) =>
    some (0, 0, 0, 0, 0, v44)
  | (.inr (v45, v46, v47, v48, v49)) =>
    some (v45, v46, v47, v48, v49, 0)

end Go.Rex

namespace Go.Rex
open Go Go.Rex
noncomputable def law06_FilterQuantised_l1 (v1 : Int) (v2 : Int) (v3 : Int) (v4 : Int) (v5 : Int) (v6 : Int) (v7 : Int) (v8 : Int) (v9 : Int) (v10 : Int) (v12 : Int) (v13 : Int) (v14 : Int) (v15 : Int) (v16 : Int) (v23 : Int) : (Int) → Option ((Int) ⊕ ((Unit) ⊕ (Unit))) := fun v24 =>
  if (decide (v24 < 5)) = true then
    (if (decide (v23 = 0)) = true then
      ((getI ([(v1, v2), (v3, v4), (v5, v6), (v7, v8), (v9, v10)] : List (Int × Int)) v24).bind fun (v29, v30) =>
      (getI ([v12, v13, v14, v15, v16] : List Int) v24).bind fun v31 =>
      (base_Size (IntKind.i64.wrap ((IntKind.i64.wrap (v29 * 16384)) - (IntKind.i64.wrap (v31 * v30))))).bind fun v32 =>
      if (decide ((IntKind.i64.wrap (2 * v32)) > v30)) = true then
        (some (.inr (.inl ())))
      else
        (some (.inl (IntKind.i64.wrap (v24 + 1)))))
    else
      (some (.inr (.inr ()))))
  else
    (some (.inr (.inr ())))
noncomputable def law06_FilterQuantised (v1 : Int) (v2 : Int) (v3 : Int) (v4 : Int) (v5 : Int) (v6 : Int) (v7 : Int) (v8 : Int) (v9 : Int) (v10 : Int) : Option Bool :=
  (filter_Quantised v1 v2 v3 v4 v5 v6 v7 v8 v9 v10).bind fun (v12, v13, v14, v15, v16, v17) =>
  (ref06_Quantised v1 v2 v3 v4 v5 v6 v7 v8 v9 v10).bind fun (v18, v19, v20, v21, v22, v23) =>
  if (decide (v17 ≠ v23)) = true then
    (some (false))
  else
    (if ([[v12 == v18, v13 == v19, v14 == v20].all id, [v15 == v21, v16 == v22].all id].all id) = true then
      ((run (law06_FilterQuantised_l1 v1 v2 v3 v4 v5 v6 v7 v8 v9 v10 v12 v13 v14 v15 v16 v23) 0).bind fun v33 => match v33 with
      | (.inl _) =>
        some (false)
      | (.inr _) =>
        some (true))
    else
      (some (false)))

end Go.Rex
