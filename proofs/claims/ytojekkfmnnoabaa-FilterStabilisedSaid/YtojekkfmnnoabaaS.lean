/- The functions of the program and of the reference, as functions of lists and numbers. -/
import Derived.Test.YtojekkfmnnoabaaTexU
set_option linter.unusedSimpArgs false
set_option linter.unusedVariables false
set_option linter.defProp false
namespace Go.Rex
open Go Go.Rex
def e_i (x : Int) : List TV := [.v (.int .i64 x)]

end Go.Rex

namespace Go.Rex
open Go Go.Rex
noncomputable def filter_coefficientsOf (v1 : Int) (v2 : Int) (v3 : Int) (v4 : Int) (v5 : Int) : Option (Int × Int × Int × Int × Int) :=
  some (v1, v2, v3, v4, v5)

end Go.Rex

namespace Go.Rex
open Go Go.Rex
noncomputable def filter_isSmall (v1 : Int) (v2 : Int) : Option (Bool) :=
  if (decide ((IntKind.i64.wrap (0 - v2)) ≤ v1)) = true then
    (some ((decide (v1 ≤ v2))))
  else
    (some (false))

end Go.Rex

namespace Go.Rex
open Go Go.Rex
noncomputable def filter_allSmall_l1 (v1 : (List Int)) (v2 : Int) : (Int) → Option ((Int) ⊕ ((Unit) ⊕ (Unit))) := fun v4 =>
  if (decide (v4 < (v1.length : Int))) = true then
    ((getI v1 v4).bind fun v7 =>
    (filter_isSmall v7 v2).bind fun v8 =>
    if v8 = true then
      (some (.inl (IntKind.i64.wrap (v4 + 1))))
    else
      (some (.inr (.inl ()))))
  else
    (some (.inr (.inr ())))
noncomputable def filter_allSmall (v1 : (List Int)) (v2 : Int) : Option (Int) :=
  (run (filter_allSmall_l1 v1 v2) 0).bind fun v9 => match v9 with
  | (.inl _) =>
    some (2)
  | (.inr _) =>
    some (0)

end Go.Rex

namespace Go.Rex
open Go Go.Rex
noncomputable def filter_CheckSection (v1 : Int) (v2 : Int) (v3 : Int) (v4 : Int) (v5 : Int) : Option (Int) :=
  (filter_coefficientsOf v1 v2 v3 v4 v5).bind fun (v7, v8, v9, v10, v11) =>
  (filter_allSmall ([v7, v8, v9, v10, v11] : List Int) 32768).bind fun v12 =>
  some (v12)

end Go.Rex

namespace Go.Rex
open Go Go.Rex
noncomputable def filter_refuse (v1 : Bool) (v2 : Int) : Option (Int) :=
  if v1 = true then
    (some (v2))
  else
    (some (0))

end Go.Rex

namespace Go.Rex
open Go Go.Rex
noncomputable def filter_within (v1 : Int) (v2 : Int) (v3 : Int) : Option (Int) :=
  if (decide (v1 < v2)) = true then
    ((filter_refuse true 2).bind fun v5 =>
    some (v5))
  else
    ((filter_refuse (decide (v1 > v3)) 2).bind fun v6 =>
    some (v6))

end Go.Rex

namespace Go.Rex
open Go Go.Rex
noncomputable def filter_firstError_l1 (v1 : (List Int)) : (Int) → Option ((Int) ⊕ ((Int) ⊕ (Unit))) := fun v3 =>
  if (decide (v3 < (v1.length : Int))) = true then
    ((getI v1 v3).bind fun v6 =>
    if (decide (v6 ≠ 0)) = true then
      (some (.inr (.inl v6)))
    else
      (some (.inl (IntKind.i64.wrap (v3 + 1)))))
  else
    (some (.inr (.inr ())))
noncomputable def filter_firstError (v1 : (List Int)) : Option (Int) :=
  (run (filter_firstError_l1 v1) 0).bind fun v7 => match v7 with
  | (.inl v8) =>
    some (v8)
  | (.inr _) =>
    some (0)

end Go.Rex

namespace Go.Rex
open Go Go.Rex
noncomputable def filter_size (v1 : Int) : Option (Int) :=
  some ((if (IntKind.i64.wrap (0 - v1)) > v1 then (IntKind.i64.wrap (0 - v1)) else v1))

end Go.Rex

namespace Go.Rex
open Go Go.Rex
noncomputable def filter_isStable (v1 : Int) (v2 : Int) : Option (Bool) :=
  (filter_size v2).bind fun v4 =>
  if (decide (v4 < 16384)) = true then
    ((filter_size v1).bind fun v5 =>
    some ((decide (v5 < (IntKind.i64.wrap (16384 + v2))))))
  else
    (some (false))

end Go.Rex

namespace Go.Rex
open Go Go.Rex
noncomputable def filter_Stabilised_l2 (v4 : Int) (v5 : Int) (v6 : Int) (v20 : Int) : (Int × Int × Int × Int) → Option ((Int × Int × Int × Int) ⊕ ((Int × Int × Int))) := fun (v40, v41, v42, v43) =>
  if (decide (v43 ≤ v6)) = true then
    ((filter_size v20).bind fun v50 =>
    (filter_size v43).bind fun v51 =>
    if (decide ((IntKind.i64.wrap (v50 + v51)) < v42)) = true then
      ((filter_isStable (IntKind.i64.wrap (v4 + v20)) (IntKind.i64.wrap (v5 + v43))).bind fun v52 =>
      if v52 = true then
        (some (.inl ((IntKind.i64.wrap (v4 + v20)), (IntKind.i64.wrap (v5 + v43)), (IntKind.i64.wrap (v50 + v51)), (IntKind.i64.wrap (v43 + 1)))))
      else
        (some (.inl (v40, v41, v42, (IntKind.i64.wrap (v43 + 1))))))
    else
      (some (.inl (v40, v41, v42, (IntKind.i64.wrap (v43 + 1))))))
  else
    (some (.inr (v40, v41, v42)))
noncomputable def filter_Stabilised_l1 (v4 : Int) (v5 : Int) (v6 : Int) : (Int × Int × Int × Int) → Option ((Int × Int × Int × Int) ⊕ ((Int × Int × Int))) := fun (v17, v18, v19, v20) =>
  if (decide (v20 ≤ v6)) = true then
    ((run (filter_Stabilised_l2 v4 v5 v6 v20) (v17, v18, v19, (IntKind.i64.wrap (0 - v6)))).bind fun (v53, v54, v55) =>
    some (.inl (v53, v54, v55, (IntKind.i64.wrap (v20 + 1)))))
  else
    (some (.inr (v17, v18, v19)))
noncomputable def filter_Stabilised (v1 : Int) (v2 : Int) (v3 : Int) (v4 : Int) (v5 : Int) (v6 : Int) : Option (Int × Int × Int × Int × Int × Int × Int) :=
  (filter_CheckSection v1 v2 v3 v4 v5).bind fun v14 =>
  (filter_within v6 0 20).bind fun v15 =>
  (filter_firstError ([v14, v15] : List Int)).bind fun v16 =>
  if (decide (v16 ≠ 0)) = true then
    (some (0, 0, 0, 0, 0, 0, v16))
  else
    ((run (filter_Stabilised_l1 v4 v5 v6) (v4, v5, (IntKind.i64.wrap ((IntKind.i64.wrap (2 * v6)) + 1)), (IntKind.i64.wrap (0 - v6)))).bind fun (v56, v57, v58) =>
    if (decide (v58 = (IntKind.i64.wrap ((IntKind.i64.wrap (2 * v6)) + 1)))) = true then
      (some (0, 0, 0, 0, 0, 0, 12))
    else
      (some (v1, v2, v3, v56, v57, v58, 0)))

end Go.Rex

namespace Go.Rex
open Go Go.Rex
noncomputable def base_Within (v1 : Int) (v2 : Int) (v3 : Int) : Option (Bool) :=
  if (decide (v2 ≤ v1)) = true then
    (some ((decide (v1 ≤ v3))))
  else
    (some (false))

end Go.Rex

namespace Go.Rex
open Go Go.Rex
noncomputable def ref06_CheckSection_l1 (v1 : Int) (v2 : Int) (v3 : Int) (v4 : Int) (v5 : Int) : (Int) → Option ((Int) ⊕ ((Unit) ⊕ (Unit))) := fun v7 =>
  if (decide (v7 < 5)) = true then
    ((getI ([v1, v2, v3, v4, v5] : List Int) v7).bind fun v10 =>
    (base_Within v10 (-32768) 32768).bind fun v11 =>
    if v11 = true then
      (some (.inl (IntKind.i64.wrap (v7 + 1))))
    else
      (some (.inr (.inl ()))))
  else
    (some (.inr (.inr ())))
noncomputable def ref06_CheckSection (v1 : Int) (v2 : Int) (v3 : Int) (v4 : Int) (v5 : Int) : Option (Int) :=
  (run (ref06_CheckSection_l1 v1 v2 v3 v4 v5) 0).bind fun v12 => match v12 with
  | (.inl _) =>
    some (2)
  | (.inr _) =>
    some (0)

end Go.Rex

namespace Go.Rex
open Go Go.Rex
noncomputable def base_Size (v1 : Int) : Option (Int) :=
  some ((if (IntKind.i64.wrap (0 - v1)) > v1 then (IntKind.i64.wrap (0 - v1)) else v1))

end Go.Rex

namespace Go.Rex
open Go Go.Rex
noncomputable def ref06_IsStable (v1 : Int) (v2 : Int) (v3 : Int) (v4 : Int) (v5 : Int) : Option (Bool) :=
  (base_Size v5).bind fun v7 =>
  if (decide (v7 < 16384)) = true then
    ((base_Size v4).bind fun v8 =>
    some ((decide (v8 < (IntKind.i64.wrap (16384 + v5))))))
  else
    (some (false))

end Go.Rex

namespace Go.Rex
open Go Go.Rex
noncomputable def ref06_Stabilised_l2 (v1 : Int) (v2 : Int) (v3 : Int) (v4 : Int) (v5 : Int) (v6 : Int) (v21 : Int) : (Int × Int × Int × Int × Int × Int × Int) → Option ((Int × Int × Int × Int × Int × Int × Int) ⊕ ((Int × Int × Int × Int × Int × Int))) := fun (v55, v56, v57, v58, v59, v60, v61) =>
  if (decide (v61 ≤ v6)) = true then
    ((base_Size v21).bind fun v72 =>
    (base_Size v61).bind fun v73 =>
    (ref06_CheckSection v1 v2 v3 (IntKind.i64.wrap (v4 + v21)) (IntKind.i64.wrap (v5 + v61))).bind fun v74 =>
    if (decide (v74 = 0)) = true then
      ((ref06_IsStable v1 v2 v3 (IntKind.i64.wrap (v4 + v21)) (IntKind.i64.wrap (v5 + v61))).bind fun v75 =>
      if v75 = true then
        (if (decide (v60 < 0)) = true then
          (some (.inl (v1, v2, v3, (IntKind.i64.wrap (v4 + v21)), (IntKind.i64.wrap (v5 + v61)), (IntKind.i64.wrap (v72 + v73)), (IntKind.i64.wrap (v61 + 1)))))
        else
          (if (decide ((IntKind.i64.wrap (v72 + v73)) < v60)) = true then
            (some (.inl (v1, v2, v3, (IntKind.i64.wrap (v4 + v21)), (IntKind.i64.wrap (v5 + v61)), (IntKind.i64.wrap (v72 + v73)), (IntKind.i64.wrap (v61 + 1)))))
          else
            (some (.inl (v55, v56, v57, v58, v59, v60, (IntKind.i64.wrap (v61 + 1)))))))
      else
        (some (.inl (v55, v56, v57, v58, v59, v60, (IntKind.i64.wrap (v61 + 1))))))
    else
      (some (.inl (v55, v56, v57, v58, v59, v60, (IntKind.i64.wrap (v61 + 1))))))
  else
    (some (.inr (v55, v56, v57, v58, v59, v60)))
noncomputable def ref06_Stabilised_l1 (v1 : Int) (v2 : Int) (v3 : Int) (v4 : Int) (v5 : Int) (v6 : Int) : (Int × Int × Int × Int × Int × Int × Int) → Option ((Int × Int × Int × Int × Int × Int × Int) ⊕ ((Int × Int × Int × Int × Int × Int))) := fun (v15, v16, v17, v18, v19, v20, v21) =>
  if (decide (v21 ≤ v6)) = true then
    ((run (ref06_Stabilised_l2 v1 v2 v3 v4 v5 v6 v21) (v15, v16, v17, v18, v19, v20, (IntKind.i64.wrap (0 - v6)))).bind fun (v76, v77, v78, v79, v80, v81) =>
    some (.inl (v76, v77, v78, v79, v80, v81, (IntKind.i64.wrap (v21 + 1)))))
  else
    (some (.inr (v15, v16, v17, v18, v19, v20)))
noncomputable def ref06_Stabilised (v1 : Int) (v2 : Int) (v3 : Int) (v4 : Int) (v5 : Int) (v6 : Int) : Option (Int × Int × Int × Int × Int × Int × Int) :=
  (base_Within v6 0 20).bind fun v14 =>
  if v14 = true then
    ((run (ref06_Stabilised_l1 v1 v2 v3 v4 v5 v6) (0, 0, 0, 0, 0, (-1), (IntKind.i64.wrap (0 - v6)))).bind fun (v82, v83, v84, v85, v86, v87) =>
    if (decide (v87 < 0)) = true then
      (some (0, 0, 0, 0, 0, 0, 12))
    else
      (some (v82, v83, v84, v85, v86, v87, 0)))
  else
    (some (0, 0, 0, 0, 0, 0, 2))

end Go.Rex

namespace Go.Rex
open Go Go.Rex
noncomputable def filter_IsStable (v1 : Int) (v2 : Int) (v3 : Int) (v4 : Int) (v5 : Int) : Option (Bool × Int) :=
  (filter_CheckSection v1 v2 v3 v4 v5).bind fun v8 =>
  if (decide (v8 ≠ 0)) = true then
    (some (false, v8))
  else
    ((filter_isStable v4 v5).bind fun v9 =>
    some (v9, 0))

end Go.Rex

namespace Go.Rex
open Go Go.Rex
noncomputable def law06_FilterStabilised (v1 : Int) (v2 : Int) (v3 : Int) (v4 : Int) (v5 : Int) (v6 : Int) : Option Bool :=
  (filter_Stabilised v1 v2 v3 v4 v5 v6).bind fun (v8, v9, v10, v11, v12, v13, v14) =>
  (ref06_CheckSection v1 v2 v3 v4 v5).bind fun v15 =>
  if (decide (v15 = 0)) = true then
    ((ref06_Stabilised v1 v2 v3 v4 v5 v6).bind fun (v16, v17, v18, v19, v20, v21, v22) =>
    if (decide (v14 ≠ v22)) = true then
      (some (false))
    else
      (if ([[v8 == v16, v9 == v17, v10 == v18].all id, [v11 == v19, v12 == v20].all id].all id) = true then
        (if (decide (v13 ≠ v21)) = true then
          (some (false))
        else
          (if (decide (v22 ≠ 0)) = true then
            (some (true))
          else
            ((filter_IsStable v8 v9 v10 v11 v12).bind fun (v23, v24) =>
            if (decide (v24 = 0)) = true then
              (if v23 = true then
                ((ref06_IsStable v1 v2 v3 v4 v5).bind fun v25 =>
                some (((decide (v13 = 0)) == v25)))
              else
                (some (false)))
            else
              (some (false)))))
      else
        (some (false))))
  else
    (if (decide (v14 ≠ v15)) = true then
      (some (false))
    else
      (if ([[v8 == 0, v9 == 0, v10 == 0].all id, [v11 == 0, v12 == 0].all id].all id) = true then
        (if (decide (v13 ≠ 0)) = true then
          (some (false))
        else
          (if (decide (v15 ≠ 0)) = true then
            (some (true))
          else
            ((filter_IsStable v8 v9 v10 v11 v12).bind fun (v26, v27) =>
            if (decide (v27 = 0)) = true then
              (if v26 = true then
                ((ref06_IsStable v1 v2 v3 v4 v5).bind fun v28 =>
                some (((decide (v13 = 0)) == v28)))
              else
                (some (false)))
            else
              (some (false)))))
      else
        (some (false))))

end Go.Rex
