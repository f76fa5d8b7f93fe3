/- The functions of the program and of the reference, as functions of lists and numbers. -/
import Derived.Test.YtojekkfmnnoabaaTexU
set_option linter.unusedSimpArgs false
set_option linter.unusedVariables false
set_option linter.defProp false
namespace Go.Rex
open Go Go.Rex
def e_iiiii (x : (Int × Int × Int × Int × Int)) : List TV := [.v (.int .i64 x.1), .v (.int .i64 x.2.1), .v (.int .i64 x.2.2.1), .v (.int .i64 x.2.2.2.1), .v (.int .i64 x.2.2.2.2)]
def e_i (x : Int) : List TV := [.v (.int .i64 x)]

end Go.Rex

namespace Go.Rex
open Go Go.Rex
noncomputable def law06_few (v1 : (List (Int × Int × Int × Int × Int))) : Option (Bool) :=
  some ((decide ((v1.length : Int) ≤ 8)))

end Go.Rex

namespace Go.Rex
open Go Go.Rex
noncomputable def ref06_Copy (v1 : (List (Int × Int × Int × Int × Int))) : Option ((List (Int × Int × Int × Int × Int))) :=
  (appI 40 ([] : List (Int × Int × Int × Int × Int)) v1).bind fun v3 =>
  some (v3)

end Go.Rex

namespace Go.Rex
open Go Go.Rex
noncomputable def filter_coefficientsOf (v1 : Int) (v2 : Int) (v3 : Int) (v4 : Int) (v5 : Int) : Option (Int × Int × Int × Int × Int) :=
  some (v1, v2, v3, v4, v5)

end Go.Rex

namespace Go.Rex
open Go Go.Rex
noncomputable def filter_isSmall (v1 : Int) (v2 : Int) : Option (Bool) :=
  if (decide ((IntKind.i64.wrap (0 - v2)) ≤ v1)) = true then
    (some ((decide (v1 ≤ v2))))
  else
    (some (false))

end Go.Rex

namespace Go.Rex
open Go Go.Rex
noncomputable def filter_allSmall_l1 (v1 : (List Int)) (v2 : Int) : (Int) → Option ((Int) ⊕ ((Unit) ⊕ (Unit))) := fun v4 =>
  if (decide (v4 < (v1.length : Int))) = true then
    ((getI v1 v4).bind fun v7 =>
    (filter_isSmall v7 v2).bind fun v8 =>
    if v8 = true then
      (some (.inl (IntKind.i64.wrap (v4 + 1))))
    else
      (some (.inr (.inl ()))))
  else
    (some (.inr (.inr ())))
noncomputable def filter_allSmall (v1 : (List Int)) (v2 : Int) : Option (Int) :=
  (run (filter_allSmall_l1 v1 v2) 0).bind fun v9 => match v9 with
  | (.inl _) =>
    some (2)
  | (.inr _) =>
    some (0)

end Go.Rex

namespace Go.Rex
open Go Go.Rex
noncomputable def filter_CheckSection (v1 : Int) (v2 : Int) (v3 : Int) (v4 : Int) (v5 : Int) : Option (Int) :=
  (filter_coefficientsOf v1 v2 v3 v4 v5).bind fun (v7, v8, v9, v10, v11) =>
  (filter_allSmall ([v7, v8, v9, v10, v11] : List Int) 32768).bind fun v12 =>
  some (v12)

end Go.Rex

namespace Go.Rex
open Go Go.Rex
noncomputable def filter_CheckCascade_l1 (v1 : (List (Int × Int × Int × Int × Int))) : (Int) → Option ((Int) ⊕ ((Int × Int) ⊕ (Unit))) := fun v4 =>
  if (decide (v4 < (v1.length : Int))) = true then
    ((getI v1 v4).bind fun (v13, v14, v15, v16, v17) =>
    (filter_CheckSection v13 v14 v15 v16 v17).bind fun v18 =>
    if (decide (v18 ≠ 0)) = true then
      (some (.inr (.inl (v4, v18))))
    else
      (some (.inl (IntKind.i64.wrap (v4 + 1)))))
  else
    (some (.inr (.inr ())))
noncomputable def filter_CheckCascade (v1 : (List (Int × Int × Int × Int × Int))) : Option (Int × Int) :=
  if (decide ((v1.length : Int) > 6)) = true then
    (some (0, 8))
  else
    ((run (filter_CheckCascade_l1 v1) 0).bind fun v19 => match v19 with
    | (.inl (v20, v21)) =>
      some (v20, v21)
    | (.inr _) =>
      some (0, 0))

end Go.Rex

namespace Go.Rex
open Go Go.Rex
noncomputable def filter_cascadeError (v1 : (List (Int × Int × Int × Int × Int))) : Option (Int) :=
  (filter_CheckCascade v1).bind fun (v3, v4) =>
  some (v4)

end Go.Rex

namespace Go.Rex
open Go Go.Rex
noncomputable def filter_size (v1 : Int) : Option (Int) :=
  some ((if (IntKind.i64.wrap (0 - v1)) > v1 then (IntKind.i64.wrap (0 - v1)) else v1))

end Go.Rex

namespace Go.Rex
open Go Go.Rex
noncomputable def filter_isStable (v1 : Int) (v2 : Int) : Option (Bool) :=
  (filter_size v2).bind fun v4 =>
  if (decide (v4 < 16384)) = true then
    ((filter_size v1).bind fun v5 =>
    some ((decide (v5 < (IntKind.i64.wrap (16384 + v2))))))
  else
    (some (false))

end Go.Rex

namespace Go.Rex
open Go Go.Rex
noncomputable def filter_FirstUnstable_l1 (v1 : (List (Int × Int × Int × Int × Int))) : (Int) → Option ((Int) ⊕ ((Int) ⊕ (Unit))) := fun v5 =>
  if (decide (v5 < (v1.length : Int))) = true then
    ((getI v1 v5).bind fun (v13, v14, v15, v16, v17) =>
    (filter_isStable v16 v17).bind fun v18 =>
    if v18 = true then
      (some (.inl (IntKind.i64.wrap (v5 + 1))))
    else
      (some (.inr (.inl v5))))
  else
    (some (.inr (.inr ())))
noncomputable def filter_FirstUnstable (v1 : (List (Int × Int × Int × Int × Int))) : Option (Int × Int) :=
  (filter_cascadeError v1).bind fun v4 =>
  if (decide (v4 ≠ 0)) = true then
    (some (0, v4))
  else
    ((run (filter_FirstUnstable_l1 v1) 0).bind fun v19 => match v19 with
    | (.inl v20) =>
      some (v20, 0)
    | (.inr _) =>
      some (0, 12))

end Go.Rex

namespace Go.Rex
open Go Go.Rex
noncomputable def base_Within (v1 : Int) (v2 : Int) (v3 : Int) : Option (Bool) :=
  if (decide (v2 ≤ v1)) = true then
    (some ((decide (v1 ≤ v3))))
  else
    (some (false))

end Go.Rex

namespace Go.Rex
open Go Go.Rex
noncomputable def ref06_CheckSection_l1 (v1 : Int) (v2 : Int) (v3 : Int) (v4 : Int) (v5 : Int) : (Int) → Option ((Int) ⊕ ((Unit) ⊕ (Unit))) := fun v7 =>
  if (decide (v7 < 5)) = true then
    ((getI ([v1, v2, v3, v4, v5] : List Int) v7).bind fun v10 =>
    (base_Within v10 (-32768) 32768).bind fun v11 =>
    if v11 = true then
      (some (.inl (IntKind.i64.wrap (v7 + 1))))
    else
      (some (.inr (.inl ()))))
  else
    (some (.inr (.inr ())))
noncomputable def ref06_CheckSection (v1 : Int) (v2 : Int) (v3 : Int) (v4 : Int) (v5 : Int) : Option (Int) :=
  (run (ref06_CheckSection_l1 v1 v2 v3 v4 v5) 0).bind fun v12 => match v12 with
  | (.inl _) =>
    some (2)
  | (.inr _) =>
    some (0)

end Go.Rex

namespace Go.Rex
open Go Go.Rex
noncomputable def ref06_CheckCascade_l1 (v1 : (List (Int × Int × Int × Int × Int))) : (Int) → Option ((Int) ⊕ ((Int × Int) ⊕ (Unit))) := fun v4 =>
  if (decide (v4 < (v1.length : Int))) = true then
    ((getI v1 v4).bind fun (v13, v14, v15, v16, v17) =>
    (ref06_CheckSection v13 v14 v15 v16 v17).bind fun v18 =>
    if (decide (v18 ≠ 0)) = true then
      (some (.inr (.inl (v4, v18))))
    else
      (some (.inl (IntKind.i64.wrap (v4 + 1)))))
  else
    (some (.inr (.inr ())))
noncomputable def ref06_CheckCascade (v1 : (List (Int × Int × Int × Int × Int))) : Option (Int × Int) :=
  if (decide ((v1.length : Int) > 6)) = true then
    (some (0, 8))
  else
    ((run (ref06_CheckCascade_l1 v1) 0).bind fun v19 => match v19 with
    | (.inl (v20, v21)) =>
      some (v20, v21)
    | (.inr _) =>
      some (0, 0))

end Go.Rex

namespace Go.Rex
open Go Go.Rex
noncomputable def base_Size (v1 : Int) : Option (Int) :=
  some ((if (IntKind.i64.wrap (0 - v1)) > v1 then (IntKind.i64.wrap (0 - v1)) else v1))

end Go.Rex

namespace Go.Rex
open Go Go.Rex
noncomputable def ref06_IsStable (v1 : Int) (v2 : Int) (v3 : Int) (v4 : Int) (v5 : Int) : Option (Bool) :=
  (base_Size v5).bind fun v7 =>
  if (decide (v7 < 16384)) = true then
    ((base_Size v4).bind fun v8 =>
    some ((decide (v8 < (IntKind.i64.wrap (16384 + v5))))))
  else
    (some (false))

end Go.Rex

namespace Go.Rex
open Go Go.Rex
noncomputable def ref06_FirstUnstable_l1 (v1 : (List (Int × Int × Int × Int × Int))) : (Int) → Option ((Int) ⊕ ((Int) ⊕ (Unit))) := fun v4 =>
  if (decide (v4 < (v1.length : Int))) = true then
    ((getI v1 v4).bind fun (v12, v13, v14, v15, v16) =>
    (ref06_IsStable v12 v13 v14 v15 v16).bind fun v17 =>
    if v17 = true then
      (some (.inl (IntKind.i64.wrap (v4 + 1))))
    else
      (some (.inr (.inl v4))))
  else
    (some (.inr (.inr ())))
noncomputable def ref06_FirstUnstable (v1 : (List (Int × Int × Int × Int × Int))) : Option (Int × Int) :=
  (run (ref06_FirstUnstable_l1 v1) 0).bind fun v18 => match v18 with
  | (.inl v19) =>
    some (v19, 0)
  | (.inr _) =>
    some (0, 12)

end Go.Rex

namespace Go.Rex
open Go Go.Rex
noncomputable def filter_IsStable (v1 : Int) (v2 : Int) (v3 : Int) (v4 : Int) (v5 : Int) : Option (Bool × Int) :=
  (filter_CheckSection v1 v2 v3 v4 v5).bind fun v8 =>
  if (decide (v8 ≠ 0)) = true then
    (some (false, v8))
  else
    ((filter_isStable v4 v5).bind fun v9 =>
    some (v9, 0))

end Go.Rex

namespace Go.Rex
open Go Go.Rex
noncomputable def filter_refuse (v1 : Bool) (v2 : Int) : Option (Int) :=
  if v1 = true then
    (some (v2))
  else
    (some (0))

end Go.Rex

namespace Go.Rex
open Go Go.Rex
noncomputable def filter_firstError_l1 (v1 : (List Int)) : (Int) → Option ((Int) ⊕ ((Int) ⊕ (Unit))) := fun v3 =>
  if (decide (v3 < (v1.length : Int))) = true then
    ((getI v1 v3).bind fun v6 =>
    if (decide (v6 ≠ 0)) = true then
      (some (.inr (.inl v6)))
    else
      (some (.inl (IntKind.i64.wrap (v3 + 1)))))
  else
    (some (.inr (.inr ())))
noncomputable def filter_firstError (v1 : (List Int)) : Option (Int) :=
  (run (filter_firstError_l1 v1) 0).bind fun v7 => match v7 with
  | (.inl v8) =>
    some (v8)
  | (.inr _) =>
    some (0)

end Go.Rex

namespace Go.Rex
open Go Go.Rex
noncomputable def filter_divisor_l1 : (Int × Int) → Option ((Int × Int) ⊕ ((Int))) := fun (v4, v5) =>
  if (decide (v5 ≠ 0)) = true then
    (if v5 = 0 then none else
    (some (.inl (v5, (v4.tmod v5)))))
  else
    (some (.inr v4))
noncomputable def filter_divisor (v1 : Int) (v2 : Int) : Option (Int) :=
  (run (filter_divisor_l1) (v1, v2)).bind fun v7 =>
  (filter_size v7).bind fun v8 =>
  some (v8)

end Go.Rex

namespace Go.Rex
open Go Go.Rex
noncomputable def filter_lowest (v1 : Int) (v2 : Int) : Option (Int × Int) :=
  if (decide (v2 < 0)) = true then
    ((filter_divisor (IntKind.i64.wrap (0 - v1)) (IntKind.i64.wrap (0 - v2))).bind fun v5 =>
    if v5 = 0 then none else
    (some ((IntKind.i64.wrap ((IntKind.i64.wrap (0 - v1)).tdiv v5)), (IntKind.i64.wrap ((IntKind.i64.wrap (0 - v2)).tdiv v5)))))
  else
    ((filter_divisor v1 v2).bind fun v6 =>
    if v6 = 0 then none else
    (some ((IntKind.i64.wrap (v1.tdiv v6)), (IntKind.i64.wrap (v2.tdiv v6)))))

end Go.Rex

namespace Go.Rex
open Go Go.Rex
noncomputable def filter_Reflections (v1 : Int) (v2 : Int) (v3 : Int) (v4 : Int) (v5 : Int) : Option (Int × Int × Int × Int × Int) :=
  (filter_CheckSection v1 v2 v3 v4 v5).bind fun v11 =>
  (filter_refuse (decide ((IntKind.i64.wrap (16384 + v5)) = 0)) 11).bind fun v12 =>
  (filter_firstError ([v11, v12] : List Int)).bind fun v13 =>
  if (decide (v13 ≠ 0)) = true then
    (some (0, 0, 0, 0, v13))
  else
    ((filter_lowest v5 16384).bind fun (v14, v15) =>
    (filter_lowest v4 (IntKind.i64.wrap (16384 + v5))).bind fun (v16, v17) =>
    some (v14, v15, v16, v17, 0))

end Go.Rex

namespace Go.Rex
open Go Go.Rex
noncomputable def base_Gcd_l1 : (Int × Int) → Option ((Int × Int) ⊕ ((Int))) := fun (v4, v5) =>
  if (decide (v5 ≠ 0)) = true then
    (if v5 = 0 then none else
    (some (.inl (v5, (v4.tmod v5)))))
  else
    (some (.inr v4))
noncomputable def base_Gcd (v1 : Int) (v2 : Int) : Option (Int) :=
  (run (base_Gcd_l1) (v1, v2)).bind fun v7 =>
  (base_Size v7).bind fun v8 =>
  some (v8)

end Go.Rex

namespace Go.Rex
open Go Go.Rex
noncomputable def base_Lowest (v1 : Int) (v2 : Int) : Option (Int × Int) :=
  (base_Gcd v1 v2).bind fun v5 =>
  if (decide (v2 < 0)) = true then
    (if (IntKind.i64.wrap (0 - v5)) = 0 then none else
    (some ((IntKind.i64.wrap (v1.tdiv (IntKind.i64.wrap (0 - v5)))), (IntKind.i64.wrap (v2.tdiv (IntKind.i64.wrap (0 - v5)))))))
  else
    (if v5 = 0 then none else
    (some ((IntKind.i64.wrap (v1.tdiv v5)), (IntKind.i64.wrap (v2.tdiv v5)))))

end Go.Rex

namespace Go.Rex
open Go Go.Rex
noncomputable def ref06_fraction (v1 : Int) (v2 : Int) : Option (Int × Int) :=
  if (decide (v2 < 0)) = true then
    ((base_Lowest (IntKind.i64.wrap (0 - v1)) (IntKind.i64.wrap (0 - v2))).bind fun (v5, v6) =>
    some (v5, v6))
  else
    ((base_Lowest v1 v2).bind fun (v7, v8) =>
    some (v7, v8))

end Go.Rex

namespace Go.Rex
open Go Go.Rex
noncomputable def ref06_Reflections (v1 : Int) (v2 : Int) (v3 : Int) (v4 : Int) (v5 : Int) : Option (Int × Int × Int × Int × Int) :=
  if (decide ((IntKind.i64.wrap (16384 + v5)) = 0)) = true then
    (some (0, 0, 0, 0, 11))
  else
    ((ref06_fraction v5 16384).bind fun (v11, v12) =>
    (ref06_fraction v4 (IntKind.i64.wrap (16384 + v5))).bind fun (v13, v14) =>
    some (v11, v12, v13, v14, 0))

end Go.Rex

namespace Go.Rex
open Go Go.Rex
noncomputable def law06_FilterChecks (v1 : (List (Int × Int × Int × Int × Int))) (v2 : Int) (v3 : Int) (v4 : Int) (v5 : Int) (v6 : Int) : Option Bool :=
  (law06_few v1).bind fun v8 =>
  if v8 = true then
    ((ref06_Copy v1).bind fun v9 =>
    (filter_CheckCascade v9).bind fun (v10, v11) =>
    (ref06_Copy v1).bind fun v12 =>
    (filter_FirstUnstable v12).bind fun (v13, v14) =>
    (ref06_CheckCascade v1).bind fun (v15, v16) =>
    if (decide (v11 ≠ v16)) = true then
      (some (false))
    else
      (if (decide (v10 ≠ v15)) = true then
        (some (false))
      else
        (if (decide (v16 = 0)) = true then
          ((ref06_FirstUnstable v1).bind fun (v17, v18) =>
          if (decide (v14 ≠ v18)) = true then
            (some (false))
          else
            (if (decide (v13 ≠ v17)) = true then
              (some (false))
            else
              ((filter_IsStable v2 v3 v4 v5 v6).bind fun (v19, v20) =>
              (filter_Reflections v2 v3 v4 v5 v6).bind fun (v21, v22, v23, v24, v25) =>
              (ref06_CheckSection v2 v3 v4 v5 v6).bind fun v26 =>
              (filter_CheckSection v2 v3 v4 v5 v6).bind fun v27 =>
              if (decide (v27 ≠ v26)) = true then
                (some (false))
              else
                (if (decide (v26 ≠ 0)) = true then
                  (if (decide (v20 = v26)) = true then
                    (if (decide (v25 = v26)) = true then
                      (if v19 = true then
                        (some (false))
                      else
                        (some (([[v21 == 0, v22 == 0].all id, [v23 == 0, v24 == 0].all id].all id))))
                    else
                      (some (false)))
                  else
                    (some (false)))
                else
                  ((ref06_Reflections v2 v3 v4 v5 v6).bind fun (v28, v29, v30, v31, v32) =>
                  if (decide (v20 ≠ 0)) = true then
                    (some (false))
                  else
                    ((ref06_IsStable v2 v3 v4 v5 v6).bind fun v33 =>
                    if (v19 == v33) = true then
                      (if (decide (v25 ≠ v32)) = true then
                        (some (false))
                      else
                        (if ([[v21 == v28, v22 == v29].all id, [v23 == v30, v24 == v31].all id].all id) = true then
                          (if (decide (v32 ≠ 0)) = true then
                            (some (true))
                          else
                            ((base_Size v21).bind fun v34 =>
                            if (decide (v34 < v22)) = true then
                              ((base_Size v23).bind fun v35 =>
                              some ((v19 == (decide (v35 < v24)))))
                            else
                              (some ((v19 == false)))))
                        else
                          (some (false))))
                    else
                      (some (false))))))))
        else
          (if (decide (v14 ≠ v16)) = true then
            (some (false))
          else
            (if (decide (v13 ≠ 0)) = true then
              (some (false))
            else
              ((filter_IsStable v2 v3 v4 v5 v6).bind fun (v36, v37) =>
              (filter_Reflections v2 v3 v4 v5 v6).bind fun (v38, v39, v40, v41, v42) =>
              (ref06_CheckSection v2 v3 v4 v5 v6).bind fun v43 =>
              (filter_CheckSection v2 v3 v4 v5 v6).bind fun v44 =>
              if (decide (v44 ≠ v43)) = true then
                (some (false))
              else
                (if (decide (v43 ≠ 0)) = true then
                  (if (decide (v37 = v43)) = true then
                    (if (decide (v42 = v43)) = true then
                      (if v36 = true then
                        (some (false))
                      else
                        (some (([[v38 == 0, v39 == 0].all id, [v40 == 0, v41 == 0].all id].all id))))
                    else
                      (some (false)))
                  else
                    (some (false)))
                else
                  ((ref06_Reflections v2 v3 v4 v5 v6).bind fun (v45, v46, v47, v48, v49) =>
                  if (decide (v37 ≠ 0)) = true then
                    (some (false))
                  else
                    ((ref06_IsStable v2 v3 v4 v5 v6).bind fun v50 =>
                    if (v36 == v50) = true then
                      (if (decide (v42 ≠ v49)) = true then
                        (some (false))
                      else
                        (if ([[v38 == v45, v39 == v46].all id, [v40 == v47, v41 == v48].all id].all id) = true then
                          (if (decide (v49 ≠ 0)) = true then
                            (some (true))
                          else
                            ((base_Size v38).bind fun v51 =>
                            if (decide (v51 < v39)) = true then
                              ((base_Size v40).bind fun v52 =>
                              some ((v36 == (decide (v52 < v41)))))
                            else
                              (some ((v36 == false)))))
                        else
                          (some (false))))
                    else
                      (some (false)))))))))))
  else
    (some (true))

end Go.Rex
