/- The functions of the program and of the reference, as functions of lists and numbers. -/
import Derived.Test.YtaaghggojhbpiaaTexU
set_option linter.unusedSimpArgs false
set_option linter.unusedVariables false
set_option linter.defProp false
namespace Go.Rex
open Go Go.Rex
def e_iiiii (x : (Int × Int × Int × Int × Int)) : List TV := [.v (.int .i64 x.1), .v (.int .i64 x.2.1), .v (.int .i64 x.2.2.1), .v (.int .i64 x.2.2.2.1), .v (.int .i64 x.2.2.2.2)]
def e_i (x : Int) : List TV := [.v (.int .i64 x)]

end Go.Rex

namespace Go.Rex
open Go Go.Rex
noncomputable def base_Within (v1 : Int) (v2 : Int) (v3 : Int) : Option (Bool) :=
  if (decide (v2 ≤ v1)) = true then
    (some ((decide (v1 ≤ v3))))
  else
    (some (false))

end Go.Rex

namespace Go.Rex
open Go Go.Rex
noncomputable def filter_coefficientsOf (v1 : Int) (v2 : Int) (v3 : Int) (v4 : Int) (v5 : Int) : Option (Int × Int × Int × Int × Int) :=
  some (v1, v2, v3, v4, v5)

end Go.Rex

namespace Go.Rex
open Go Go.Rex
noncomputable def filter_isSmall (v1 : Int) (v2 : Int) : Option (Bool) :=
  if (decide ((IntKind.i64.wrap (0 - v2)) ≤ v1)) = true then
    (some ((decide (v1 ≤ v2))))
  else
    (some (false))

end Go.Rex

namespace Go.Rex
open Go Go.Rex
noncomputable def filter_allSmall_l1 (v1 : (List Int)) (v2 : Int) : (Int) → Option ((Int) ⊕ ((Unit) ⊕ (Unit))) := fun v4 =>
  if (decide (v4 < (v1.length : Int))) = true then
    ((getI v1 v4).bind fun v7 =>
    (filter_isSmall v7 v2).bind fun v8 =>
    if v8 = true then
      (some (.inl (IntKind.i64.wrap (v4 + 1))))
    else
      (some (.inr (.inl ()))))
  else
    (some (.inr (.inr ())))
noncomputable def filter_allSmall (v1 : (List Int)) (v2 : Int) : Option (Int) :=
  (run (filter_allSmall_l1 v1 v2) 0).bind fun v9 => match v9 with
  | (.inl _) =>
    some (2)
  | (.inr _) =>
    some (0)

end Go.Rex

namespace Go.Rex
open Go Go.Rex
noncomputable def filter_CheckSection (v1 : Int) (v2 : Int) (v3 : Int) (v4 : Int) (v5 : Int) : Option (Int) :=
  (filter_coefficientsOf v1 v2 v3 v4 v5).bind fun (v7, v8, v9, v10, v11) =>
  (filter_allSmall ([v7, v8, v9, v10, v11] : List Int) 32768).bind fun v12 =>
  some (v12)

end Go.Rex

namespace Go.Rex
open Go Go.Rex
noncomputable def filter_size (v1 : Int) : Option (Int) :=
  some ((if (IntKind.i64.wrap (0 - v1)) > v1 then (IntKind.i64.wrap (0 - v1)) else v1))

end Go.Rex

namespace Go.Rex
open Go Go.Rex
noncomputable def filter_isStable (v1 : Int) (v2 : Int) : Option (Bool) :=
  (filter_size v2).bind fun v4 =>
  if (decide (v4 < 16384)) = true then
    ((filter_size v1).bind fun v5 =>
    some ((decide (v5 < (IntKind.i64.wrap (16384 + v2))))))
  else
    (some (false))

end Go.Rex

namespace Go.Rex
open Go Go.Rex
noncomputable def filter_IsStable (v1 : Int) (v2 : Int) (v3 : Int) (v4 : Int) (v5 : Int) : Option (Bool × Int) :=
  (filter_CheckSection v1 v2 v3 v4 v5).bind fun v8 =>
  if (decide (v8 ≠ 0)) = true then
    (some (false, v8))
  else
    ((filter_isStable v4 v5).bind fun v9 =>
    some (v9, 0))

end Go.Rex

namespace Go.Rex
open Go Go.Rex
noncomputable def base_CopyInts (v1 : (List Int)) : Option ((List Int)) :=
  (appI 8 ([] : List Int) v1).bind fun v3 =>
  some (v3)

end Go.Rex

namespace Go.Rex
open Go Go.Rex
noncomputable def filter_refuse (v1 : Bool) (v2 : Int) : Option (Int) :=
  if v1 = true then
    (some (v2))
  else
    (some (0))

end Go.Rex

namespace Go.Rex
open Go Go.Rex
noncomputable def filter_firstError_l1 (v1 : (List Int)) : (Int) → Option ((Int) ⊕ ((Int) ⊕ (Unit))) := fun v3 =>
  if (decide (v3 < (v1.length : Int))) = true then
    ((getI v1 v3).bind fun v6 =>
    if (decide (v6 ≠ 0)) = true then
      (some (.inr (.inl v6)))
    else
      (some (.inl (IntKind.i64.wrap (v3 + 1)))))
  else
    (some (.inr (.inr ())))
noncomputable def filter_firstError (v1 : (List Int)) : Option (Int) :=
  (run (filter_firstError_l1 v1) 0).bind fun v7 => match v7 with
  | (.inl v8) =>
    some (v8)
  | (.inr _) =>
    some (0)

end Go.Rex

namespace Go.Rex
open Go Go.Rex
noncomputable def filter_polynomialError (v1 : (List Int)) : Option (Int) :=
  if (decide ((v1.length : Int) < 2)) = true then
    ((filter_refuse true 10).bind fun v3 =>
    if (decide (v3 ≠ 0)) = true then
      (some (v3))
    else
      ((filter_allSmall v1 100).bind fun v4 =>
      (getI v1 0).bind fun v5 =>
      (filter_refuse (decide (v5 ≤ 0)) 11).bind fun v6 =>
      (filter_firstError ([v4, v6] : List Int)).bind fun v7 =>
      some (v7)))
  else
    ((filter_refuse (decide ((v1.length : Int) > 5)) 10).bind fun v8 =>
    if (decide (v8 ≠ 0)) = true then
      (some (v8))
    else
      ((filter_allSmall v1 100).bind fun v9 =>
      (getI v1 0).bind fun v10 =>
      (filter_refuse (decide (v10 ≤ 0)) 11).bind fun v11 =>
      (filter_firstError ([v9, v11] : List Int)).bind fun v12 =>
      some (v12)))

end Go.Rex

namespace Go.Rex
open Go Go.Rex
noncomputable def filter_stepDown_l1 (v1 : (List Int)) : ((List Int) × Int) → Option (((List Int) × Int) ⊕ (((List Int)))) := fun (v3, v4) =>
  if (decide (v4 < (IntKind.i64.wrap ((v1.length : Int) - 1)))) = true then
    ((getI v1 0).bind fun v11 =>
    (getI v1 v4).bind fun v12 =>
    (getI v1 (IntKind.i64.wrap ((v1.length : Int) - 1))).bind fun v13 =>
    (getI v1 (IntKind.i64.wrap ((IntKind.i64.wrap ((v1.length : Int) - 1)) - v4))).bind fun v14 =>
    (appI 8 v3 ([(IntKind.i64.wrap ((IntKind.i64.wrap (v11 * v12)) - (IntKind.i64.wrap (v13 * v14))))] : List Int)).bind fun v15 =>
    some (.inl (v15, (IntKind.i64.wrap (v4 + 1)))))
  else
    (some (.inr v3))
noncomputable def filter_stepDown (v1 : (List Int)) : Option ((List Int)) :=
  (run (filter_stepDown_l1 v1) (([] : List Int), 0)).bind fun v16 =>
  some (v16)

end Go.Rex

namespace Go.Rex
open Go Go.Rex
noncomputable def filter_Schur_l1 : ((List Int) × Int) → Option (((List Int) × Int) ⊕ ((Int) ⊕ (Int))) := fun (v6, v7) =>
  (getI v6 0).bind fun v14 =>
  (getI v6 (IntKind.i64.wrap ((v6.length : Int) - 1))).bind fun v15 =>
  (filter_size v15).bind fun v16 =>
  if (decide (v14 > v16)) = true then
    (if (decide ((v6.length : Int) = 2)) = true then
      (some (.inr (.inl v7)))
    else
      ((filter_stepDown v6).bind fun v17 =>
      some (.inl (v17, (IntKind.i64.wrap (v7 + 1))))))
  else
    (some (.inr (.inr v7)))
noncomputable def filter_Schur (v1 : (List Int)) : Option (Bool × Int × Int) :=
  (filter_polynomialError v1).bind fun v5 =>
  if (decide (v5 ≠ 0)) = true then
    (some (false, 0, v5))
  else
    ((run (filter_Schur_l1) (v1, 0)).bind fun v18 => match v18 with
    | (.inl v19) =>
      some (true, v19, 0)
    | (.inr v20) =>
      some (false, v20, 0))

end Go.Rex

namespace Go.Rex
open Go Go.Rex
noncomputable def ref06_Copy (v1 : (List (Int × Int × Int × Int × Int))) : Option ((List (Int × Int × Int × Int × Int))) :=
  (appI 40 ([] : List (Int × Int × Int × Int × Int)) v1).bind fun v3 =>
  some (v3)

end Go.Rex

namespace Go.Rex
open Go Go.Rex
noncomputable def filter_CheckCascade_l1 (v1 : (List (Int × Int × Int × Int × Int))) : (Int) → Option ((Int) ⊕ ((Int × Int) ⊕ (Unit))) := fun v4 =>
  if (decide (v4 < (v1.length : Int))) = true then
    ((getI v1 v4).bind fun (v13, v14, v15, v16, v17) =>
    (filter_CheckSection v13 v14 v15 v16 v17).bind fun v18 =>
    if (decide (v18 ≠ 0)) = true then
      (some (.inr (.inl (v4, v18))))
    else
      (some (.inl (IntKind.i64.wrap (v4 + 1)))))
  else
    (some (.inr (.inr ())))
noncomputable def filter_CheckCascade (v1 : (List (Int × Int × Int × Int × Int))) : Option (Int × Int) :=
  if (decide ((v1.length : Int) > 6)) = true then
    (some (0, 8))
  else
    ((run (filter_CheckCascade_l1 v1) 0).bind fun v19 => match v19 with
    | (.inl (v20, v21)) =>
      some (v20, v21)
    | (.inr _) =>
      some (0, 0))

end Go.Rex

namespace Go.Rex
open Go Go.Rex
noncomputable def filter_cascadeError (v1 : (List (Int × Int × Int × Int × Int))) : Option (Int) :=
  (filter_CheckCascade v1).bind fun (v3, v4) =>
  some (v4)

end Go.Rex

namespace Go.Rex
open Go Go.Rex
noncomputable def filter_FirstUnstable_l1 (v1 : (List (Int × Int × Int × Int × Int))) : (Int) → Option ((Int) ⊕ ((Int) ⊕ (Unit))) := fun v5 =>
  if (decide (v5 < (v1.length : Int))) = true then
    ((getI v1 v5).bind fun (v13, v14, v15, v16, v17) =>
    (filter_isStable v16 v17).bind fun v18 =>
    if v18 = true then
      (some (.inl (IntKind.i64.wrap (v5 + 1))))
    else
      (some (.inr (.inl v5))))
  else
    (some (.inr (.inr ())))
noncomputable def filter_FirstUnstable (v1 : (List (Int × Int × Int × Int × Int))) : Option (Int × Int) :=
  (filter_cascadeError v1).bind fun v4 =>
  if (decide (v4 ≠ 0)) = true then
    (some (0, v4))
  else
    ((run (filter_FirstUnstable_l1 v1) 0).bind fun v19 => match v19 with
    | (.inl v20) =>
      some (v20, 0)
    | (.inr _) =>
      some (0, 12))

end Go.Rex

namespace Go.Rex
open Go Go.Rex
noncomputable def top_TopStableSections_l1 : (Unit) → Option ((Unit) ⊕ ((Unit))) := fun _ =>
  some (.inr ())
noncomputable def top_TopStableSections_l3 (v1 : Int) (v2 : Int) (v3 : Int) (v4 : Int) (v36 : Int) : ((List Int) × Int) → Option (((List Int) × Int) ⊕ (((List Int)))) := fun (v48, v49) =>
  if (decide (v49 < 3)) = true then
    ((getI v48 (IntKind.i64.wrap (v36 + v49))).bind fun v54 =>
    (getI ([4, v1, v2] : List Int) v36).bind fun v55 =>
    (getI ([4, v3, v4] : List Int) v49).bind fun v56 =>
    some (.inl ((v48.set ((IntKind.i64.wrap (v36 + v49))).toNat (IntKind.i64.wrap (v54 + (IntKind.i64.wrap (v55 * v56))))), (IntKind.i64.wrap (v49 + 1)))))
  else
    (some (.inr v48))
noncomputable def top_TopStableSections_l2 (v1 : Int) (v2 : Int) (v3 : Int) (v4 : Int) : ((List Int) × Int) → Option (((List Int) × Int) ⊕ (((List Int)))) := fun (v35, v36) =>
  if (decide (v36 < 3)) = true then
    ((run (top_TopStableSections_l3 v1 v2 v3 v4 v36) (v35, 0)).bind fun v57 =>
    some (.inl (v57, (IntKind.i64.wrap (v36 + 1)))))
  else
    (some (.inr v35))
noncomputable def top_TopStableSections (v1 : Int) (v2 : Int) (v3 : Int) (v4 : Int) : Option Bool :=
  (base_Within v1 (-6) 6).bind fun v6 =>
  if v6 = true then
    ((base_Within v2 (-6) 6).bind fun v7 =>
    if v7 = true then
      ((appI 40 ([] : List (Int × Int × Int × Int × Int)) ([(16384, 0, 0, (IntKind.i64.wrap (v1 * 4096)), (IntKind.i64.wrap (v2 * 4096)))] : List (Int × Int × Int × Int × Int))).bind fun v8 =>
      (getI v8 0).bind fun (v9, v10, v11, v12, v13) =>
      (filter_IsStable v9 v10 v11 v12 v13).bind fun (v14, v15) =>
      (base_CopyInts ([4, v1, v2] : List Int)).bind fun v16 =>
      (filter_Schur v16).bind fun (v17, v18, v19) =>
      if (decide (v15 ≠ 0)) = true then
        (some (false))
      else
        (if (decide (v19 ≠ 0)) = true then
          (some (false))
        else
          (if (v14 == v17) = true then
            ((base_Within v3 (-6) 6).bind fun v20 =>
            if v20 = true then
              ((base_Within v4 (-6) 6).bind fun v21 =>
              if v21 = true then
                ((appI 40 v8 ([(16384, 0, 0, (IntKind.i64.wrap (v3 * 4096)), (IntKind.i64.wrap (v4 * 4096)))] : List (Int × Int × Int × Int × Int))).bind fun v22 =>
                (getI v22 1).bind fun (v23, v24, v25, v26, v27) =>
                (filter_IsStable v23 v24 v25 v26 v27).bind fun (v28, v29) =>
                (base_CopyInts ([4, v3, v4] : List Int)).bind fun v30 =>
                (filter_Schur v30).bind fun (v31, v32, v33) =>
                if (decide (v29 ≠ 0)) = true then
                  (some (false))
                else
                  (if (decide (v33 ≠ 0)) = true then
                    (some (false))
                  else
                    (if (v28 == v31) = true then
                      ((run (top_TopStableSections_l1) ()).bind fun _ =>
                      (mkI 8 5 (0 : Int)).bind fun v34 =>
                      (run (top_TopStableSections_l2 v1 v2 v3 v4) (v34, 0)).bind fun v58 =>
                      (filter_Schur v58).bind fun (v59, v60, v61) =>
                      (ref06_Copy v22).bind fun v62 =>
                      (filter_FirstUnstable v62).bind fun (v63, v64) =>
                      if (decide (v61 = 0)) = true then
                        (if (decide (v64 = 0)) = true then
                          (some ((v59 == (decide (v64 = 12)))))
                        else
                          (if (decide (v64 = 12)) = true then
                            (some ((v59 == (decide (v64 = 12)))))
                          else
                            (some (false))))
                      else
                        (some (false)))
                    else
                      (some (false)))))
              else
                (some (true)))
            else
              (some (true)))
          else
            (some (false)))))
    else
      (some (true)))
  else
    (some (true))

end Go.Rex
