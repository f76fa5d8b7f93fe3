/- The functions of the program and of the reference, as functions of lists and numbers. -/
import Derived.Test.YtojekkfmnnoabaaTexU
set_option linter.unusedSimpArgs false
set_option linter.unusedVariables false
set_option linter.defProp false
namespace Go.Rex
open Go Go.Rex
def e_iiiii (x : (Int × Int × Int × Int × Int)) : List TV := [.v (.int .i64 x.1), .v (.int .i64 x.2.1), .v (.int .i64 x.2.2.1), .v (.int .i64 x.2.2.2.1), .v (.int .i64 x.2.2.2.2)]
def e_i (x : Int) : List TV := [.v (.int .i64 x)]

end Go.Rex

namespace Go.Rex
open Go Go.Rex
noncomputable def law06_few (v1 : (List (Int × Int × Int × Int × Int))) : Option (Bool) :=
  some ((decide ((v1.length : Int) ≤ 8)))

end Go.Rex

namespace Go.Rex
open Go Go.Rex
noncomputable def filter_coefficientsOf (v1 : Int) (v2 : Int) (v3 : Int) (v4 : Int) (v5 : Int) : Option (Int × Int × Int × Int × Int) :=
  some (v1, v2, v3, v4, v5)

end Go.Rex

namespace Go.Rex
open Go Go.Rex
noncomputable def filter_isSmall (v1 : Int) (v2 : Int) : Option (Bool) :=
  if (decide ((IntKind.i64.wrap (0 - v2)) ≤ v1)) = true then
    (some ((decide (v1 ≤ v2))))
  else
    (some (false))

end Go.Rex

namespace Go.Rex
open Go Go.Rex
noncomputable def filter_allSmall_l1 (v1 : (List Int)) (v2 : Int) : (Int) → Option ((Int) ⊕ ((Unit) ⊕ (Unit))) := fun v4 =>
  if (decide (v4 < (v1.length : Int))) = true then
    ((getI v1 v4).bind fun v7 =>
    (filter_isSmall v7 v2).bind fun v8 =>
    if v8 = true then
      (some (.inl (IntKind.i64.wrap (v4 + 1))))
    else
      (some (.inr (.inl ()))))
  else
    (some (.inr (.inr ())))
noncomputable def filter_allSmall (v1 : (List Int)) (v2 : Int) : Option (Int) :=
  (run (filter_allSmall_l1 v1 v2) 0).bind fun v9 => match v9 with
  | (.inl _) =>
    some (2)
  | (.inr _) =>
    some (0)

end Go.Rex

namespace Go.Rex
open Go Go.Rex
noncomputable def filter_CheckSection (v1 : Int) (v2 : Int) (v3 : Int) (v4 : Int) (v5 : Int) : Option (Int) :=
  (filter_coefficientsOf v1 v2 v3 v4 v5).bind fun (v7, v8, v9, v10, v11) =>
  (filter_allSmall ([v7, v8, v9, v10, v11] : List Int) 32768).bind fun v12 =>
  some (v12)

end Go.Rex

namespace Go.Rex
open Go Go.Rex
noncomputable def filter_refuse (v1 : Bool) (v2 : Int) : Option (Int) :=
  if v1 = true then
    (some (v2))
  else
    (some (0))

end Go.Rex

namespace Go.Rex
open Go Go.Rex
noncomputable def filter_within (v1 : Int) (v2 : Int) (v3 : Int) : Option (Int) :=
  if (decide (v1 < v2)) = true then
    ((filter_refuse true 2).bind fun v5 =>
    some (v5))
  else
    ((filter_refuse (decide (v1 > v3)) 2).bind fun v6 =>
    some (v6))

end Go.Rex

namespace Go.Rex
open Go Go.Rex
noncomputable def filter_mostError (v1 : Int) : Option (Int) :=
  (filter_within v1 0 32767).bind fun v3 =>
  some (v3)

end Go.Rex

namespace Go.Rex
open Go Go.Rex
noncomputable def filter_firstError_l1 (v1 : (List Int)) : (Int) → Option ((Int) ⊕ ((Int) ⊕ (Unit))) := fun v3 =>
  if (decide (v3 < (v1.length : Int))) = true then
    ((getI v1 v3).bind fun v6 =>
    if (decide (v6 ≠ 0)) = true then
      (some (.inr (.inl v6)))
    else
      (some (.inl (IntKind.i64.wrap (v3 + 1)))))
  else
    (some (.inr (.inr ())))
noncomputable def filter_firstError (v1 : (List Int)) : Option (Int) :=
  (run (filter_firstError_l1 v1) 0).bind fun v7 => match v7 with
  | (.inl v8) =>
    some (v8)
  | (.inr _) =>
    some (0)

end Go.Rex

namespace Go.Rex
open Go Go.Rex
noncomputable def filter_size (v1 : Int) : Option (Int) :=
  some ((if (IntKind.i64.wrap (0 - v1)) > v1 then (IntKind.i64.wrap (0 - v1)) else v1))

end Go.Rex

namespace Go.Rex
open Go Go.Rex
noncomputable def filter_floor (v1 : Int) (v2 : Int) : Option (Int) :=
  if v2 = 0 then none else
  (some ((IntKind.i64.wrap ((IntKind.i64.wrap (v1 - ((IntKind.i64.wrap ((v1.tmod v2) + v2)).tmod v2))).tdiv v2))))

end Go.Rex

namespace Go.Rex
open Go Go.Rex
noncomputable def filter_bound (v1 : Int) (v2 : Int) (v3 : Int) (v4 : Int) (v5 : Int) (v6 : Int) : Option (Int × Int) :=
  (filter_size v4).bind fun v9 =>
  (filter_size v5).bind fun v10 =>
  if (decide ((IntKind.i64.wrap ((IntKind.i64.wrap (16384 - v9)) - v10)) ≤ 0)) = true then
    (some (0, 12))
  else
    ((filter_size v1).bind fun v11 =>
    (filter_size v2).bind fun v12 =>
    (filter_size v3).bind fun v13 =>
    (filter_floor (IntKind.i64.wrap ((IntKind.i64.wrap ((IntKind.i64.wrap ((IntKind.i64.wrap (v11 + v12)) + v13)) * v6)) + 8192)) (IntKind.i64.wrap ((IntKind.i64.wrap (16384 - v9)) - v10))).bind fun v14 =>
    some ((if 32767 < v14 then 32767 else v14), 0))

end Go.Rex

namespace Go.Rex
open Go Go.Rex
noncomputable def filter_BoundOf (v1 : Int) (v2 : Int) (v3 : Int) (v4 : Int) (v5 : Int) (v6 : Int) : Option (Int × Int) :=
  (filter_CheckSection v1 v2 v3 v4 v5).bind fun v9 =>
  (filter_mostError v6).bind fun v10 =>
  (filter_firstError ([v9, v10] : List Int)).bind fun v11 =>
  if (decide (v11 ≠ 0)) = true then
    (some (0, v11))
  else
    ((filter_bound v1 v2 v3 v4 v5 v6).bind fun (v12, v13) =>
    some (v12, v13))

end Go.Rex

namespace Go.Rex
open Go Go.Rex
noncomputable def ref06_Copy (v1 : (List (Int × Int × Int × Int × Int))) : Option ((List (Int × Int × Int × Int × Int))) :=
  (appI 40 ([] : List (Int × Int × Int × Int × Int)) v1).bind fun v3 =>
  some (v3)

end Go.Rex

namespace Go.Rex
open Go Go.Rex
noncomputable def filter_CheckCascade_l1 (v1 : (List (Int × Int × Int × Int × Int))) : (Int) → Option ((Int) ⊕ ((Int × Int) ⊕ (Unit))) := fun v4 =>
  if (decide (v4 < (v1.length : Int))) = true then
    ((getI v1 v4).bind fun (v13, v14, v15, v16, v17) =>
    (filter_CheckSection v13 v14 v15 v16 v17).bind fun v18 =>
    if (decide (v18 ≠ 0)) = true then
      (some (.inr (.inl (v4, v18))))
    else
      (some (.inl (IntKind.i64.wrap (v4 + 1)))))
  else
    (some (.inr (.inr ())))
noncomputable def filter_CheckCascade (v1 : (List (Int × Int × Int × Int × Int))) : Option (Int × Int) :=
  if (decide ((v1.length : Int) > 6)) = true then
    (some (0, 8))
  else
    ((run (filter_CheckCascade_l1 v1) 0).bind fun v19 => match v19 with
    | (.inl (v20, v21)) =>
      some (v20, v21)
    | (.inr _) =>
      some (0, 0))

end Go.Rex

namespace Go.Rex
open Go Go.Rex
noncomputable def filter_cascadeError (v1 : (List (Int × Int × Int × Int × Int))) : Option (Int) :=
  (filter_CheckCascade v1).bind fun (v3, v4) =>
  some (v4)

end Go.Rex

namespace Go.Rex
open Go Go.Rex
noncomputable def filter_CascadeBound_l1 (v1 : (List (Int × Int × Int × Int × Int))) : (Int × Int) → Option ((Int × Int) ⊕ ((Int) ⊕ (Int))) := fun (v8, v9) =>
  if (decide (v9 < (v1.length : Int))) = true then
    ((getI v1 v9).bind fun (v19, v20, v21, v22, v23) =>
    (filter_bound v19 v20 v21 v22 v23 v8).bind fun (v24, v25) =>
    if (decide (v25 ≠ 0)) = true then
      (some (.inr (.inl v25)))
    else
      (some (.inl (v24, (IntKind.i64.wrap (v9 + 1))))))
  else
    (some (.inr (.inr v8)))
noncomputable def filter_CascadeBound (v1 : (List (Int × Int × Int × Int × Int))) (v2 : Int) : Option (Int × Int) :=
  (filter_cascadeError v1).bind fun v5 =>
  (filter_mostError v2).bind fun v6 =>
  (filter_firstError ([v5, v6] : List Int)).bind fun v7 =>
  if (decide (v7 ≠ 0)) = true then
    (some (0, v7))
  else
    ((run (filter_CascadeBound_l1 v1) (v2, 0)).bind fun v26 => match v26 with
    | (.inl v27) =>
      some (0, v27)
    | (.inr v28) =>
      some (v28, 0))

end Go.Rex

namespace Go.Rex
open Go Go.Rex
noncomputable def base_Within (v1 : Int) (v2 : Int) (v3 : Int) : Option (Bool) :=
  if (decide (v2 ≤ v1)) = true then
    (some ((decide (v1 ≤ v3))))
  else
    (some (false))

end Go.Rex

namespace Go.Rex
open Go Go.Rex
noncomputable def ref06_CheckSection_l1 (v1 : Int) (v2 : Int) (v3 : Int) (v4 : Int) (v5 : Int) : (Int) → Option ((Int) ⊕ ((Unit) ⊕ (Unit))) := fun v7 =>
  if (decide (v7 < 5)) = true then
    ((getI ([v1, v2, v3, v4, v5] : List Int) v7).bind fun v10 =>
    (base_Within v10 (-32768) 32768).bind fun v11 =>
    if v11 = true then
      (some (.inl (IntKind.i64.wrap (v7 + 1))))
    else
      (some (.inr (.inl ()))))
  else
    (some (.inr (.inr ())))
noncomputable def ref06_CheckSection (v1 : Int) (v2 : Int) (v3 : Int) (v4 : Int) (v5 : Int) : Option (Int) :=
  (run (ref06_CheckSection_l1 v1 v2 v3 v4 v5) 0).bind fun v12 => match v12 with
  | (.inl _) =>
    some (2)
  | (.inr _) =>
    some (0)

end Go.Rex

namespace Go.Rex
open Go Go.Rex
noncomputable def base_Size (v1 : Int) : Option (Int) :=
  some ((if (IntKind.i64.wrap (0 - v1)) > v1 then (IntKind.i64.wrap (0 - v1)) else v1))

end Go.Rex

namespace Go.Rex
open Go Go.Rex
noncomputable def base_Floor (v1 : Int) (v2 : Int) : Option (Int) :=
  if v2 = 0 then none else
  (if (decide ((v1.tmod v2) < 0)) = true then
    (some ((IntKind.i64.wrap ((IntKind.i64.wrap (v1.tdiv v2)) - 1))))
  else
    (some ((IntKind.i64.wrap (v1.tdiv v2)))))

end Go.Rex

namespace Go.Rex
open Go Go.Rex
noncomputable def ref06_BoundOf (v1 : Int) (v2 : Int) (v3 : Int) (v4 : Int) (v5 : Int) (v6 : Int) : Option (Int × Int) :=
  (base_Within v6 0 32767).bind fun v9 =>
  if v9 = true then
    ((base_Size v4).bind fun v10 =>
    (base_Size v5).bind fun v11 =>
    if (decide ((IntKind.i64.wrap ((IntKind.i64.wrap (16384 - v10)) - v11)) ≤ 0)) = true then
      (some (0, 12))
    else
      ((base_Size v1).bind fun v12 =>
      (base_Size v2).bind fun v13 =>
      (base_Size v3).bind fun v14 =>
      (base_Floor (IntKind.i64.wrap ((IntKind.i64.wrap ((IntKind.i64.wrap ((IntKind.i64.wrap (v12 + v13)) + v14)) * v6)) + 8192)) (IntKind.i64.wrap ((IntKind.i64.wrap (16384 - v10)) - v11))).bind fun v15 =>
      some ((if v15 < 32767 then v15 else 32767), 0)))
  else
    (some (0, 2))

end Go.Rex

namespace Go.Rex
open Go Go.Rex
noncomputable def ref06_CheckCascade_l1 (v1 : (List (Int × Int × Int × Int × Int))) : (Int) → Option ((Int) ⊕ ((Int × Int) ⊕ (Unit))) := fun v4 =>
  if (decide (v4 < (v1.length : Int))) = true then
    ((getI v1 v4).bind fun (v13, v14, v15, v16, v17) =>
    (ref06_CheckSection v13 v14 v15 v16 v17).bind fun v18 =>
    if (decide (v18 ≠ 0)) = true then
      (some (.inr (.inl (v4, v18))))
    else
      (some (.inl (IntKind.i64.wrap (v4 + 1)))))
  else
    (some (.inr (.inr ())))
noncomputable def ref06_CheckCascade (v1 : (List (Int × Int × Int × Int × Int))) : Option (Int × Int) :=
  if (decide ((v1.length : Int) > 6)) = true then
    (some (0, 8))
  else
    ((run (ref06_CheckCascade_l1 v1) 0).bind fun v19 => match v19 with
    | (.inl (v20, v21)) =>
      some (v20, v21)
    | (.inr _) =>
      some (0, 0))

end Go.Rex

namespace Go.Rex
open Go Go.Rex
noncomputable def ref06_CascadeBound_l1 (v1 : (List (Int × Int × Int × Int × Int))) : (Int × Int) → Option ((Int × Int) ⊕ ((Int) ⊕ (Int))) := fun (v6, v7) =>
  if (decide (v7 < (v1.length : Int))) = true then
    ((getI v1 v7).bind fun (v17, v18, v19, v20, v21) =>
    (ref06_BoundOf v17 v18 v19 v20 v21 v6).bind fun (v22, v23) =>
    if (decide (v23 ≠ 0)) = true then
      (some (.inr (.inl v23)))
    else
      (some (.inl (v22, (IntKind.i64.wrap (v7 + 1))))))
  else
    (some (.inr (.inr v6)))
noncomputable def ref06_CascadeBound (v1 : (List (Int × Int × Int × Int × Int))) (v2 : Int) : Option (Int × Int) :=
  (base_Within v2 0 32767).bind fun v5 =>
  if v5 = true then
    ((run (ref06_CascadeBound_l1 v1) (v2, 0)).bind fun v24 => match v24 with
    | (.inl v25) =>
      some (0, v25)
    | (.inr v26) =>
      some (v26, 0))
  else
    (some (0, 2))

end Go.Rex

namespace Go.Rex
open Go Go.Rex
noncomputable def law06_FilterBounds (v1 : (List (Int × Int × Int × Int × Int))) (v2 : Int) (v3 : Int) (v4 : Int) (v5 : Int) (v6 : Int) (v7 : Int) : Option Bool :=
  (law06_few v1).bind fun v9 =>
  if v9 = true then
    ((filter_BoundOf v2 v3 v4 v5 v6 v7).bind fun (v10, v11) =>
    (ref06_Copy v1).bind fun v12 =>
    (filter_CascadeBound v12 v7).bind fun (v13, v14) =>
    (ref06_CheckSection v2 v3 v4 v5 v6).bind fun v15 =>
    if (decide (v15 = 0)) = true then
      ((ref06_BoundOf v2 v3 v4 v5 v6 v7).bind fun (v16, v17) =>
      if (decide (v11 ≠ v17)) = true then
        (some (false))
      else
        (if (decide (v10 ≠ v16)) = true then
          (some (false))
        else
          ((ref06_CheckCascade v1).bind fun (v18, v19) =>
          if (decide (v19 = 0)) = true then
            ((ref06_CascadeBound v1 v7).bind fun (v20, v21) =>
            if (decide (v14 = v21)) = true then
              (some ((decide (v13 = v20))))
            else
              (some (false)))
          else
            (if (decide (v14 = v19)) = true then
              (some ((decide (v13 = 0))))
            else
              (some (false))))))
    else
      (if (decide (v11 ≠ v15)) = true then
        (some (false))
      else
        (if (decide (v10 ≠ 0)) = true then
          (some (false))
        else
          ((ref06_CheckCascade v1).bind fun (v22, v23) =>
          if (decide (v23 = 0)) = true then
            ((ref06_CascadeBound v1 v7).bind fun (v24, v25) =>
            if (decide (v14 = v25)) = true then
              (some ((decide (v13 = v24))))
            else
              (some (false)))
          else
            (if (decide (v14 = v23)) = true then
              (some ((decide (v13 = 0))))
            else
              (some (false)))))))
  else
    (some (true))

end Go.Rex
