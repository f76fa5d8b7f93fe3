/- The functions of the program and of the reference, as functions of lists and numbers. -/
import Derived.Test.YtnjbkoobeobfiaaGreatRexG9
set_option linter.unusedSimpArgs false
set_option linter.unusedVariables false
set_option linter.defProp false
namespace Go.Rex
open Go Go.Rex
def e_i (x : Int) : List TV := [.v (.int .i64 x)]
def e_Li_ (x : (List Int)) : List TV := [.list 1 (x.map e_i)]

end Go.Rex

namespace Go.Rex
open Go Go.Rex
noncomputable def law03_patches_l1 (v1 : (List (List Int))) : (Int) → Option ((Int) ⊕ ((Unit) ⊕ (Unit))) := fun v5 =>
  if (decide (v5 < (v1.length : Int))) = true then
    ((getI v1 v5).bind fun v7 =>
    if (decide ((v7.length : Int) > 16)) = true then
      (some (.inr (.inl ())))
    else
      (some (.inl (IntKind.i64.wrap (v5 + 1)))))
  else
    (some (.inr (.inr ())))
noncomputable def law03_patches_l2 (v1 : (List (List Int))) : (Int) → Option ((Int) ⊕ ((Unit) ⊕ (Unit))) := fun v9 =>
  if (decide (v9 < (v1.length : Int))) = true then
    ((getI v1 v9).bind fun v11 =>
    if (decide ((v11.length : Int) > 16)) = true then
      (some (.inr (.inl ())))
    else
      (some (.inl (IntKind.i64.wrap (v9 + 1)))))
  else
    (some (.inr (.inr ())))
noncomputable def law03_patches (v1 : (List (List Int))) (v2 : (List Int)) (v3 : (List Int)) : Option (Bool) :=
  if (decide ((v1.length : Int) > 5)) = true then
    (if (decide ((v1.length : Int) ≤ 12)) = true then
      (some (false))
    else
      (if (decide ((v1.length : Int) > 14)) = true then
        (some (false))
      else
        (if (decide ((v2.length : Int) > 16)) = true then
          (some (false))
        else
          (if (decide ((v3.length : Int) > 16)) = true then
            (some (false))
          else
            ((run (law03_patches_l1 v1) 0).bind fun v8 => match v8 with
            | (.inl _) =>
              some (false)
            | (.inr _) =>
              some (true))))))
  else
    (if (decide ((v1.length : Int) > 14)) = true then
      (some (false))
    else
      (if (decide ((v2.length : Int) > 16)) = true then
        (some (false))
      else
        (if (decide ((v3.length : Int) > 16)) = true then
          (some (false))
        else
          ((run (law03_patches_l2 v1) 0).bind fun v12 => match v12 with
          | (.inl _) =>
            some (false)
          | (.inr _) =>
            some (true)))))

end Go.Rex

namespace Go.Rex
open Go Go.Rex
noncomputable def base_CopyInts (v1 : (List Int)) : Option ((List Int)) :=
  (appI 8 ([] : List Int) v1).bind fun v3 =>
  some (v3)

end Go.Rex

namespace Go.Rex
open Go Go.Rex
noncomputable def base_CopyLists_l1 (v1 : (List (List Int))) : ((List (List Int)) × Int) → Option (((List (List Int)) × Int) ⊕ (((List (List Int))))) := fun (v3, v4) =>
  if (decide (v4 < (v1.length : Int))) = true then
    ((getI v1 v4).bind fun v9 =>
    (base_CopyInts v9).bind fun v10 =>
    (appI 24 v3 ([v10] : List (List Int))).bind fun v11 =>
    some (.inl (v11, (IntKind.i64.wrap (v4 + 1)))))
  else
    (some (.inr v3))
noncomputable def base_CopyLists (v1 : (List (List Int))) : Option ((List (List Int))) :=
  (run (base_CopyLists_l1 v1) (([] : List (List Int)), 0)).bind fun v12 =>
  some (v12)

end Go.Rex

namespace Go.Rex
open Go Go.Rex
noncomputable def ref03_CopyExchange (v1 : (List (List Int))) (v2 : (List Int)) : Option ((List (List Int)) × (List Int)) :=
  (base_CopyLists v1).bind fun v5 =>
  (base_CopyInts v2).bind fun v6 =>
  some (v5, v6)

end Go.Rex

namespace Go.Rex
open Go Go.Rex
noncomputable def energy_refuse (v1 : Bool) (v2 : Int) : Option (Bool × Int) :=
  some (v1, v2)

end Go.Rex

namespace Go.Rex
open Go Go.Rex
noncomputable def energy_refuse_c1_11f9 (v1 : Bool) (v2 : Int) : Option (Int) :=
  if v1 = true then
    (some (v2))
  else
    (some (0))

end Go.Rex

namespace Go.Rex
open Go Go.Rex
noncomputable def energy_firstError_b825 (v1 : Bool) (v2 : Int) (v3 : Bool) (v4 : Int) (v5 : Bool) (v6 : Int) : Option (Int) :=
  (energy_refuse_c1_11f9 v1 v2).bind fun v8 =>
  if (decide (v8 ≠ 0)) = true then
    (some (v8))
  else
    ((energy_refuse_c1_11f9 v3 v4).bind fun v9 =>
    if (decide (v9 ≠ 0)) = true then
      (some (v9))
    else
      ((energy_refuse_c1_11f9 v5 v6).bind fun v10 =>
      if (decide (v10 ≠ 0)) = true then
        (some (v10))
      else
        (some (0))))

end Go.Rex

namespace Go.Rex
open Go Go.Rex
noncomputable def energy_within (v1 : Int) (v2 : Int) (v3 : Int) : Option (Bool × Int) :=
  if (decide (v1 < v2)) = true then
    ((energy_refuse true 2).bind fun (v6, v7) =>
    some (v6, v7))
  else
    ((energy_refuse (decide (v1 > v3)) 2).bind fun (v8, v9) =>
    some (v8, v9))

end Go.Rex

namespace Go.Rex
open Go Go.Rex
noncomputable def energy_allWithin_c1_ea58 (v1 : Int) (v2 : (List Int)) (v3 : Int) (v4 : Int) : Option (Int) :=
  (getI v2 v1).bind fun v6 =>
  (energy_within v6 v3 v4).bind fun (v7, v8) =>
  (energy_refuse_c1_11f9 v7 v8).bind fun v9 =>
  some (v9)

end Go.Rex

namespace Go.Rex
open Go Go.Rex
noncomputable def energy_firstWrong_b2dc_l1 (v1 : Int) (v2 : (List Int)) (v3 : Int) (v4 : Int) : (Int) → Option ((Int) ⊕ ((Int × Int) ⊕ (Unit))) := fun v7 =>
  if (decide (v7 < v1)) = true then
    ((energy_allWithin_c1_ea58 v7 v2 v3 v4).bind fun v11 =>
    if (decide (v11 ≠ 0)) = true then
      (some (.inr (.inl (v7, v11))))
    else
      (some (.inl (IntKind.i64.wrap (v7 + 1)))))
  else
    (some (.inr (.inr ())))
noncomputable def energy_firstWrong_b2dc (v1 : Int) (v2 : (List Int)) (v3 : Int) (v4 : Int) : Option (Int × Int) :=
  (run (energy_firstWrong_b2dc_l1 v1 v2 v3 v4) 0).bind fun v12 => match v12 with
  | (.inl (v13, v14)) =>
    some (v13, v14)
  | (.inr _) =>
    some (0, 0)

end Go.Rex

namespace Go.Rex
open Go Go.Rex
noncomputable def energy_unnumbered (v1 : Int) (v2 : Int) : Option (Int) :=
  some (v2)

end Go.Rex

namespace Go.Rex
open Go Go.Rex
noncomputable def energy_allWithin (v1 : (List Int)) (v2 : Int) (v3 : Int) : Option (Int) :=
  (energy_firstWrong_b2dc (v1.length : Int) v1 v2 v3).bind fun (v5, v6) =>
  (energy_unnumbered v5 v6).bind fun v7 =>
  some (v7)

end Go.Rex

namespace Go.Rex
open Go Go.Rex
noncomputable def energy_sumOf_l1 (v1 : (List Int)) : (Int × Int) → Option ((Int × Int) ⊕ ((Int))) := fun (v3, v4) =>
  if (decide (v4 < (v1.length : Int))) = true then
    ((getI v1 v4).bind fun v7 =>
    some (.inl ((IntKind.i64.wrap (v3 + v7)), (IntKind.i64.wrap (v4 + 1)))))
  else
    (some (.inr v3))
noncomputable def energy_sumOf (v1 : (List Int)) : Option (Int) :=
  (run (energy_sumOf_l1 v1) (0, 0)).bind fun v8 =>
  some (v8)

end Go.Rex

namespace Go.Rex
open Go Go.Rex
noncomputable def energy_unnumbered_c1_662c (v1 : Int) : Option (Int) :=
  some (v1)

end Go.Rex

namespace Go.Rex
open Go Go.Rex
noncomputable def energy_firstError_2863 (v1 : Bool) (v2 : Int) (v3 : Int) (v4 : Bool) (v5 : Int) (v6 : Bool) (v7 : Int) : Option (Int) :=
  (energy_refuse_c1_11f9 v1 v2).bind fun v9 =>
  if (decide (v9 ≠ 0)) = true then
    (some (v9))
  else
    ((energy_unnumbered_c1_662c v3).bind fun v10 =>
    if (decide (v10 ≠ 0)) = true then
      (some (v10))
    else
      ((energy_refuse_c1_11f9 v4 v5).bind fun v11 =>
      if (decide (v11 ≠ 0)) = true then
        (some (v11))
      else
        ((energy_refuse_c1_11f9 v6 v7).bind fun v12 =>
        if (decide (v12 ≠ 0)) = true then
          (some (v12))
        else
          (some (0)))))

end Go.Rex

namespace Go.Rex
open Go Go.Rex
noncomputable def energy_CheckExchange_c1_c586 (v1 : Int) (v2 : (List (List Int))) (v3 : (List Int)) (v4 : Int) : Option (Int) :=
  (getI v2 v1).bind fun v6 =>
  (energy_refuse (decide ((v6.length : Int) ≠ v4)) 10).bind fun (v7, v8) =>
  (energy_allWithin v6 0 1000).bind fun v9 =>
  (energy_sumOf v6).bind fun v10 =>
  (energy_refuse (decide (v10 ≠ 1000)) 21).bind fun (v11, v12) =>
  (getI v3 v1).bind fun v13 =>
  (energy_within v13 0 1000).bind fun (v14, v15) =>
  (energy_firstError_2863 v7 v8 v9 v11 v12 v14 v15).bind fun v16 =>
  some (v16)

end Go.Rex

namespace Go.Rex
open Go Go.Rex
noncomputable def energy_firstWrong_eb6f_l1 (v1 : Int) (v2 : (List (List Int))) (v3 : (List Int)) (v4 : Int) : (Int) → Option ((Int) ⊕ ((Int × Int) ⊕ (Unit))) := fun v7 =>
  if (decide (v7 < v1)) = true then
    ((energy_CheckExchange_c1_c586 v7 v2 v3 v4).bind fun v11 =>
    if (decide (v11 ≠ 0)) = true then
      (some (.inr (.inl (v7, v11))))
    else
      (some (.inl (IntKind.i64.wrap (v7 + 1)))))
  else
    (some (.inr (.inr ())))
noncomputable def energy_firstWrong_eb6f (v1 : Int) (v2 : (List (List Int))) (v3 : (List Int)) (v4 : Int) : Option (Int × Int) :=
  (run (energy_firstWrong_eb6f_l1 v1 v2 v3 v4) 0).bind fun v12 => match v12 with
  | (.inl (v13, v14)) =>
    some (v13, v14)
  | (.inr _) =>
    some (0, 0)

end Go.Rex

namespace Go.Rex
open Go Go.Rex
noncomputable def energy_CheckExchange (v1 : (List (List Int))) (v2 : (List Int)) : Option (Int × Int) :=
  (energy_refuse (decide ((v1.length : Int) = 0)) 10).bind fun (v5, v6) =>
  (energy_refuse (decide ((v1.length : Int) > 12)) 8).bind fun (v7, v8) =>
  (energy_refuse (decide ((v2.length : Int) ≠ (v1.length : Int))) 10).bind fun (v9, v10) =>
  (energy_firstError_b825 v5 v6 v7 v8 v9 v10).bind fun v11 =>
  if (decide (v11 ≠ 0)) = true then
    (some (0, v11))
  else
    ((energy_firstWrong_eb6f (v1.length : Int) v1 v2 (v1.length : Int)).bind fun (v12, v13) =>
    some (v12, v13))

end Go.Rex

namespace Go.Rex
open Go Go.Rex
noncomputable def energy_exchanged (v1 : (List (List Int))) (v2 : (List Int)) : Option (Int) :=
  (energy_CheckExchange v1 v2).bind fun (v4, v5) =>
  (energy_unnumbered v4 v5).bind fun v6 =>
  some (v6)

end Go.Rex

namespace Go.Rex
open Go Go.Rex
noncomputable def energy_stepped (v1 : Int) : Option (Bool × Int) :=
  (energy_within v1 0 1000).bind fun (v4, v5) =>
  some (v4, v5)

end Go.Rex

namespace Go.Rex
open Go Go.Rex
noncomputable def energy_firstError_f1be (v1 : Int) (v2 : Bool) (v3 : Int) (v4 : Bool) (v5 : Int) : Option (Int) :=
  (energy_unnumbered_c1_662c v1).bind fun v7 =>
  if (decide (v7 ≠ 0)) = true then
    (some (v7))
  else
    ((energy_refuse_c1_11f9 v2 v3).bind fun v8 =>
    if (decide (v8 ≠ 0)) = true then
      (some (v8))
    else
      ((energy_refuse_c1_11f9 v4 v5).bind fun v9 =>
      if (decide (v9 ≠ 0)) = true then
        (some (v9))
      else
        (some (0))))

end Go.Rex

namespace Go.Rex
open Go Go.Rex
noncomputable def slices_Min_int_int_l1 (v1 : (List Int)) : (Int × Int) → Option ((Int × Int) ⊕ ((Int))) := fun (v4, v5) =>
  if (decide (v5 < (v1.length : Int))) = true then
    ((getI v1 v5).bind fun v8 =>
    some (.inl ((if v8 < v4 then v8 else v4), (IntKind.i64.wrap (v5 + 1)))))
  else
    (some (.inr v4))
noncomputable def slices_Min_int_int (v1 : (List Int)) : Option (Int) :=
  if (decide ((v1.length : Int) < 1)) = true then
    (none)
  else
    ((getI v1 0).bind fun v3 =>
    (run (slices_Min_int_int_l1 v1) (v3, 1)).bind fun v9 =>
    some (v9))

end Go.Rex

namespace Go.Rex
open Go Go.Rex
noncomputable def slices_Max_int_int_l1 (v1 : (List Int)) : (Int × Int) → Option ((Int × Int) ⊕ ((Int))) := fun (v4, v5) =>
  if (decide (v5 < (v1.length : Int))) = true then
    ((getI v1 v5).bind fun v8 =>
    some (.inl ((if v8 > v4 then v8 else v4), (IntKind.i64.wrap (v5 + 1)))))
  else
    (some (.inr v4))
noncomputable def slices_Max_int_int (v1 : (List Int)) : Option (Int) :=
  if (decide ((v1.length : Int) < 1)) = true then
    (none)
  else
    ((getI v1 0).bind fun v3 =>
    (run (slices_Max_int_int_l1 v1) (v3, 1)).bind fun v9 =>
    some (v9))

end Go.Rex

namespace Go.Rex
open Go Go.Rex
noncomputable def energy_between (v1 : Int) (v2 : Int) : Option (Int × Int) :=
  some (v1, v2)

end Go.Rex

namespace Go.Rex
open Go Go.Rex
noncomputable def energy_exactly (v1 : Int) : Option (Int × Int) :=
  (energy_between v1 v1).bind fun (v4, v5) =>
  some (v4, v5)

end Go.Rex

namespace Go.Rex
open Go Go.Rex
noncomputable def energy_up (v1 : Int) (v2 : Int) : Option (Int) :=
  if v2 = 0 then none else
  (some ((IntKind.i64.wrap ((IntKind.i64.wrap ((IntKind.i64.wrap (v1 + v2)) - 1)).tdiv v2))))

end Go.Rex

namespace Go.Rex
open Go Go.Rex
noncomputable def energy_down (v1 : Int) (v2 : Int) : Option (Int) :=
  if v2 = 0 then none else
  (some ((IntKind.i64.wrap (v1.tdiv v2))))

end Go.Rex

namespace Go.Rex
open Go Go.Rex
noncomputable def energy_BoundOf_l1 (v2 : (List Int)) (v4 : Int) (v14 : Int) (v15 : Int) : (Int × Int × Int) → Option ((Int × Int × Int) ⊕ ((Int × Int))) := fun (v18, v19, v20) =>
  if (decide (v20 < v4)) = true then
    ((energy_up (IntKind.i64.wrap (v19 * v14)) 1000).bind fun v25 =>
    (energy_down (IntKind.i64.wrap (v18 * v15)) 1000).bind fun v26 =>
    some (.inl ((if 0 > (IntKind.i64.wrap ((IntKind.i64.wrap (v18 - v26)) - (v2.length : Int))) then 0 else (IntKind.i64.wrap ((IntKind.i64.wrap (v18 - v26)) - (v2.length : Int)))), (IntKind.i64.wrap (v19 - v25)), (IntKind.i64.wrap (v20 + 1)))))
  else
    (some (.inr (v18, v19)))
noncomputable def energy_BoundOf (v1 : (List (List Int))) (v2 : (List Int)) (v3 : Int) (v4 : Int) : Option (Int × Int × Int) :=
  (energy_exchanged v1 v2).bind fun v8 =>
  (energy_within v3 0 12000000000000).bind fun (v9, v10) =>
  (energy_stepped v4).bind fun (v11, v12) =>
  (energy_firstError_f1be v8 v9 v10 v11 v12).bind fun v13 =>
  if (decide (v13 ≠ 0)) = true then
    (some (0, 0, v13))
  else
    ((slices_Min_int_int v2).bind fun v14 =>
    (slices_Max_int_int v2).bind fun v15 =>
    (energy_exactly v3).bind fun (v16, v17) =>
    (run (energy_BoundOf_l1 v2 v4 v14 v15) (v16, v17, 0)).bind fun (v27, v28) =>
    some (v27, v28, 0))

end Go.Rex

namespace Go.Rex
open Go Go.Rex
noncomputable def base_Within (v1 : Int) (v2 : Int) (v3 : Int) : Option (Bool) :=
  if (decide (v2 ≤ v1)) = true then
    (some ((decide (v1 ≤ v3))))
  else
    (some (false))

end Go.Rex

namespace Go.Rex
open Go Go.Rex
noncomputable def ref03_CheckExchange_l2 (v1 : (List (List Int))) (v20 : (List Int)) : (Int × Int) → Option ((Int × Int) ⊕ ((Unit) ⊕ (Int))) := fun (v21, v22) =>
  if (decide (v22 < (v1.length : Int))) = true then
    ((getI v20 v22).bind fun v26 =>
    (base_Within v26 0 1000).bind fun v27 =>
    if v27 = true then
      (some (.inl ((IntKind.i64.wrap (v21 + v26)), (IntKind.i64.wrap (v22 + 1)))))
    else
      (some (.inr (.inl ()))))
  else
    (some (.inr (.inr v21)))
noncomputable def ref03_CheckExchange_l1 (v1 : (List (List Int))) (v2 : (List Int)) : (Int) → Option ((Int) ⊕ ((Int × Int) ⊕ (Unit))) := fun v5 =>
  if (decide (v5 < (v1.length : Int))) = true then
    ((getI v1 v5).bind fun v20 =>
    if (decide ((v20.length : Int) ≠ (v1.length : Int))) = true then
      (some (.inr (.inl (v5, 10))))
    else
      ((run (ref03_CheckExchange_l2 v1 v20) (0, 0)).bind fun v28 => match v28 with
      | (.inl _) =>
        some (.inr (.inl (v5, 2)))
      | (.inr v29) =>
        if (decide (v29 ≠ 1000)) = true then
          (some (.inr (.inl (v5, 21))))
        else
          ((getI v2 v5).bind fun v30 =>
          (base_Within v30 0 1000).bind fun v31 =>
          if v31 = true then
            (some (.inl (IntKind.i64.wrap (v5 + 1))))
          else
            (some (.inr (.inl (v5, 2)))))))
  else
    (some (.inr (.inr ())))
noncomputable def ref03_CheckExchange (v1 : (List (List Int))) (v2 : (List Int)) : Option (Int × Int) :=
  if (decide ((v1.length : Int) = 0)) = true then
    (some (0, 10))
  else
    (if (decide ((v1.length : Int) > 12)) = true then
      (some (0, 8))
    else
      (if (decide ((v2.length : Int) ≠ (v1.length : Int))) = true then
        (some (0, 10))
      else
        ((run (ref03_CheckExchange_l1 v1 v2) 0).bind fun v32 => match v32 with
        | (.inl (v33, v34)) =>
          some (v33, v34)
        | (.inr _) =>
          some (0, 0))))

end Go.Rex

namespace Go.Rex
open Go Go.Rex
noncomputable def ref03_StepsErr (v1 : Int) : Option (Int) :=
  (base_Within v1 0 1000).bind fun v3 =>
  if v3 = true then
    (some (0))
  else
    (some (2))

end Go.Rex

namespace Go.Rex
open Go Go.Rex
noncomputable def base_Floor (v1 : Int) (v2 : Int) : Option (Int) :=
  if v2 = 0 then none else
  (if (decide ((v1.tmod v2) < 0)) = true then
    (some ((IntKind.i64.wrap ((IntKind.i64.wrap (v1.tdiv v2)) - 1))))
  else
    (some ((IntKind.i64.wrap (v1.tdiv v2)))))

end Go.Rex

namespace Go.Rex
open Go Go.Rex
noncomputable def base_Ceil (v1 : Int) (v2 : Int) : Option (Int) :=
  (base_Floor (IntKind.i64.wrap (0 - v1)) v2).bind fun v4 =>
  some ((IntKind.i64.wrap (0 - v4)))

end Go.Rex

namespace Go.Rex
open Go Go.Rex
noncomputable def ref03_BoundOf_l1 (v2 : (List Int)) : (Int × Int × Int) → Option ((Int × Int × Int) ⊕ ((Int × Int))) := fun (v8, v9, v10) =>
  if (decide (v10 < (v2.length : Int))) = true then
    ((getI v2 v10).bind fun v14 =>
    some (.inl ((if v14 < v8 then v14 else v8), (if v14 > v9 then v14 else v9), (IntKind.i64.wrap (v10 + 1)))))
  else
    (some (.inr (v8, v9)))
noncomputable def ref03_BoundOf_l2 (v2 : (List Int)) (v4 : Int) (v15 : Int) (v16 : Int) : (Int × Int × Int) → Option ((Int × Int × Int) ⊕ ((Int × Int))) := fun (v17, v18, v19) =>
  if (decide (v19 < v4)) = true then
    ((base_Ceil (IntKind.i64.wrap (v18 * v15)) 1000).bind fun v24 =>
    (base_Floor (IntKind.i64.wrap (v17 * v16)) 1000).bind fun v25 =>
    some (.inl ((if (IntKind.i64.wrap ((IntKind.i64.wrap (v17 - v25)) - (v2.length : Int))) > 0 then (IntKind.i64.wrap ((IntKind.i64.wrap (v17 - v25)) - (v2.length : Int))) else 0), (IntKind.i64.wrap (v18 - v24)), (IntKind.i64.wrap (v19 + 1)))))
  else
    (some (.inr (v17, v18)))
noncomputable def ref03_BoundOf (v1 : (List (List Int))) (v2 : (List Int)) (v3 : Int) (v4 : Int) : Option (Int × Int) :=
  (getI v2 0).bind fun v7 =>
  (run (ref03_BoundOf_l1 v2) (v7, v7, 0)).bind fun (v15, v16) =>
  (run (ref03_BoundOf_l2 v2 v4 v15 v16) (v3, v3, 0)).bind fun (v26, v27) =>
  some (v26, v27)

end Go.Rex

namespace Go.Rex
open Go Go.Rex
noncomputable def ref03_EnergiesErr_l1 (v3 : (List Int)) : (Int) → Option ((Int) ⊕ ((Unit) ⊕ (Unit))) := fun v5 =>
  if (decide (v5 < (v3.length : Int))) = true then
    ((getI v3 v5).bind fun v8 =>
    (base_Within v8 0 1000000000000).bind fun v9 =>
    if v9 = true then
      (some (.inl (IntKind.i64.wrap (v5 + 1))))
    else
      (some (.inr (.inl ()))))
  else
    (some (.inr (.inr ())))
noncomputable def ref03_EnergiesErr (v1 : (List (List Int))) (v2 : (List Int)) (v3 : (List Int)) : Option (Int) :=
  if (decide ((v3.length : Int) ≠ (v1.length : Int))) = true then
    (some (10))
  else
    ((run (ref03_EnergiesErr_l1 v3) 0).bind fun v10 => match v10 with
    | (.inl _) =>
      some (2)
    | (.inr _) =>
      some (0))

end Go.Rex

namespace Go.Rex
open Go Go.Rex
noncomputable def ref03_Total_l1 (v1 : (List Int)) : (Int × Int) → Option ((Int × Int) ⊕ ((Int))) := fun (v3, v4) =>
  if (decide (v4 < (v1.length : Int))) = true then
    ((getI v1 v4).bind fun v7 =>
    some (.inl ((IntKind.i64.wrap (v3 + v7)), (IntKind.i64.wrap (v4 + 1)))))
  else
    (some (.inr v3))
noncomputable def ref03_Total (v1 : (List Int)) : Option (Int) :=
  (run (ref03_Total_l1 v1) (0, 0)).bind fun v8 =>
  some (v8)

end Go.Rex

namespace Go.Rex
open Go Go.Rex
noncomputable def energy_perPatch (v1 : (List (List Int))) (v2 : (List Int)) (v3 : (List Int)) (v4 : Int) (v5 : Int) : Option ((List Int) × (List (List Int)) × (List Int) × Int × Int) :=
  some (v3, v1, v2, v4, v5)

end Go.Rex

namespace Go.Rex
open Go Go.Rex
noncomputable def energy_energies (v1 : (List (List Int))) (v2 : (List Int)) (v3 : (List Int)) : Option ((List Int) × (List (List Int)) × (List Int) × Int × Int) :=
  (energy_perPatch v1 v2 v3 0 1000000000000).bind fun (v9, v10, v11, v12, v13) =>
  some (v9, v10, v11, v12, v13)

end Go.Rex

namespace Go.Rex
open Go Go.Rex
noncomputable def energy_firstError_fcdf (v1 : Bool) (v2 : Int) (v3 : Int) : Option (Int) :=
  (energy_refuse_c1_11f9 v1 v2).bind fun v5 =>
  if (decide (v5 ≠ 0)) = true then
    (some (v5))
  else
    ((energy_unnumbered_c1_662c v3).bind fun v6 =>
    if (decide (v6 ≠ 0)) = true then
      (some (v6))
    else
      (some (0)))

end Go.Rex

namespace Go.Rex
open Go Go.Rex
noncomputable def energy_perPatch_c1_e525 (v1 : (List Int)) (v2 : (List (List Int))) (v3 : (List Int)) (v4 : Int) (v5 : Int) : Option (Int) :=
  (energy_refuse (decide ((v1.length : Int) ≠ (v2.length : Int))) 10).bind fun (v7, v8) =>
  (energy_allWithin v1 v4 v5).bind fun v9 =>
  (energy_firstError_fcdf v7 v8 v9).bind fun v10 =>
  some (v10)

end Go.Rex

namespace Go.Rex
open Go Go.Rex
noncomputable def energy_firstError_7416 (v1 : Int) (v2 : (List Int)) (v3 : (List (List Int))) (v4 : (List Int)) (v5 : Int) (v6 : Int) (v7 : Bool) (v8 : Int) : Option (Int) :=
  (energy_unnumbered_c1_662c v1).bind fun v10 =>
  if (decide (v10 ≠ 0)) = true then
    (some (v10))
  else
    ((energy_perPatch_c1_e525 v2 v3 v4 v5 v6).bind fun v11 =>
    if (decide (v11 ≠ 0)) = true then
      (some (v11))
    else
      ((energy_refuse_c1_11f9 v7 v8).bind fun v12 =>
      if (decide (v12 ≠ 0)) = true then
        (some (v12))
      else
        (some (0))))

end Go.Rex

namespace Go.Rex
open Go Go.Rex
noncomputable def slices_Clone_int_int (v1 : (List Int)) : Option ((List Int)) :=
  nilq v1
    (some (([] : List Int)))
    ((appI 8 ([] : List Int) v1).bind fun v3 =>
    some (v3))

end Go.Rex

namespace Go.Rex
open Go Go.Rex
noncomputable def slices_Index_int_int_l1 (v1 : (List Int)) (v2 : Int) : (Int) → Option ((Int) ⊕ ((Int) ⊕ (Unit))) := fun v4 =>
  if (decide (v4 < (v1.length : Int))) = true then
    ((getI v1 v4).bind fun v7 =>
    if (decide (v2 = v7)) = true then
      (some (.inr (.inl v4)))
    else
      (some (.inl (IntKind.i64.wrap (v4 + 1)))))
  else
    (some (.inr (.inr ())))
noncomputable def slices_Index_int_int (v1 : (List Int)) (v2 : Int) : Option (Int) :=
  (run (slices_Index_int_int_l1 v1 v2) 0).bind fun v8 => match v8 with
  | (.inl v9) =>
    some (v9)
  | (.inr _) =>
    some ((-1))

end Go.Rex

namespace Go.Rex
open Go Go.Rex
noncomputable def energy_spread_9c9e_l1 (v2 : (List Int)) (v3 : Int) : ((List Int) × Int × Int) → Option (((List Int) × Int × Int) ⊕ (((List Int) × Int))) := fun (v5, v6, v7) =>
  if (decide (v7 < (v2.length : Int))) = true then
    ((getI v2 v7).bind fun v13 =>
    (energy_down (IntKind.i64.wrap (v3 * v13)) 1000).bind fun v14 =>
    (getI v5 v7).bind fun v15 =>
    some (.inl ((v5.set v7.toNat (IntKind.i64.wrap (v15 + v14))), (IntKind.i64.wrap (v6 - v14)), (IntKind.i64.wrap (v7 + 1)))))
  else
    (some (.inr (v5, v6)))
noncomputable def energy_spread_9c9e (v1 : (List Int)) (v2 : (List Int)) (v3 : Int) : Option ((List Int)) :=
  (run (energy_spread_9c9e_l1 v2 v3) (v1, v3, 0)).bind fun (v16, v17) =>
  (slices_Max_int_int v2).bind fun v18 =>
  (slices_Index_int_int v2 v18).bind fun v19 =>
  (getI v16 v19).bind fun v20 =>
  some ((v16.set v19.toNat (IntKind.i64.wrap (v20 + v17))))

end Go.Rex

namespace Go.Rex
open Go Go.Rex
noncomputable def energy_stepFrom_l1 (v1 : (List (List Int))) (v2 : (List Int)) (v3 : (List Int)) : ((List Int) × Int × Int) → Option (((List Int) × Int × Int) ⊕ (((List Int) × Int))) := fun (v7, v8, v9) =>
  if (decide (v9 < (v3.length : Int))) = true then
    ((getI v3 v9).bind fun v17 =>
    (getI v2 v9).bind fun v18 =>
    (energy_up (IntKind.i64.wrap (v17 * v18)) 1000).bind fun v19 =>
    (getI v1 v9).bind fun v20 =>
    (energy_spread_9c9e v7 v20 (IntKind.i64.wrap (v17 - v19))).bind fun v21 =>
    some (.inl ((lenAs v7 v21), (IntKind.i64.wrap (v8 + v19)), (IntKind.i64.wrap (v9 + 1)))))
  else
    (some (.inr (v7, v8)))
noncomputable def energy_stepFrom (v1 : (List (List Int))) (v2 : (List Int)) (v3 : (List Int)) : Option ((List Int) × Int) :=
  (mkI 8 (v3.length : Int) (0 : Int)).bind fun v6 =>
  (run (energy_stepFrom_l1 v1 v2 v3) (v6, 0, 0)).bind fun (v22, v23) =>
  some (v22, v23)

end Go.Rex

namespace Go.Rex
open Go Go.Rex
noncomputable def energy_Run_l1 (v1 : (List (List Int))) (v2 : (List Int)) (v4 : Int) : ((List Int) × Int × Int) → Option (((List Int) × Int × Int) ⊕ (((List Int) × Int))) := fun (v18, v19, v20) =>
  if (decide (v20 < v4)) = true then
    ((energy_stepFrom v1 v2 v18).bind fun (v25, v26) =>
    some (.inl (v25, (IntKind.i64.wrap (v19 + v26)), (IntKind.i64.wrap (v20 + 1)))))
  else
    (some (.inr (v18, v19)))
noncomputable def energy_Run (v1 : (List (List Int))) (v2 : (List Int)) (v3 : (List Int)) (v4 : Int) : Option ((List Int) × Int × Int) :=
  (energy_exchanged v1 v2).bind fun v8 =>
  (energy_energies v1 v2 v3).bind fun (v9, v10, v11, v12, v13) =>
  (energy_stepped v4).bind fun (v14, v15) =>
  (energy_firstError_7416 v8 v9 v10 v11 v12 v13 v14 v15).bind fun v16 =>
  if (decide (v16 ≠ 0)) = true then
    (some (([] : List Int), 0, v16))
  else
    ((slices_Clone_int_int v3).bind fun v17 =>
    (run (energy_Run_l1 v1 v2 v4) (v17, 0, 0)).bind fun (v27, v28) =>
    some (v27, v28, 0))

end Go.Rex

namespace Go.Rex
open Go Go.Rex
noncomputable def law03_EnergyBounded (v1 : (List (List Int))) (v2 : (List Int)) (v3 : (List Int)) (v4 : Int) (v5 : Int) : Option Bool :=
  (law03_patches v1 v2 v3).bind fun v7 =>
  if v7 = true then
    (if (decide (v5 > 20)) = true then
      (if (decide (v5 ≤ 1000)) = true then
        (some (true))
      else
        ((ref03_CopyExchange v1 v2).bind fun (v8, v9) =>
        (energy_BoundOf v8 v9 v4 v5).bind fun (v10, v11, v12) =>
        (ref03_CheckExchange v1 v2).bind fun (v13, v14) =>
        if (decide (v14 = 0)) = true then
          ((base_Within v4 0 12000000000000).bind fun v15 =>
          if v15 = true then
            ((ref03_StepsErr v5).bind fun v16 =>
            if (decide (v16 ≠ 0)) = true then
              (if (decide (v12 = v16)) = true then
                (some (([v10 == 0, v11 == 0].all id)))
              else
                (some (false)))
            else
              (if (decide (v12 ≠ 0)) = true then
                (some (false))
              else
                ((ref03_BoundOf v1 v2 v4 v5).bind fun (v17, v18) =>
                if ([v10 == v17, v11 == v18].all id) = true then
                  ((ref03_EnergiesErr v1 v2 v3).bind fun v19 =>
                  if (decide (v19 ≠ 0)) = true then
                    (some (true))
                  else
                    ((ref03_CopyExchange v1 v2).bind fun (v20, v21) =>
                    (ref03_Total v3).bind fun v22 =>
                    (energy_BoundOf v20 v21 v22 v5).bind fun (v23, v24, v25) =>
                    (ref03_CopyExchange v1 v2).bind fun (v26, v27) =>
                    (base_CopyInts v3).bind fun v28 =>
                    (energy_Run v26 v27 v28 v5).bind fun (v29, v30, v31) =>
                    if (decide (v25 = 0)) = true then
                      (if (decide (v31 = 0)) = true then
                        ((ref03_Total v29).bind fun v32 =>
                        (base_Within v32 v23 v24).bind fun v33 =>
                        some (v33))
                      else
                        (some (false)))
                    else
                      (some (false))))
                else
                  (some (false)))))
          else
            (if (decide (v12 = 2)) = true then
              (some (([v10 == 0, v11 == 0].all id)))
            else
              (some (false))))
        else
          (if (decide (v14 ≠ 0)) = true then
            (if (decide (v12 = v14)) = true then
              (some (([v10 == 0, v11 == 0].all id)))
            else
              (some (false)))
          else
            (if (decide (v12 ≠ 0)) = true then
              (some (false))
            else
              ((ref03_BoundOf v1 v2 v4 v5).bind fun (v34, v35) =>
              if ([v10 == v34, v11 == v35].all id) = true then
                ((ref03_EnergiesErr v1 v2 v3).bind fun v36 =>
                if (decide (v36 ≠ 0)) = true then
                  (some (true))
                else
                  ((ref03_CopyExchange v1 v2).bind fun (v37, v38) =>
                  (ref03_Total v3).bind fun v39 =>
                  (energy_BoundOf v37 v38 v39 v5).bind fun (v40, v41, v42) =>
                  (ref03_CopyExchange v1 v2).bind fun (v43, v44) =>
                  (base_CopyInts v3).bind fun v45 =>
                  (energy_Run v43 v44 v45 v5).bind fun (v46, v47, v48) =>
                  if (decide (v42 = 0)) = true then
                    (if (decide (v48 = 0)) = true then
                      ((ref03_Total v46).bind fun v49 =>
                      (base_Within v49 v40 v41).bind fun v50 =>
                      some (v50))
                    else
                      (some (false)))
                  else
                    (some (false))))
              else
                (some (false)))))))
    else
      ((ref03_CopyExchange v1 v2).bind fun (v51, v52) =>
      (energy_BoundOf v51 v52 v4 v5).bind fun (v53, v54, v55) =>
      (ref03_CheckExchange v1 v2).bind fun (v56, v57) =>
      if (decide (v57 = 0)) = true then
        ((base_Within v4 0 12000000000000).bind fun v58 =>
        if v58 = true then
          ((ref03_StepsErr v5).bind fun v59 =>
          if (decide (v59 ≠ 0)) = true then
            (if (decide (v55 = v59)) = true then
              (some (([v53 == 0, v54 == 0].all id)))
            else
              (some (false)))
          else
            (if (decide (v55 ≠ 0)) = true then
              (some (false))
            else
              ((ref03_BoundOf v1 v2 v4 v5).bind fun (v60, v61) =>
              if ([v53 == v60, v54 == v61].all id) = true then
                ((ref03_EnergiesErr v1 v2 v3).bind fun v62 =>
                if (decide (v62 ≠ 0)) = true then
                  (some (true))
                else
                  ((ref03_CopyExchange v1 v2).bind fun (v63, v64) =>
                  (ref03_Total v3).bind fun v65 =>
                  (energy_BoundOf v63 v64 v65 v5).bind fun (v66, v67, v68) =>
                  (ref03_CopyExchange v1 v2).bind fun (v69, v70) =>
                  (base_CopyInts v3).bind fun v71 =>
                  (energy_Run v69 v70 v71 v5).bind fun (v72, v73, v74) =>
                  if (decide (v68 = 0)) = true then
                    (if (decide (v74 = 0)) = true then
                      ((ref03_Total v72).bind fun v75 =>
                      (base_Within v75 v66 v67).bind fun v76 =>
                      some (v76))
                    else
                      (some (false)))
                  else
                    (some (false))))
              else
                (some (false)))))
        else
          (if (decide (v55 = 2)) = true then
            (some (([v53 == 0, v54 == 0].all id)))
          else
            (some (false))))
      else
        (if (decide (v57 ≠ 0)) = true then
          (if (decide (v55 = v57)) = true then
            (some (([v53 == 0, v54 == 0].all id)))
          else
            (some (false)))
        else
          (if (decide (v55 ≠ 0)) = true then
            (some (false))
          else
            ((ref03_BoundOf v1 v2 v4 v5).bind fun (v77, v78) =>
            if ([v53 == v77, v54 == v78].all id) = true then
              ((ref03_EnergiesErr v1 v2 v3).bind fun v79 =>
              if (decide (v79 ≠ 0)) = true then
                (some (true))
              else
                ((ref03_CopyExchange v1 v2).bind fun (v80, v81) =>
                (ref03_Total v3).bind fun v82 =>
                (energy_BoundOf v80 v81 v82 v5).bind fun (v83, v84, v85) =>
                (ref03_CopyExchange v1 v2).bind fun (v86, v87) =>
                (base_CopyInts v3).bind fun v88 =>
                (energy_Run v86 v87 v88 v5).bind fun (v89, v90, v91) =>
                if (decide (v85 = 0)) = true then
                  (if (decide (v91 = 0)) = true then
                    ((ref03_Total v89).bind fun v92 =>
                    (base_Within v92 v83 v84).bind fun v93 =>
                    some (v93))
                  else
                    (some (false)))
                else
                  (some (false))))
            else
              (some (false)))))))
  else
    (some (true))

end Go.Rex

namespace Go.Rex
open Go Go.Rex
noncomputable def law03_exchangeErr (v1 : (List (List Int))) (v2 : (List Int)) (v3 : (List Int)) : Option (Int) :=
  (ref03_CheckExchange v1 v2).bind fun (v5, v6) =>
  if (decide (v6 ≠ 0)) = true then
    (some (v6))
  else
    ((ref03_EnergiesErr v1 v2 v3).bind fun v7 =>
    some (v7))

end Go.Rex

namespace Go.Rex
open Go Go.Rex
noncomputable def base_Ints_l1 (v1 : (List Int)) (v2 : (List Int)) : (Int) → Option ((Int) ⊕ ((Unit) ⊕ (Unit))) := fun v4 =>
  if (decide (v4 < (v1.length : Int))) = true then
    ((getI v1 v4).bind fun v7 =>
    (getI v2 v4).bind fun v8 =>
    if (decide (v7 ≠ v8)) = true then
      (some (.inr (.inl ())))
    else
      (some (.inl (IntKind.i64.wrap (v4 + 1)))))
  else
    (some (.inr (.inr ())))
noncomputable def base_Ints (v1 : (List Int)) (v2 : (List Int)) : Option (Bool) :=
  if (decide ((v1.length : Int) ≠ (v2.length : Int))) = true then
    (some (false))
  else
    ((run (base_Ints_l1 v1 v2) 0).bind fun v9 => match v9 with
    | (.inl _) =>
      some (false)
    | (.inr _) =>
      some (true))

end Go.Rex
