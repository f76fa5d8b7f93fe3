/- The functions of the program and of the reference, as functions of lists and numbers. -/
import Derived.Test.YtnjbkoobeobfiaaGreatRexG9
set_option linter.unusedSimpArgs false
set_option linter.unusedVariables false
set_option linter.defProp false
namespace Go.Rex
open Go Go.Rex
def e_i (x : Int) : List TV := [.v (.int .i64 x)]
def e_Li_ (x : (List Int)) : List TV := [.list 1 (x.map e_i)]

end Go.Rex

namespace Go.Rex
open Go Go.Rex
noncomputable def law03_patches_l1 (v1 : (List (List Int))) : (Int) → Option ((Int) ⊕ ((Unit) ⊕ (Unit))) := fun v5 =>
  if (decide (v5 < (v1.length : Int))) = true then
    ((getI v1 v5).bind fun v7 =>
    if (decide ((v7.length : Int) > 16)) = true then
      (some (.inr (.inl ())))
    else
      (some (.inl (IntKind.i64.wrap (v5 + 1)))))
  else
    (some (.inr (.inr ())))
noncomputable def law03_patches_l2 (v1 : (List (List Int))) : (Int) → Option ((Int) ⊕ ((Unit) ⊕ (Unit))) := fun v9 =>
  if (decide (v9 < (v1.length : Int))) = true then
    ((getI v1 v9).bind fun v11 =>
    if (decide ((v11.length : Int) > 16)) = true then
      (some (.inr (.inl ())))
    else
      (some (.inl (IntKind.i64.wrap (v9 + 1)))))
  else
    (some (.inr (.inr ())))
noncomputable def law03_patches (v1 : (List (List Int))) (v2 : (List Int)) (v3 : (List Int)) : Option (Bool) :=
  if (decide ((v1.length : Int) > 5)) = true then
    (if (decide ((v1.length : Int) ≤ 12)) = true then
      (some (false))
    else
      (if (decide ((v1.length : Int) > 14)) = true then
        (some (false))
      else
        (if (decide ((v2.length : Int) > 16)) = true then
          (some (false))
        else
          (if (decide ((v3.length : Int) > 16)) = true then
            (some (false))
          else
            ((run (law03_patches_l1 v1) 0).bind fun v8 => match v8 with
            | (.inl _) =>
              some (false)
            | (.inr _) =>
              some (true))))))
  else
    (if (decide ((v1.length : Int) > 14)) = true then
      (some (false))
    else
      (if (decide ((v2.length : Int) > 16)) = true then
        (some (false))
      else
        (if (decide ((v3.length : Int) > 16)) = true then
          (some (false))
        else
          ((run (law03_patches_l2 v1) 0).bind fun v12 => match v12 with
          | (.inl _) =>
            some (false)
          | (.inr _) =>
            some (true)))))

end Go.Rex

namespace Go.Rex
open Go Go.Rex
noncomputable def base_CopyInts (v1 : (List Int)) : Option ((List Int)) :=
  (appI 8 ([] : List Int) v1).bind fun v3 =>
  some (v3)

end Go.Rex

namespace Go.Rex
open Go Go.Rex
noncomputable def base_CopyLists_l1 (v1 : (List (List Int))) : ((List (List Int)) × Int) → Option (((List (List Int)) × Int) ⊕ (((List (List Int))))) := fun (v3, v4) =>
  if (decide (v4 < (v1.length : Int))) = true then
    ((getI v1 v4).bind fun v9 =>
    (base_CopyInts v9).bind fun v10 =>
    (appI 24 v3 ([v10] : List (List Int))).bind fun v11 =>
    some (.inl (v11, (IntKind.i64.wrap (v4 + 1)))))
  else
    (some (.inr v3))
noncomputable def base_CopyLists (v1 : (List (List Int))) : Option ((List (List Int))) :=
  (run (base_CopyLists_l1 v1) (([] : List (List Int)), 0)).bind fun v12 =>
  some (v12)

end Go.Rex

namespace Go.Rex
open Go Go.Rex
noncomputable def ref03_CopyExchange (v1 : (List (List Int))) (v2 : (List Int)) : Option ((List (List Int)) × (List Int)) :=
  (base_CopyLists v1).bind fun v5 =>
  (base_CopyInts v2).bind fun v6 =>
  some (v5, v6)

end Go.Rex

namespace Go.Rex
open Go Go.Rex
noncomputable def energy_refuse (v1 : Bool) (v2 : Int) : Option (Bool × Int) :=
  some (v1, v2)

end Go.Rex

namespace Go.Rex
open Go Go.Rex
noncomputable def energy_refuse_c1_11f9 (v1 : Bool) (v2 : Int) : Option (Int) :=
  if v1 = true then
    (some (v2))
  else
    (some (0))

end Go.Rex

namespace Go.Rex
open Go Go.Rex
noncomputable def energy_firstError_b825 (v1 : Bool) (v2 : Int) (v3 : Bool) (v4 : Int) (v5 : Bool) (v6 : Int) : Option (Int) :=
  (energy_refuse_c1_11f9 v1 v2).bind fun v8 =>
  if (decide (v8 ≠ 0)) = true then
    (some (v8))
  else
    ((energy_refuse_c1_11f9 v3 v4).bind fun v9 =>
    if (decide (v9 ≠ 0)) = true then
      (some (v9))
    else
      ((energy_refuse_c1_11f9 v5 v6).bind fun v10 =>
      if (decide (v10 ≠ 0)) = true then
        (some (v10))
      else
        (some (0))))

end Go.Rex

namespace Go.Rex
open Go Go.Rex
noncomputable def energy_within (v1 : Int) (v2 : Int) (v3 : Int) : Option (Bool × Int) :=
  if (decide (v1 < v2)) = true then
    ((energy_refuse true 2).bind fun (v6, v7) =>
    some (v6, v7))
  else
    ((energy_refuse (decide (v1 > v3)) 2).bind fun (v8, v9) =>
    some (v8, v9))

end Go.Rex

namespace Go.Rex
open Go Go.Rex
noncomputable def energy_allWithin_c1_ea58 (v1 : Int) (v2 : (List Int)) (v3 : Int) (v4 : Int) : Option (Int) :=
  (getI v2 v1).bind fun v6 =>
  (energy_within v6 v3 v4).bind fun (v7, v8) =>
  (energy_refuse_c1_11f9 v7 v8).bind fun v9 =>
  some (v9)

end Go.Rex

namespace Go.Rex
open Go Go.Rex
noncomputable def energy_firstWrong_b2dc_l1 (v1 : Int) (v2 : (List Int)) (v3 : Int) (v4 : Int) : (Int) → Option ((Int) ⊕ ((Int × Int) ⊕ (Unit))) := fun v7 =>
  if (decide (v7 < v1)) = true then
    ((energy_allWithin_c1_ea58 v7 v2 v3 v4).bind fun v11 =>
    if (decide (v11 ≠ 0)) = true then
      (some (.inr (.inl (v7, v11))))
    else
      (some (.inl (IntKind.i64.wrap (v7 + 1)))))
  else
    (some (.inr (.inr ())))
noncomputable def energy_firstWrong_b2dc (v1 : Int) (v2 : (List Int)) (v3 : Int) (v4 : Int) : Option (Int × Int) :=
  (run (energy_firstWrong_b2dc_l1 v1 v2 v3 v4) 0).bind fun v12 => match v12 with
  | (.inl (v13, v14)) =>
    some (v13, v14)
  | (.inr _) =>
    some (0, 0)

end Go.Rex

namespace Go.Rex
open Go Go.Rex
noncomputable def energy_unnumbered (v1 : Int) (v2 : Int) : Option (Int) :=
  some (v2)

end Go.Rex

namespace Go.Rex
open Go Go.Rex
noncomputable def energy_allWithin (v1 : (List Int)) (v2 : Int) (v3 : Int) : Option (Int) :=
  (energy_firstWrong_b2dc (v1.length : Int) v1 v2 v3).bind fun (v5, v6) =>
  (energy_unnumbered v5 v6).bind fun v7 =>
  some (v7)

end Go.Rex

namespace Go.Rex
open Go Go.Rex
noncomputable def energy_sumOf_l1 (v1 : (List Int)) : (Int × Int) → Option ((Int × Int) ⊕ ((Int))) := fun (v3, v4) =>
  if (decide (v4 < (v1.length : Int))) = true then
    ((getI v1 v4).bind fun v7 =>
    some (.inl ((IntKind.i64.wrap (v3 + v7)), (IntKind.i64.wrap (v4 + 1)))))
  else
    (some (.inr v3))
noncomputable def energy_sumOf (v1 : (List Int)) : Option (Int) :=
  (run (energy_sumOf_l1 v1) (0, 0)).bind fun v8 =>
  some (v8)

end Go.Rex

namespace Go.Rex
open Go Go.Rex
noncomputable def energy_unnumbered_c1_662c (v1 : Int) : Option (Int) :=
  some (v1)

end Go.Rex

namespace Go.Rex
open Go Go.Rex
noncomputable def energy_firstError_2863 (v1 : Bool) (v2 : Int) (v3 : Int) (v4 : Bool) (v5 : Int) (v6 : Bool) (v7 : Int) : Option (Int) :=
  (energy_refuse_c1_11f9 v1 v2).bind fun v9 =>
  if (decide (v9 ≠ 0)) = true then
    (some (v9))
  else
    ((energy_unnumbered_c1_662c v3).bind fun v10 =>
    if (decide (v10 ≠ 0)) = true then
      (some (v10))
    else
      ((energy_refuse_c1_11f9 v4 v5).bind fun v11 =>
      if (decide (v11 ≠ 0)) = true then
        (some (v11))
      else
        ((energy_refuse_c1_11f9 v6 v7).bind fun v12 =>
        if (decide (v12 ≠ 0)) = true then
          (some (v12))
        else
          (some (0)))))

end Go.Rex

namespace Go.Rex
open Go Go.Rex
noncomputable def energy_CheckExchange_c1_c586 (v1 : Int) (v2 : (List (List Int))) (v3 : (List Int)) (v4 : Int) : Option (Int) :=
  (getI v2 v1).bind fun v6 =>
  (energy_refuse (decide ((v6.length : Int) ≠ v4)) 10).bind fun (v7, v8) =>
  (energy_allWithin v6 0 1000).bind fun v9 =>
  (energy_sumOf v6).bind fun v10 =>
  (energy_refuse (decide (v10 ≠ 1000)) 21).bind fun (v11, v12) =>
  (getI v3 v1).bind fun v13 =>
  (energy_within v13 0 1000).bind fun (v14, v15) =>
  (energy_firstError_2863 v7 v8 v9 v11 v12 v14 v15).bind fun v16 =>
  some (v16)

end Go.Rex

namespace Go.Rex
open Go Go.Rex
noncomputable def energy_firstWrong_eb6f_l1 (v1 : Int) (v2 : (List (List Int))) (v3 : (List Int)) (v4 : Int) : (Int) → Option ((Int) ⊕ ((Int × Int) ⊕ (Unit))) := fun v7 =>
  if (decide (v7 < v1)) = true then
    ((energy_CheckExchange_c1_c586 v7 v2 v3 v4).bind fun v11 =>
    if (decide (v11 ≠ 0)) = true then
      (some (.inr (.inl (v7, v11))))
    else
      (some (.inl (IntKind.i64.wrap (v7 + 1)))))
  else
    (some (.inr (.inr ())))
noncomputable def energy_firstWrong_eb6f (v1 : Int) (v2 : (List (List Int))) (v3 : (List Int)) (v4 : Int) : Option (Int × Int) :=
  (run (energy_firstWrong_eb6f_l1 v1 v2 v3 v4) 0).bind fun v12 => match v12 with
  | (.inl (v13, v14)) =>
    some (v13, v14)
  | (.inr _) =>
    some (0, 0)

end Go.Rex

namespace Go.Rex
open Go Go.Rex
noncomputable def energy_CheckExchange (v1 : (List (List Int))) (v2 : (List Int)) : Option (Int × Int) :=
  (energy_refuse (decide ((v1.length : Int) = 0)) 10).bind fun (v5, v6) =>
  (energy_refuse (decide ((v1.length : Int) > 12)) 8).bind fun (v7, v8) =>
  (energy_refuse (decide ((v2.length : Int) ≠ (v1.length : Int))) 10).bind fun (v9, v10) =>
  (energy_firstError_b825 v5 v6 v7 v8 v9 v10).bind fun v11 =>
  if (decide (v11 ≠ 0)) = true then
    (some (0, v11))
  else
    ((energy_firstWrong_eb6f (v1.length : Int) v1 v2 (v1.length : Int)).bind fun (v12, v13) =>
    some (v12, v13))

end Go.Rex

namespace Go.Rex
open Go Go.Rex
noncomputable def energy_exchanged (v1 : (List (List Int))) (v2 : (List Int)) : Option (Int) :=
  (energy_CheckExchange v1 v2).bind fun (v4, v5) =>
  (energy_unnumbered v4 v5).bind fun v6 =>
  some (v6)

end Go.Rex

namespace Go.Rex
open Go Go.Rex
noncomputable def energy_perPatch (v1 : (List (List Int))) (v2 : (List Int)) (v3 : (List Int)) (v4 : Int) (v5 : Int) : Option ((List Int) × (List (List Int)) × (List Int) × Int × Int) :=
  some (v3, v1, v2, v4, v5)

end Go.Rex

namespace Go.Rex
open Go Go.Rex
noncomputable def energy_firstError_fcdf (v1 : Bool) (v2 : Int) (v3 : Int) : Option (Int) :=
  (energy_refuse_c1_11f9 v1 v2).bind fun v5 =>
  if (decide (v5 ≠ 0)) = true then
    (some (v5))
  else
    ((energy_unnumbered_c1_662c v3).bind fun v6 =>
    if (decide (v6 ≠ 0)) = true then
      (some (v6))
    else
      (some (0)))

end Go.Rex

namespace Go.Rex
open Go Go.Rex
noncomputable def energy_perPatch_c1_e525 (v1 : (List Int)) (v2 : (List (List Int))) (v3 : (List Int)) (v4 : Int) (v5 : Int) : Option (Int) :=
  (energy_refuse (decide ((v1.length : Int) ≠ (v2.length : Int))) 10).bind fun (v7, v8) =>
  (energy_allWithin v1 v4 v5).bind fun v9 =>
  (energy_firstError_fcdf v7 v8 v9).bind fun v10 =>
  some (v10)

end Go.Rex

namespace Go.Rex
open Go Go.Rex
noncomputable def energy_firstError_32ac (v1 : Int) (v2 : (List Int)) (v3 : (List (List Int))) (v4 : (List Int)) (v5 : Int) (v6 : Int) : Option (Int) :=
  (energy_unnumbered_c1_662c v1).bind fun v8 =>
  if (decide (v8 ≠ 0)) = true then
    (some (v8))
  else
    ((energy_perPatch_c1_e525 v2 v3 v4 v5 v6).bind fun v9 =>
    if (decide (v9 ≠ 0)) = true then
      (some (v9))
    else
      (some (0)))

end Go.Rex

namespace Go.Rex
open Go Go.Rex
noncomputable def energy_IsReciprocal_l2 (v1 : (List (List Int))) (v3 : (List Int)) (v13 : Int) (v27 : (List Int)) : (Int) → Option ((Int) ⊕ ((Unit) ⊕ (Unit))) := fun v28 =>
  if (decide (v28 < (v27.length : Int))) = true then
    ((getI v27 v28).bind fun v34 =>
    (getI v3 v13).bind fun v35 =>
    (getI v3 v28).bind fun v36 =>
    (getI v1 v28).bind fun v37 =>
    (getI v37 v13).bind fun v38 =>
    if (decide ((IntKind.i64.wrap (v35 * v34)) ≠ (IntKind.i64.wrap (v36 * v38)))) = true then
      (some (.inr (.inl ())))
    else
      (some (.inl (IntKind.i64.wrap (v28 + 1)))))
  else
    (some (.inr (.inr ())))
noncomputable def energy_IsReciprocal_l1 (v1 : (List (List Int))) (v3 : (List Int)) : (Int) → Option ((Int) ⊕ ((Unit) ⊕ (Unit))) := fun v13 =>
  if (decide (v13 < (v1.length : Int))) = true then
    ((getI v1 v13).bind fun v27 =>
    (run (energy_IsReciprocal_l2 v1 v3 v13 v27) 0).bind fun v39 => match v39 with
    | (.inl _) =>
      some (.inr (.inl ()))
    | (.inr _) =>
      some (.inl (IntKind.i64.wrap (v13 + 1))))
  else
    (some (.inr (.inr ())))
noncomputable def energy_IsReciprocal (v1 : (List (List Int))) (v2 : (List Int)) (v3 : (List Int)) : Option (Bool × Int) :=
  (energy_exchanged v1 v2).bind fun v6 =>
  (energy_perPatch v1 v2 v3 1 1000000000).bind fun (v7, v8, v9, v10, v11) =>
  (energy_firstError_32ac v6 v7 v8 v9 v10 v11).bind fun v12 =>
  if (decide (v12 ≠ 0)) = true then
    (some (false, v12))
  else
    ((run (energy_IsReciprocal_l1 v1 v3) 0).bind fun v40 => match v40 with
    | (.inl _) =>
      some (false, 0)
    | (.inr _) =>
      some (true, 0))

end Go.Rex

namespace Go.Rex
open Go Go.Rex
noncomputable def base_Within (v1 : Int) (v2 : Int) (v3 : Int) : Option (Bool) :=
  if (decide (v2 ≤ v1)) = true then
    (some ((decide (v1 ≤ v3))))
  else
    (some (false))

end Go.Rex

namespace Go.Rex
open Go Go.Rex
noncomputable def ref03_CheckExchange_l2 (v1 : (List (List Int))) (v20 : (List Int)) : (Int × Int) → Option ((Int × Int) ⊕ ((Unit) ⊕ (Int))) := fun (v21, v22) =>
  if (decide (v22 < (v1.length : Int))) = true then
    ((getI v20 v22).bind fun v26 =>
    (base_Within v26 0 1000).bind fun v27 =>
    if v27 = true then
      (some (.inl ((IntKind.i64.wrap (v21 + v26)), (IntKind.i64.wrap (v22 + 1)))))
    else
      (some (.inr (.inl ()))))
  else
    (some (.inr (.inr v21)))
noncomputable def ref03_CheckExchange_l1 (v1 : (List (List Int))) (v2 : (List Int)) : (Int) → Option ((Int) ⊕ ((Int × Int) ⊕ (Unit))) := fun v5 =>
  if (decide (v5 < (v1.length : Int))) = true then
    ((getI v1 v5).bind fun v20 =>
    if (decide ((v20.length : Int) ≠ (v1.length : Int))) = true then
      (some (.inr (.inl (v5, 10))))
    else
      ((run (ref03_CheckExchange_l2 v1 v20) (0, 0)).bind fun v28 => match v28 with
      | (.inl _) =>
        some (.inr (.inl (v5, 2)))
      | (.inr v29) =>
        if (decide (v29 ≠ 1000)) = true then
          (some (.inr (.inl (v5, 21))))
        else
          ((getI v2 v5).bind fun v30 =>
          (base_Within v30 0 1000).bind fun v31 =>
          if v31 = true then
            (some (.inl (IntKind.i64.wrap (v5 + 1))))
          else
            (some (.inr (.inl (v5, 2)))))))
  else
    (some (.inr (.inr ())))
noncomputable def ref03_CheckExchange (v1 : (List (List Int))) (v2 : (List Int)) : Option (Int × Int) :=
  if (decide ((v1.length : Int) = 0)) = true then
    (some (0, 10))
  else
    (if (decide ((v1.length : Int) > 12)) = true then
      (some (0, 8))
    else
      (if (decide ((v2.length : Int) ≠ (v1.length : Int))) = true then
        (some (0, 10))
      else
        ((run (ref03_CheckExchange_l1 v1 v2) 0).bind fun v32 => match v32 with
        | (.inl (v33, v34)) =>
          some (v33, v34)
        | (.inr _) =>
          some (0, 0))))

end Go.Rex

namespace Go.Rex
open Go Go.Rex
noncomputable def ref03_AreasErr_l1 (v3 : (List Int)) : (Int) → Option ((Int) ⊕ ((Unit) ⊕ (Unit))) := fun v5 =>
  if (decide (v5 < (v3.length : Int))) = true then
    ((getI v3 v5).bind fun v8 =>
    (base_Within v8 1 1000000000).bind fun v9 =>
    if v9 = true then
      (some (.inl (IntKind.i64.wrap (v5 + 1))))
    else
      (some (.inr (.inl ()))))
  else
    (some (.inr (.inr ())))
noncomputable def ref03_AreasErr (v1 : (List (List Int))) (v2 : (List Int)) (v3 : (List Int)) : Option (Int) :=
  if (decide ((v3.length : Int) ≠ (v1.length : Int))) = true then
    (some (10))
  else
    ((run (ref03_AreasErr_l1 v3) 0).bind fun v10 => match v10 with
    | (.inl _) =>
      some (2)
    | (.inr _) =>
      some (0))

end Go.Rex

namespace Go.Rex
open Go Go.Rex
noncomputable def ref03_IsReciprocal_l2 (v1 : (List (List Int))) (v3 : (List Int)) (v5 : Int) : (Int) → Option ((Int) ⊕ ((Unit) ⊕ (Unit))) := fun v20 =>
  if (decide (v20 < (v3.length : Int))) = true then
    ((getI v3 v5).bind fun v27 =>
    (getI v1 v5).bind fun v28 =>
    (getI v28 v20).bind fun v29 =>
    (getI v3 v20).bind fun v30 =>
    (getI v1 v20).bind fun v31 =>
    (getI v31 v5).bind fun v32 =>
    if (decide ((IntKind.i64.wrap (v27 * v29)) ≠ (IntKind.i64.wrap (v30 * v32)))) = true then
      (some (.inr (.inl ())))
    else
      (some (.inl (IntKind.i64.wrap (v20 + 1)))))
  else
    (some (.inr (.inr ())))
noncomputable def ref03_IsReciprocal_l1 (v1 : (List (List Int))) (v3 : (List Int)) : (Int) → Option ((Int) ⊕ ((Unit) ⊕ (Unit))) := fun v5 =>
  if (decide (v5 < (v3.length : Int))) = true then
    ((run (ref03_IsReciprocal_l2 v1 v3 v5) 0).bind fun v33 => match v33 with
    | (.inl _) =>
      some (.inr (.inl ()))
    | (.inr _) =>
      some (.inl (IntKind.i64.wrap (v5 + 1))))
  else
    (some (.inr (.inr ())))
noncomputable def ref03_IsReciprocal (v1 : (List (List Int))) (v2 : (List Int)) (v3 : (List Int)) : Option (Bool) :=
  (run (ref03_IsReciprocal_l1 v1 v3) 0).bind fun v34 => match v34 with
  | (.inl _) =>
    some (false)
  | (.inr _) =>
    some (true)

end Go.Rex

namespace Go.Rex
open Go Go.Rex
noncomputable def energy_energies (v1 : (List (List Int))) (v2 : (List Int)) (v3 : (List Int)) : Option ((List Int) × (List (List Int)) × (List Int) × Int × Int) :=
  (energy_perPatch v1 v2 v3 0 1000000000000).bind fun (v9, v10, v11, v12, v13) =>
  some (v9, v10, v11, v12, v13)

end Go.Rex

namespace Go.Rex
open Go Go.Rex
noncomputable def energy_stepped (v1 : Int) : Option (Bool × Int) :=
  (energy_within v1 0 1000).bind fun (v4, v5) =>
  some (v4, v5)

end Go.Rex

namespace Go.Rex
open Go Go.Rex
noncomputable def energy_firstError_7416 (v1 : Int) (v2 : (List Int)) (v3 : (List (List Int))) (v4 : (List Int)) (v5 : Int) (v6 : Int) (v7 : Bool) (v8 : Int) : Option (Int) :=
  (energy_unnumbered_c1_662c v1).bind fun v10 =>
  if (decide (v10 ≠ 0)) = true then
    (some (v10))
  else
    ((energy_perPatch_c1_e525 v2 v3 v4 v5 v6).bind fun v11 =>
    if (decide (v11 ≠ 0)) = true then
      (some (v11))
    else
      ((energy_refuse_c1_11f9 v7 v8).bind fun v12 =>
      if (decide (v12 ≠ 0)) = true then
        (some (v12))
      else
        (some (0))))

end Go.Rex

namespace Go.Rex
open Go Go.Rex
noncomputable def slices_Clone_int_int (v1 : (List Int)) : Option ((List Int)) :=
  nilq v1
    (some (([] : List Int)))
    ((appI 8 ([] : List Int) v1).bind fun v3 =>
    some (v3))

end Go.Rex

namespace Go.Rex
open Go Go.Rex
noncomputable def energy_up (v1 : Int) (v2 : Int) : Option (Int) :=
  if v2 = 0 then none else
  (some ((IntKind.i64.wrap ((IntKind.i64.wrap ((IntKind.i64.wrap (v1 + v2)) - 1)).tdiv v2))))

end Go.Rex

namespace Go.Rex
open Go Go.Rex
noncomputable def energy_down (v1 : Int) (v2 : Int) : Option (Int) :=
  if v2 = 0 then none else
  (some ((IntKind.i64.wrap (v1.tdiv v2))))

end Go.Rex

namespace Go.Rex
open Go Go.Rex
noncomputable def slices_Max_int_int_l1 (v1 : (List Int)) : (Int × Int) → Option ((Int × Int) ⊕ ((Int))) := fun (v4, v5) =>
  if (decide (v5 < (v1.length : Int))) = true then
    ((getI v1 v5).bind fun v8 =>
    some (.inl ((if v8 > v4 then v8 else v4), (IntKind.i64.wrap (v5 + 1)))))
  else
    (some (.inr v4))
noncomputable def slices_Max_int_int (v1 : (List Int)) : Option (Int) :=
  if (decide ((v1.length : Int) < 1)) = true then
    (none)
  else
    ((getI v1 0).bind fun v3 =>
    (run (slices_Max_int_int_l1 v1) (v3, 1)).bind fun v9 =>
    some (v9))

end Go.Rex

namespace Go.Rex
open Go Go.Rex
noncomputable def slices_Index_int_int_l1 (v1 : (List Int)) (v2 : Int) : (Int) → Option ((Int) ⊕ ((Int) ⊕ (Unit))) := fun v4 =>
  if (decide (v4 < (v1.length : Int))) = true then
    ((getI v1 v4).bind fun v7 =>
    if (decide (v2 = v7)) = true then
      (some (.inr (.inl v4)))
    else
      (some (.inl (IntKind.i64.wrap (v4 + 1)))))
  else
    (some (.inr (.inr ())))
noncomputable def slices_Index_int_int (v1 : (List Int)) (v2 : Int) : Option (Int) :=
  (run (slices_Index_int_int_l1 v1 v2) 0).bind fun v8 => match v8 with
  | (.inl v9) =>
    some (v9)
  | (.inr _) =>
    some ((-1))

end Go.Rex

namespace Go.Rex
open Go Go.Rex
noncomputable def energy_spread_9c9e_l1 (v2 : (List Int)) (v3 : Int) : ((List Int) × Int × Int) → Option (((List Int) × Int × Int) ⊕ (((List Int) × Int))) := fun (v5, v6, v7) =>
  if (decide (v7 < (v2.length : Int))) = true then
    ((getI v2 v7).bind fun v13 =>
    (energy_down (IntKind.i64.wrap (v3 * v13)) 1000).bind fun v14 =>
    (getI v5 v7).bind fun v15 =>
    some (.inl ((v5.set v7.toNat (IntKind.i64.wrap (v15 + v14))), (IntKind.i64.wrap (v6 - v14)), (IntKind.i64.wrap (v7 + 1)))))
  else
    (some (.inr (v5, v6)))
noncomputable def energy_spread_9c9e (v1 : (List Int)) (v2 : (List Int)) (v3 : Int) : Option ((List Int)) :=
  (run (energy_spread_9c9e_l1 v2 v3) (v1, v3, 0)).bind fun (v16, v17) =>
  (slices_Max_int_int v2).bind fun v18 =>
  (slices_Index_int_int v2 v18).bind fun v19 =>
  (getI v16 v19).bind fun v20 =>
  some ((v16.set v19.toNat (IntKind.i64.wrap (v20 + v17))))

end Go.Rex

namespace Go.Rex
open Go Go.Rex
noncomputable def energy_stepFrom_l1 (v1 : (List (List Int))) (v2 : (List Int)) (v3 : (List Int)) : ((List Int) × Int × Int) → Option (((List Int) × Int × Int) ⊕ (((List Int) × Int))) := fun (v7, v8, v9) =>
  if (decide (v9 < (v3.length : Int))) = true then
    ((getI v3 v9).bind fun v17 =>
    (getI v2 v9).bind fun v18 =>
    (energy_up (IntKind.i64.wrap (v17 * v18)) 1000).bind fun v19 =>
    (getI v1 v9).bind fun v20 =>
    (energy_spread_9c9e v7 v20 (IntKind.i64.wrap (v17 - v19))).bind fun v21 =>
    some (.inl ((lenAs v7 v21), (IntKind.i64.wrap (v8 + v19)), (IntKind.i64.wrap (v9 + 1)))))
  else
    (some (.inr (v7, v8)))
noncomputable def energy_stepFrom (v1 : (List (List Int))) (v2 : (List Int)) (v3 : (List Int)) : Option ((List Int) × Int) :=
  (mkI 8 (v3.length : Int) (0 : Int)).bind fun v6 =>
  (run (energy_stepFrom_l1 v1 v2 v3) (v6, 0, 0)).bind fun (v22, v23) =>
  some (v22, v23)

end Go.Rex

namespace Go.Rex
open Go Go.Rex
noncomputable def energy_Run_l1 (v1 : (List (List Int))) (v2 : (List Int)) (v4 : Int) : ((List Int) × Int × Int) → Option (((List Int) × Int × Int) ⊕ (((List Int) × Int))) := fun (v18, v19, v20) =>
  if (decide (v20 < v4)) = true then
    ((energy_stepFrom v1 v2 v18).bind fun (v25, v26) =>
    some (.inl (v25, (IntKind.i64.wrap (v19 + v26)), (IntKind.i64.wrap (v20 + 1)))))
  else
    (some (.inr (v18, v19)))
noncomputable def energy_Run (v1 : (List (List Int))) (v2 : (List Int)) (v3 : (List Int)) (v4 : Int) : Option ((List Int) × Int × Int) :=
  (energy_exchanged v1 v2).bind fun v8 =>
  (energy_energies v1 v2 v3).bind fun (v9, v10, v11, v12, v13) =>
  (energy_stepped v4).bind fun (v14, v15) =>
  (energy_firstError_7416 v8 v9 v10 v11 v12 v13 v14 v15).bind fun v16 =>
  if (decide (v16 ≠ 0)) = true then
    (some (([] : List Int), 0, v16))
  else
    ((slices_Clone_int_int v3).bind fun v17 =>
    (run (energy_Run_l1 v1 v2 v4) (v17, 0, 0)).bind fun (v27, v28) =>
    some (v27, v28, 0))

end Go.Rex

namespace Go.Rex
open Go Go.Rex
noncomputable def energy_Step (v1 : (List (List Int))) (v2 : (List Int)) (v3 : (List Int)) : Option ((List Int) × Int × Int) :=
  (energy_Run v1 v2 v3 1).bind fun (v7, v8, v9) =>
  some (v7, v8, v9)

end Go.Rex

namespace Go.Rex
open Go Go.Rex
noncomputable def law03_EnergyReciprocals_l1 : ((List Int) × Int) → Option (((List Int) × Int) ⊕ (((List Int)))) := fun (v17, v18) =>
  if (decide (v18 < (v17.length : Int))) = true then
    ((getI v17 v18).bind fun v21 =>
    some (.inl ((v17.set v18.toNat 0), (IntKind.i64.wrap (v18 + 1)))))
  else
    (some (.inr v17))
noncomputable def law03_EnergyReciprocals_l2 (v3 : (List Int)) (v24 : (List Int)) : (Int) → Option ((Int) ⊕ ((Unit) ⊕ (Unit))) := fun v27 =>
  if (decide (v27 < (v24.length : Int))) = true then
    ((getI v24 v27).bind fun v31 =>
    (getI v3 v27).bind fun v32 =>
    (base_Within v31 (IntKind.i64.wrap (v32 - (IntKind.i64.wrap ((v3.length : Int) * (v3.length : Int))))) (IntKind.i64.wrap (v32 + (IntKind.i64.wrap ((v3.length : Int) * (v3.length : Int)))))).bind fun v33 =>
    if v33 = true then
      (some (.inl (IntKind.i64.wrap (v27 + 1))))
    else
      (some (.inr (.inl ()))))
  else
    (some (.inr (.inr ())))
noncomputable def law03_EnergyReciprocals_l3 : ((List Int) × Int) → Option (((List Int) × Int) ⊕ (((List Int)))) := fun (v38, v39) =>
  if (decide (v39 < (v38.length : Int))) = true then
    ((getI v38 v39).bind fun v42 =>
    some (.inl ((v38.set v39.toNat 0), (IntKind.i64.wrap (v39 + 1)))))
  else
    (some (.inr v38))
noncomputable def law03_EnergyReciprocals_l4 (v3 : (List Int)) (v45 : (List Int)) : (Int) → Option ((Int) ⊕ ((Unit) ⊕ (Unit))) := fun v48 =>
  if (decide (v48 < (v45.length : Int))) = true then
    ((getI v45 v48).bind fun v52 =>
    (getI v3 v48).bind fun v53 =>
    (base_Within v52 (IntKind.i64.wrap (v53 - (IntKind.i64.wrap ((v3.length : Int) * (v3.length : Int))))) (IntKind.i64.wrap (v53 + (IntKind.i64.wrap ((v3.length : Int) * (v3.length : Int)))))).bind fun v54 =>
    if v54 = true then
      (some (.inl (IntKind.i64.wrap (v48 + 1))))
    else
      (some (.inr (.inl ()))))
  else
    (some (.inr (.inr ())))
noncomputable def law03_EnergyReciprocals (v1 : (List (List Int))) (v2 : (List Int)) (v3 : (List Int)) : Option Bool :=
  (law03_patches v1 v2 v3).bind fun v5 =>
  if v5 = true then
    ((ref03_CopyExchange v1 v2).bind fun (v6, v7) =>
    (base_CopyInts v3).bind fun v8 =>
    (energy_IsReciprocal v6 v7 v8).bind fun (v9, v10) =>
    (ref03_CheckExchange v1 v2).bind fun (v11, v12) =>
    if (decide (v12 = 0)) = true then
      ((ref03_AreasErr v1 v2 v3).bind fun v13 =>
      if (decide (v13 ≠ 0)) = true then
        (if (decide (v10 = v13)) = true then
          (some ((!v9)))
        else
          (some (false)))
      else
        (if (decide (v10 ≠ 0)) = true then
          (some (false))
        else
          ((ref03_IsReciprocal v1 v2 v3).bind fun v14 =>
          if (v9 == v14) = true then
            (if v9 = true then
              ((ref03_CopyExchange v1 v2).bind fun (v15, v16) =>
              (run (law03_EnergyReciprocals_l1) (v16, 0)).bind fun v22 =>
              (base_CopyInts v3).bind fun v23 =>
              (energy_Step v15 v22 v23).bind fun (v24, v25, v26) =>
              if (decide (v26 ≠ 0)) = true then
                (some (false))
              else
                (if (decide (v25 ≠ 0)) = true then
                  (some (false))
                else
                  (if (decide ((v24.length : Int) ≠ (v3.length : Int))) = true then
                    (some (false))
                  else
                    ((run (law03_EnergyReciprocals_l2 v3 v24) 0).bind fun v34 => match v34 with
                    | (.inl _) =>
                      some (false)
                    | (.inr _) =>
                      some (true)))))
            else
              (some (true)))
          else
            (some (false)))))
    else
      (if (decide (v12 ≠ 0)) = true then
        (if (decide (v10 = v12)) = true then
          (some ((!v9)))
        else
          (some (false)))
      else
        (if (decide (v10 ≠ 0)) = true then
          (some (false))
        else
          ((ref03_IsReciprocal v1 v2 v3).bind fun v35 =>
          if (v9 == v35) = true then
            (if v9 = true then
              ((ref03_CopyExchange v1 v2).bind fun (v36, v37) =>
              (run (law03_EnergyReciprocals_l3) (v37, 0)).bind fun v43 =>
              (base_CopyInts v3).bind fun v44 =>
              (energy_Step v36 v43 v44).bind fun (v45, v46, v47) =>
              if (decide (v47 ≠ 0)) = true then
                (some (false))
              else
                (if (decide (v46 ≠ 0)) = true then
                  (some (false))
                else
                  (if (decide ((v45.length : Int) ≠ (v3.length : Int))) = true then
                    (some (false))
                  else
                    ((run (law03_EnergyReciprocals_l4 v3 v45) 0).bind fun v55 => match v55 with
                    | (.inl _) =>
                      some (false)
                    | (.inr _) =>
                      some (true)))))
            else
              (some (true)))
          else
            (some (false))))))
  else
    (some (true))

end Go.Rex
