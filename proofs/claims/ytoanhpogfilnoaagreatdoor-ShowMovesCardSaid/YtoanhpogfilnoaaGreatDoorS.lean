/- The functions of the program and of the reference, as functions of lists and numbers. -/
import Derived.Test.YtoanhpogfilnoaaGreatDoorRexG9
set_option linter.unusedSimpArgs false
set_option linter.unusedVariables false
set_option linter.defProp false
namespace Go.Rex
open Go Go.Rex
def e_i (x : Int) : List TV := [.v (.int .i64 x)]
def e_iLi_i (x : (Int × (List Int) × Int)) : List TV := [.v (.int .i64 x.1), .list 1 (x.2.1.map e_i), .v (.int .i64 x.2.2)]

end Go.Rex

namespace Go.Rex
open Go Go.Rex
noncomputable def law10_fewLevels (v1 : (List Int)) : Option (Bool) :=
  some ((decide ((v1.length : Int) ≤ 10)))

end Go.Rex

namespace Go.Rex
open Go Go.Rex
noncomputable def law10_fewMoves_l1 (v1 : (List (Int × (List Int) × Int))) : (Int) → Option ((Int) ⊕ ((Unit) ⊕ (Unit))) := fun v3 =>
  if (decide (v3 < (v1.length : Int))) = true then
    ((getI v1 v3).bind fun (v8, v9, v10) =>
    (law10_fewLevels v9).bind fun v11 =>
    if v11 = true then
      (some (.inl (IntKind.i64.wrap (v3 + 1))))
    else
      (some (.inr (.inl ()))))
  else
    (some (.inr (.inr ())))
noncomputable def law10_fewMoves_l2 (v1 : (List (Int × (List Int) × Int))) : (Int) → Option ((Int) ⊕ ((Unit) ⊕ (Unit))) := fun v13 =>
  if (decide (v13 < (v1.length : Int))) = true then
    ((getI v1 v13).bind fun (v18, v19, v20) =>
    (law10_fewLevels v19).bind fun v21 =>
    if v21 = true then
      (some (.inl (IntKind.i64.wrap (v13 + 1))))
    else
      (some (.inr (.inl ()))))
  else
    (some (.inr (.inr ())))
noncomputable def law10_fewMoves (v1 : (List (Int × (List Int) × Int))) : Option (Bool) :=
  if (decide ((v1.length : Int) > 8)) = true then
    (if (decide ((v1.length : Int) ≤ 40)) = true then
      (some (false))
    else
      (if (decide ((v1.length : Int) > 42)) = true then
        (some (false))
      else
        ((run (law10_fewMoves_l1 v1) 0).bind fun v12 => match v12 with
        | (.inl _) =>
          some (false)
        | (.inr _) =>
          some (true))))
  else
    (if (decide ((v1.length : Int) > 42)) = true then
      (some (false))
    else
      ((run (law10_fewMoves_l2 v1) 0).bind fun v22 => match v22 with
      | (.inl _) =>
        some (false)
      | (.inr _) =>
        some (true)))

end Go.Rex

namespace Go.Rex
open Go Go.Rex
noncomputable def base_CopyInts (v1 : (List Int)) : Option ((List Int)) :=
  (appI 8 ([] : List Int) v1).bind fun v3 =>
  some (v3)

end Go.Rex

namespace Go.Rex
open Go Go.Rex
noncomputable def ref10_CopyMoves_l1 (v1 : (List (Int × (List Int) × Int))) : ((List (Int × (List Int) × Int)) × Int) → Option (((List (Int × (List Int) × Int)) × Int) ⊕ (((List (Int × (List Int) × Int))))) := fun (v3, v4) =>
  if (decide (v4 < (v1.length : Int))) = true then
    ((getI v1 v4).bind fun (v11, v12, v13) =>
    (base_CopyInts v12).bind fun v14 =>
    (appI 40 v3 ([(v11, v14, v13)] : List (Int × (List Int) × Int))).bind fun v15 =>
    some (.inl (v15, (IntKind.i64.wrap (v4 + 1)))))
  else
    (some (.inr v3))
noncomputable def ref10_CopyMoves (v1 : (List (Int × (List Int) × Int))) : Option ((List (Int × (List Int) × Int))) :=
  (run (ref10_CopyMoves_l1 v1) (([] : List (Int × (List Int) × Int)), 0)).bind fun v16 =>
  some (v16)

end Go.Rex

namespace Go.Rex
open Go Go.Rex
noncomputable def show_isWithin (v1 : Int) (v2 : Int) (v3 : Int) : Option (Bool) :=
  if (decide (v2 ≤ v1)) = true then
    (some ((decide (v1 ≤ v3))))
  else
    (some (false))

end Go.Rex

namespace Go.Rex
open Go Go.Rex
noncomputable def show_refuse (v1 : Bool) (v2 : Int) : Option (Bool × Int) :=
  some (v1, v2)

end Go.Rex

namespace Go.Rex
open Go Go.Rex
noncomputable def show_within (v1 : Int) (v2 : Int) (v3 : Int) : Option (Bool × Int) :=
  (show_isWithin v1 v2 v3).bind fun v6 =>
  (show_refuse (!v6) 2).bind fun (v7, v8) =>
  some (v7, v8)

end Go.Rex

namespace Go.Rex
open Go Go.Rex
noncomputable def show_ticked (v1 : Int) : Option (Bool × Int) :=
  (show_within v1 0 100000000).bind fun (v4, v5) =>
  some (v4, v5)

end Go.Rex

namespace Go.Rex
open Go Go.Rex
noncomputable def show_leveled (v1 : (List Int)) : Option ((List Int)) :=
  some (v1)

end Go.Rex

namespace Go.Rex
open Go Go.Rex
noncomputable def show_stepped (v1 : Int) : Option (Bool × Int) :=
  (show_within v1 0 1000).bind fun (v4, v5) =>
  some (v4, v5)

end Go.Rex

namespace Go.Rex
open Go Go.Rex
noncomputable def show_refuse_c1_11f9 (v1 : Bool) (v2 : Int) : Option (Int) :=
  if v1 = true then
    (some (v2))
  else
    (some (0))

end Go.Rex

namespace Go.Rex
open Go Go.Rex
noncomputable def show_leveled_c1_c1_9a9e (v1 : Int) (v2 : (List Int)) : Option (Int) :=
  (getI v2 v1).bind fun v4 =>
  (show_within v4 0 1000).bind fun (v5, v6) =>
  (show_refuse_c1_11f9 v5 v6).bind fun v7 =>
  some (v7)

end Go.Rex

namespace Go.Rex
open Go Go.Rex
noncomputable def show_firstWrong_22f8_l1 (v1 : Int) (v2 : (List Int)) : (Int) → Option ((Int) ⊕ ((Int × Int) ⊕ (Unit))) := fun v5 =>
  if (decide (v5 < v1)) = true then
    ((show_leveled_c1_c1_9a9e v5 v2).bind fun v9 =>
    if (decide (v9 ≠ 0)) = true then
      (some (.inr (.inl (v5, v9))))
    else
      (some (.inl (IntKind.i64.wrap (v5 + 1)))))
  else
    (some (.inr (.inr ())))
noncomputable def show_firstWrong_22f8 (v1 : Int) (v2 : (List Int)) : Option (Int × Int) :=
  (run (show_firstWrong_22f8_l1 v1 v2) 0).bind fun v10 => match v10 with
  | (.inl (v11, v12)) =>
    some (v11, v12)
  | (.inr _) =>
    some (0, 0)

end Go.Rex

namespace Go.Rex
open Go Go.Rex
noncomputable def show_unnumbered (v1 : Int) (v2 : Int) : Option (Int) :=
  some (v2)

end Go.Rex

namespace Go.Rex
open Go Go.Rex
noncomputable def show_unnumbered_c1_662c (v1 : Int) : Option (Int) :=
  some (v1)

end Go.Rex

namespace Go.Rex
open Go Go.Rex
noncomputable def show_firstError_e918 (v1 : Bool) (v2 : Int) (v3 : Int) : Option (Int) :=
  (show_refuse_c1_11f9 v1 v2).bind fun v5 =>
  if (decide (v5 ≠ 0)) = true then
    (some (v5))
  else
    ((show_unnumbered_c1_662c v3).bind fun v6 =>
    if (decide (v6 ≠ 0)) = true then
      (some (v6))
    else
      (some (0)))

end Go.Rex

namespace Go.Rex
open Go Go.Rex
noncomputable def show_leveled_c1_fd95 (v1 : (List Int)) : Option (Int) :=
  (show_isWithin (v1.length : Int) 1 8).bind fun v3 =>
  (show_refuse (!v3) 10).bind fun (v4, v5) =>
  (show_firstWrong_22f8 (v1.length : Int) v1).bind fun (v6, v7) =>
  (show_unnumbered v6 v7).bind fun v8 =>
  (show_firstError_e918 v4 v5 v8).bind fun v9 =>
  some (v9)

end Go.Rex

namespace Go.Rex
open Go Go.Rex
noncomputable def show_firstError_ae42 (v1 : Bool) (v2 : Int) (v3 : Bool) (v4 : Int) (v5 : (List Int)) (v6 : Bool) (v7 : Int) (v8 : Bool) (v9 : Int) : Option (Int) :=
  (show_refuse_c1_11f9 v1 v2).bind fun v11 =>
  if (decide (v11 ≠ 0)) = true then
    (some (v11))
  else
    ((show_refuse_c1_11f9 v3 v4).bind fun v12 =>
    if (decide (v12 ≠ 0)) = true then
      (some (v12))
    else
      ((show_leveled_c1_fd95 v5).bind fun v13 =>
      if (decide (v13 ≠ 0)) = true then
        (some (v13))
      else
        ((show_refuse_c1_11f9 v6 v7).bind fun v14 =>
        if (decide (v14 ≠ 0)) = true then
          (some (v14))
        else
          ((show_refuse_c1_11f9 v8 v9).bind fun v15 =>
          if (decide (v15 ≠ 0)) = true then
            (some (v15))
          else
            (some (0))))))

end Go.Rex

namespace Go.Rex
open Go Go.Rex
noncomputable def show_CheckMoves_c1_ebf2 (v1 : Int) (v2 : (List (Int × (List Int) × Int))) : Option (Int) :=
  (getI v2 v1).bind fun (v4, v5, v6) =>
  (show_ticked v4).bind fun (v7, v8) =>
  if (decide (v1 > 0)) = true then
    ((getI v2 (IntKind.i64.wrap (v1 - 1))).bind fun (v9, v10, v11) =>
    (show_refuse (decide (v4 < v9)) 9).bind fun (v12, v13) =>
    (show_leveled v5).bind fun v14 =>
    (getI v2 0).bind fun (v15, v16, v17) =>
    (show_refuse (decide ((v5.length : Int) ≠ (v16.length : Int))) 13).bind fun (v18, v19) =>
    (show_stepped v6).bind fun (v20, v21) =>
    (show_firstError_ae42 v7 v8 v12 v13 v14 v18 v19 v20 v21).bind fun v22 =>
    some (v22))
  else
    ((show_refuse false 9).bind fun (v23, v24) =>
    (show_leveled v5).bind fun v25 =>
    (getI v2 0).bind fun (v26, v27, v28) =>
    (show_refuse (decide ((v5.length : Int) ≠ (v27.length : Int))) 13).bind fun (v29, v30) =>
    (show_stepped v6).bind fun (v31, v32) =>
    (show_firstError_ae42 v7 v8 v23 v24 v25 v29 v30 v31 v32).bind fun v33 =>
    some (v33))

end Go.Rex

namespace Go.Rex
open Go Go.Rex
noncomputable def show_firstWrong_1946_l1 (v1 : Int) (v2 : (List (Int × (List Int) × Int))) : (Int) → Option ((Int) ⊕ ((Int × Int) ⊕ (Unit))) := fun v5 =>
  if (decide (v5 < v1)) = true then
    ((show_CheckMoves_c1_ebf2 v5 v2).bind fun v9 =>
    if (decide (v9 ≠ 0)) = true then
      (some (.inr (.inl (v5, v9))))
    else
      (some (.inl (IntKind.i64.wrap (v5 + 1)))))
  else
    (some (.inr (.inr ())))
noncomputable def show_firstWrong_1946 (v1 : Int) (v2 : (List (Int × (List Int) × Int))) : Option (Int × Int) :=
  (run (show_firstWrong_1946_l1 v1 v2) 0).bind fun v10 => match v10 with
  | (.inl (v11, v12)) =>
    some (v11, v12)
  | (.inr _) =>
    some (0, 0)

end Go.Rex

namespace Go.Rex
open Go Go.Rex
noncomputable def show_CheckMoves (v1 : (List (Int × (List Int) × Int))) : Option (Int × Int) :=
  if (decide ((v1.length : Int) > 40)) = true then
    (some (0, 8))
  else
    ((show_firstWrong_1946 (v1.length : Int) v1).bind fun (v4, v5) =>
    some (v4, v5))

end Go.Rex

namespace Go.Rex
open Go Go.Rex
noncomputable def show_firstError_a806 (v1 : Int) (v2 : Bool) (v3 : Int) : Option (Int) :=
  (show_unnumbered_c1_662c v1).bind fun v5 =>
  if (decide (v5 ≠ 0)) = true then
    (some (v5))
  else
    ((show_refuse_c1_11f9 v2 v3).bind fun v6 =>
    if (decide (v6 ≠ 0)) = true then
      (some (v6))
    else
      (some (0)))

end Go.Rex

namespace Go.Rex
open Go Go.Rex
noncomputable def slices_Clone_int_int (v1 : (List Int)) : Option ((List Int)) :=
  nilq v1
    (some (([] : List Int)))
    ((appI 8 ([] : List Int) v1).bind fun v3 =>
    some (v3))

end Go.Rex

namespace Go.Rex
open Go Go.Rex
noncomputable def show_floor (v1 : Int) (v2 : Int) : Option (Int) :=
  if v2 = 0 then none else
  (some ((IntKind.i64.wrap ((IntKind.i64.wrap (v1 - ((IntKind.i64.wrap ((v1.tmod v2) + v2)).tmod v2))).tdiv v2))))

end Go.Rex

namespace Go.Rex
open Go Go.Rex
noncomputable def show_nearest (v1 : Int) (v2 : Int) : Option (Int) :=
  (show_floor (IntKind.i64.wrap ((IntKind.i64.wrap (2 * v1)) + v2)) (IntKind.i64.wrap (2 * v2))).bind fun v4 =>
  some (v4)

end Go.Rex

namespace Go.Rex
open Go Go.Rex
noncomputable def show_levelsOf_l1 (v1 : (List Int)) (v2 : (List Int)) (v3 : Int) (v4 : Int) : ((List Int) × Int) → Option (((List Int) × Int) ⊕ (((List Int)))) := fun (v7, v8) =>
  if (decide (v8 < (v1.length : Int))) = true then
    ((getI v1 v8).bind fun v14 =>
    (getI v2 v8).bind fun v15 =>
    (show_nearest (IntKind.i64.wrap ((IntKind.i64.wrap (v15 - v14)) * v4)) v3).bind fun v16 =>
    (getI v7 v8).bind fun v17 =>
    some (.inl ((v7.set v8.toNat (IntKind.i64.wrap (v14 + v16))), (IntKind.i64.wrap (v8 + 1)))))
  else
    (some (.inr v7))
noncomputable def show_levelsOf (v1 : (List Int)) (v2 : (List Int)) (v3 : Int) (v4 : Int) : Option ((List Int)) :=
  (slices_Clone_int_int v2).bind fun v6 =>
  if (decide (v4 = v3)) = true then
    (some (v6))
  else
    ((run (show_levelsOf_l1 v1 v2 v3 v4) (v6, 0)).bind fun v18 =>
    some (v18))

end Go.Rex

namespace Go.Rex
open Go Go.Rex
noncomputable def show_levelsAt_l1 (v1 : (List (Int × (List Int) × Int))) (v2 : Int) : ((List Int) × Int) → Option (((List Int) × Int) ⊕ (((List Int)))) := fun (v8, v9) =>
  if (decide (v9 < (v1.length : Int))) = true then
    ((getI v1 v9).bind fun (v19, v20, v21) =>
    if (decide (v19 > v2)) = true then
      (some (.inr v8))
    else
      (if (decide ((IntKind.i64.wrap (v9 + 1)) < (v1.length : Int))) = true then
        ((getI v1 (IntKind.i64.wrap (v9 + 1))).bind fun (v22, v23, v24) =>
        (show_levelsOf v8 v20 v21 (if v21 < (IntKind.i64.wrap ((if v22 < v2 then v22 else v2) - v19)) then v21 else (IntKind.i64.wrap ((if v22 < v2 then v22 else v2) - v19)))).bind fun v25 =>
        some (.inl (v25, (IntKind.i64.wrap (v9 + 1)))))
      else
        ((show_levelsOf v8 v20 v21 (if v21 < (IntKind.i64.wrap (v2 - v19)) then v21 else (IntKind.i64.wrap (v2 - v19)))).bind fun v26 =>
        some (.inl (v26, (IntKind.i64.wrap (v9 + 1)))))))
  else
    (some (.inr v8))
noncomputable def show_levelsAt (v1 : (List (Int × (List Int) × Int))) (v2 : Int) : Option ((List Int)) :=
  if (decide ((v1.length : Int) = 0)) = true then
    (some (([] : List Int)))
  else
    ((getI v1 0).bind fun (v4, v5, v6) =>
    (mkI 8 (v5.length : Int) (0 : Int)).bind fun v7 =>
    (run (show_levelsAt_l1 v1 v2) (v7, 0)).bind fun v27 =>
    some (v27))

end Go.Rex

namespace Go.Rex
open Go Go.Rex
noncomputable def show_LevelsAt (v1 : (List (Int × (List Int) × Int))) (v2 : Int) : Option ((List Int) × Int) :=
  (show_CheckMoves v1).bind fun (v5, v6) =>
  (show_unnumbered v5 v6).bind fun v7 =>
  (show_within v2 0 200000000).bind fun (v8, v9) =>
  (show_firstError_a806 v7 v8 v9).bind fun v10 =>
  if (decide (v10 ≠ 0)) = true then
    (some (([] : List Int), v10))
  else
    ((show_levelsAt v1 v2).bind fun v11 =>
    some (v11, 0))

end Go.Rex

namespace Go.Rex
open Go Go.Rex
noncomputable def show_StillFrom (v1 : (List (Int × (List Int) × Int))) : Option (Int × Int) :=
  (show_CheckMoves v1).bind fun (v4, v5) =>
  (show_unnumbered v4 v5).bind fun v6 =>
  (show_refuse (decide ((v1.length : Int) = 0)) 12).bind fun (v7, v8) =>
  (show_firstError_a806 v6 v7 v8).bind fun v9 =>
  if (decide (v9 ≠ 0)) = true then
    (some (0, v9))
  else
    ((getI v1 (IntKind.i64.wrap ((v1.length : Int) - 1))).bind fun (v10, v11, v12) =>
    some ((IntKind.i64.wrap (v10 + v12)), 0))

end Go.Rex

namespace Go.Rex
open Go Go.Rex
noncomputable def base_Within (v1 : Int) (v2 : Int) (v3 : Int) : Option (Bool) :=
  if (decide (v2 ≤ v1)) = true then
    (some ((decide (v1 ≤ v3))))
  else
    (some (false))

end Go.Rex

namespace Go.Rex
open Go Go.Rex
noncomputable def ref10_LevelsErr_l1 (v1 : (List Int)) : (Int) → Option ((Int) ⊕ ((Unit) ⊕ (Unit))) := fun v4 =>
  if (decide (v4 < (v1.length : Int))) = true then
    ((getI v1 v4).bind fun v7 =>
    (base_Within v7 0 1000).bind fun v8 =>
    if v8 = true then
      (some (.inl (IntKind.i64.wrap (v4 + 1))))
    else
      (some (.inr (.inl ()))))
  else
    (some (.inr (.inr ())))
noncomputable def ref10_LevelsErr (v1 : (List Int)) : Option (Int) :=
  (base_Within (v1.length : Int) 1 8).bind fun v3 =>
  if v3 = true then
    ((run (ref10_LevelsErr_l1 v1) 0).bind fun v9 => match v9 with
    | (.inl _) =>
      some (2)
    | (.inr _) =>
      some (0))
  else
    (some (10))

end Go.Rex

namespace Go.Rex
open Go Go.Rex
noncomputable def ref10_isSteps (v1 : Int) : Option (Bool) :=
  (base_Within v1 0 1000).bind fun v3 =>
  some (v3)

end Go.Rex

namespace Go.Rex
open Go Go.Rex
noncomputable def ref10_CheckMoves_l1 (v1 : (List (Int × (List Int) × Int))) : (Int) → Option ((Int) ⊕ ((Int × Int) ⊕ (Unit))) := fun v4 =>
  if (decide (v4 < (v1.length : Int))) = true then
    ((getI v1 v4).bind fun (v24, v25, v26) =>
    (base_Within v24 0 100000000).bind fun v27 =>
    if v27 = true then
      (if (decide (v4 > 0)) = true then
        ((getI v1 (IntKind.i64.wrap (v4 - 1))).bind fun (v28, v29, v30) =>
        if (decide (v24 < v28)) = true then
          (some (.inr (.inl (v4, 9))))
        else
          ((ref10_LevelsErr v25).bind fun v31 =>
          if (decide (v31 ≠ 0)) = true then
            (some (.inr (.inl (v4, v31))))
          else
            ((getI v1 0).bind fun (v32, v33, v34) =>
            if (decide ((v25.length : Int) ≠ (v33.length : Int))) = true then
              (some (.inr (.inl (v4, 13))))
            else
              ((ref10_isSteps v26).bind fun v35 =>
              if v35 = true then
                (some (.inl (IntKind.i64.wrap (v4 + 1))))
              else
                (some (.inr (.inl (v4, 2))))))))
      else
        ((ref10_LevelsErr v25).bind fun v36 =>
        if (decide (v36 ≠ 0)) = true then
          (some (.inr (.inl (v4, v36))))
        else
          ((getI v1 0).bind fun (v37, v38, v39) =>
          if (decide ((v25.length : Int) ≠ (v38.length : Int))) = true then
            (some (.inr (.inl (v4, 13))))
          else
            ((ref10_isSteps v26).bind fun v40 =>
            if v40 = true then
              (some (.inl (IntKind.i64.wrap (v4 + 1))))
            else
              (some (.inr (.inl (v4, 2))))))))
    else
      (some (.inr (.inl (v4, 2)))))
  else
    (some (.inr (.inr ())))
noncomputable def ref10_CheckMoves (v1 : (List (Int × (List Int) × Int))) : Option (Int × Int) :=
  if (decide ((v1.length : Int) > 40)) = true then
    (some (0, 8))
  else
    ((run (ref10_CheckMoves_l1 v1) 0).bind fun v41 => match v41 with
    | (.inl (v42, v43)) =>
      some (v42, v43)
    | (.inr _) =>
      some (0, 0))

end Go.Rex

namespace Go.Rex
open Go Go.Rex
noncomputable def base_Floor (v1 : Int) (v2 : Int) : Option (Int) :=
  if v2 = 0 then none else
  (if (decide ((v1.tmod v2) < 0)) = true then
    (some ((IntKind.i64.wrap ((IntKind.i64.wrap (v1.tdiv v2)) - 1))))
  else
    (some ((IntKind.i64.wrap (v1.tdiv v2)))))

end Go.Rex

namespace Go.Rex
open Go Go.Rex
noncomputable def ref10_FadeAt_l1 (v1 : (List Int)) (v2 : (List Int)) (v3 : Int) (v4 : Int) : ((List Int) × Int) → Option (((List Int) × Int) ⊕ (((List Int)))) := fun (v6, v7) =>
  if (decide (v7 < (v1.length : Int))) = true then
    ((getI v2 v7).bind fun v14 =>
    if (decide (v4 < v3)) = true then
      ((getI v1 v7).bind fun v15 =>
      (base_Floor (IntKind.i64.wrap ((IntKind.i64.wrap ((IntKind.i64.wrap (2 * (IntKind.i64.wrap (v14 - v15)))) * v4)) + v3)) (IntKind.i64.wrap (2 * v3))).bind fun v16 =>
      (appI 8 v6 ([(IntKind.i64.wrap (v15 + v16))] : List Int)).bind fun v17 =>
      some (.inl (v17, (IntKind.i64.wrap (v7 + 1)))))
    else
      ((appI 8 v6 ([v14] : List Int)).bind fun v18 =>
      some (.inl (v18, (IntKind.i64.wrap (v7 + 1))))))
  else
    (some (.inr v6))
noncomputable def ref10_FadeAt (v1 : (List Int)) (v2 : (List Int)) (v3 : Int) (v4 : Int) : Option ((List Int)) :=
  (run (ref10_FadeAt_l1 v1 v2 v3 v4) (([] : List Int), 0)).bind fun v19 =>
  some (v19)

end Go.Rex

namespace Go.Rex
open Go Go.Rex
noncomputable def ref10_LevelsAt_l1 (v1 : (List (Int × (List Int) × Int))) (v2 : Int) : ((List Int) × Int) → Option (((List Int) × Int) ⊕ (((List Int)))) := fun (v8, v9) =>
  if (decide (v9 < (v1.length : Int))) = true then
    ((getI v1 v9).bind fun (v19, v20, v21) =>
    if (decide (v19 ≤ v2)) = true then
      (if (decide ((IntKind.i64.wrap (v9 + 1)) < (v1.length : Int))) = true then
        ((getI v1 (IntKind.i64.wrap (v9 + 1))).bind fun (v22, v23, v24) =>
        (ref10_FadeAt v8 v20 v21 (if v21 < (IntKind.i64.wrap ((if v22 < v2 then v22 else v2) - v19)) then v21 else (IntKind.i64.wrap ((if v22 < v2 then v22 else v2) - v19)))).bind fun v25 =>
        some (.inl (v25, (IntKind.i64.wrap (v9 + 1)))))
      else
        ((ref10_FadeAt v8 v20 v21 (if v21 < (IntKind.i64.wrap (v2 - v19)) then v21 else (IntKind.i64.wrap (v2 - v19)))).bind fun v26 =>
        some (.inl (v26, (IntKind.i64.wrap (v9 + 1))))))
    else
      (some (.inr v8)))
  else
    (some (.inr v8))
noncomputable def ref10_LevelsAt (v1 : (List (Int × (List Int) × Int))) (v2 : Int) : Option ((List Int)) :=
  if (decide ((v1.length : Int) = 0)) = true then
    (some (([] : List Int)))
  else
    ((getI v1 0).bind fun (v4, v5, v6) =>
    (mkI 8 (v5.length : Int) (0 : Int)).bind fun v7 =>
    (run (ref10_LevelsAt_l1 v1 v2) (v7, 0)).bind fun v27 =>
    some (v27))

end Go.Rex

namespace Go.Rex
open Go Go.Rex
noncomputable def base_Ints_l1 (v1 : (List Int)) (v2 : (List Int)) : (Int) → Option ((Int) ⊕ ((Unit) ⊕ (Unit))) := fun v4 =>
  if (decide (v4 < (v1.length : Int))) = true then
    ((getI v1 v4).bind fun v7 =>
    (getI v2 v4).bind fun v8 =>
    if (decide (v7 ≠ v8)) = true then
      (some (.inr (.inl ())))
    else
      (some (.inl (IntKind.i64.wrap (v4 + 1)))))
  else
    (some (.inr (.inr ())))
noncomputable def base_Ints (v1 : (List Int)) (v2 : (List Int)) : Option (Bool) :=
  if (decide ((v1.length : Int) ≠ (v2.length : Int))) = true then
    (some (false))
  else
    ((run (base_Ints_l1 v1 v2) 0).bind fun v9 => match v9 with
    | (.inl _) =>
      some (false)
    | (.inr _) =>
      some (true))

end Go.Rex

namespace Go.Rex
open Go Go.Rex
noncomputable def law10_ShowMoves (v1 : (List (Int × (List Int) × Int))) (v2 : Int) : Option Bool :=
  (law10_fewMoves v1).bind fun v4 =>
  if v4 = true then
    ((ref10_CopyMoves v1).bind fun v5 =>
    (show_CheckMoves v5).bind fun (v6, v7) =>
    (ref10_CopyMoves v1).bind fun v8 =>
    (show_LevelsAt v8 v2).bind fun (v9, v10) =>
    (ref10_CopyMoves v1).bind fun v11 =>
    (show_StillFrom v11).bind fun (v12, v13) =>
    (ref10_CheckMoves v1).bind fun (v14, v15) =>
    if (decide (v7 ≠ v15)) = true then
      (some (false))
    else
      (if (decide (v6 ≠ v14)) = true then
        (some (false))
      else
        (if (decide (v15 ≠ 0)) = true then
          (if (decide (v10 = v15)) = true then
            (if (decide (v13 = v15)) = true then
              (if (decide ((v9.length : Int) = 0)) = true then
                (some ((decide (v12 = 0))))
              else
                (some (false)))
            else
              (some (false)))
          else
            (some (false)))
        else
          (if (decide ((v1.length : Int) = 0)) = true then
            (if (decide (v13 ≠ 12)) = true then
              (some (false))
            else
              (if (decide (v12 ≠ 0)) = true then
                (some (false))
              else
                ((base_Within v2 0 200000000).bind fun v16 =>
                if v16 = true then
                  (if (decide (v10 = 0)) = true then
                    ((ref10_LevelsAt v1 v2).bind fun v17 =>
                    (base_Ints v9 v17).bind fun v18 =>
                    some (v18))
                  else
                    (some (false)))
                else
                  (if (decide (v10 = 2)) = true then
                    (some ((decide ((v9.length : Int) = 0))))
                  else
                    (some (false))))))
          else
            ((getI v1 (IntKind.i64.wrap ((v1.length : Int) - 1))).bind fun (v19, v20, v21) =>
            if (decide (v13 ≠ 0)) = true then
              (some (false))
            else
              (if (decide (v12 ≠ (IntKind.i64.wrap (v19 + v21)))) = true then
                (some (false))
              else
                ((base_Within v2 0 200000000).bind fun v22 =>
                if v22 = true then
                  (if (decide (v10 = 0)) = true then
                    ((ref10_LevelsAt v1 v2).bind fun v23 =>
                    (base_Ints v9 v23).bind fun v24 =>
                    some (v24))
                  else
                    (some (false)))
                else
                  (if (decide (v10 = 2)) = true then
                    (some ((decide ((v9.length : Int) = 0))))
                  else
                    (some (false))))))))))
  else
    (some (true))

end Go.Rex

namespace Go.Rex
open Go Go.Rex
noncomputable def show_firstError_7998 (v1 : (List Int)) (v2 : (List Int)) (v3 : Bool) (v4 : Int) (v5 : Bool) (v6 : Int) (v7 : Bool) (v8 : Int) : Option (Int) :=
  (show_leveled_c1_fd95 v1).bind fun v10 =>
  if (decide (v10 ≠ 0)) = true then
    (some (v10))
  else
    ((show_leveled_c1_fd95 v2).bind fun v11 =>
    if (decide (v11 ≠ 0)) = true then
      (some (v11))
    else
      ((show_refuse_c1_11f9 v3 v4).bind fun v12 =>
      if (decide (v12 ≠ 0)) = true then
        (some (v12))
      else
        ((show_refuse_c1_11f9 v5 v6).bind fun v13 =>
        if (decide (v13 ≠ 0)) = true then
          (some (v13))
        else
          ((show_refuse_c1_11f9 v7 v8).bind fun v14 =>
          if (decide (v14 ≠ 0)) = true then
            (some (v14))
          else
            (some (0))))))

end Go.Rex

namespace Go.Rex
open Go Go.Rex
noncomputable def show_FadeAt (v1 : (List Int)) (v2 : (List Int)) (v3 : Int) (v4 : Int) : Option ((List Int) × Int) :=
  (show_leveled v1).bind fun v7 =>
  (show_leveled v2).bind fun v8 =>
  (show_refuse (decide ((v1.length : Int) ≠ (v2.length : Int))) 13).bind fun (v9, v10) =>
  (show_stepped v3).bind fun (v11, v12) =>
  (show_within v4 0 v3).bind fun (v13, v14) =>
  (show_firstError_7998 v7 v8 v9 v10 v11 v12 v13 v14).bind fun v15 =>
  if (decide (v15 ≠ 0)) = true then
    (some (([] : List Int), v15))
  else
    ((show_levelsOf v1 v2 v3 v4).bind fun v16 =>
    some (v16, 0))

end Go.Rex

namespace Go.Rex
open Go Go.Rex
noncomputable def ref10_FadeErr (v1 : (List Int)) (v2 : (List Int)) (v3 : Int) (v4 : Int) : Option (Int) :=
  (ref10_LevelsErr v1).bind fun v6 =>
  if (decide (v6 ≠ 0)) = true then
    (some (v6))
  else
    ((ref10_LevelsErr v2).bind fun v7 =>
    if (decide (v7 ≠ 0)) = true then
      (some (v7))
    else
      (if (decide ((v1.length : Int) ≠ (v2.length : Int))) = true then
        (some (13))
      else
        ((ref10_isSteps v3).bind fun v8 =>
        if v8 = true then
          ((base_Within v4 0 v3).bind fun v9 =>
          if v9 = true then
            (some (0))
          else
            (some (2)))
        else
          (some (2)))))

end Go.Rex

namespace Go.Rex
open Go Go.Rex
noncomputable def law10_ShowFades_l1 (v1 : (List Int)) (v2 : (List Int)) (v10 : (List Int)) : (Int) → Option ((Int) ⊕ ((Unit) ⊕ (Unit))) := fun v15 =>
  if (decide (v15 < (v10.length : Int))) = true then
    ((getI v10 v15).bind fun v20 =>
    (getI v1 v15).bind fun v21 =>
    (getI v2 v15).bind fun v22 =>
    (base_Within v20 (if v22 < v21 then v22 else v21) (if v22 > v21 then v22 else v21)).bind fun v23 =>
    if v23 = true then
      (some (.inl (IntKind.i64.wrap (v15 + 1))))
    else
      (some (.inr (.inl ()))))
  else
    (some (.inr (.inr ())))
noncomputable def law10_ShowFades (v1 : (List Int)) (v2 : (List Int)) (v3 : Int) (v4 : Int) : Option Bool :=
  (law10_fewLevels v1).bind fun v6 =>
  if v6 = true then
    ((law10_fewLevels v2).bind fun v7 =>
    if v7 = true then
      ((base_CopyInts v1).bind fun v8 =>
      (base_CopyInts v2).bind fun v9 =>
      (show_FadeAt v8 v9 v3 v4).bind fun (v10, v11) =>
      (ref10_FadeErr v1 v2 v3 v4).bind fun v12 =>
      if (decide (v12 ≠ 0)) = true then
        (if (decide (v11 = v12)) = true then
          (some ((decide ((v10.length : Int) = 0))))
        else
          (some (false)))
      else
        (if (decide (v11 ≠ 0)) = true then
          (some (false))
        else
          ((ref10_FadeAt v1 v2 v3 v4).bind fun v13 =>
          (base_Ints v10 v13).bind fun v14 =>
          if v14 = true then
            ((run (law10_ShowFades_l1 v1 v2 v10) 0).bind fun v24 => match v24 with
            | (.inl _) =>
              some (false)
            | (.inr _) =>
              if (decide (v4 < v3)) = true then
                (some (true))
              else
                ((base_Ints v10 v2).bind fun v25 =>
                some (v25)))
          else
            (some (false)))))
    else
      (some (true)))
  else
    (some (true))

end Go.Rex
