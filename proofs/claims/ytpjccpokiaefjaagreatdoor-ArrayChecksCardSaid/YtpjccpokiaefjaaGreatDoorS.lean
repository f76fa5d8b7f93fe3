/- The functions of the program and of the reference, as functions of lists and numbers. -/
import Derived.Test.YtpjccpokiaefjaaGreatDoorRexG8
set_option linter.unusedSimpArgs false
set_option linter.unusedVariables false
set_option linter.defProp false
namespace Go.Rex
open Go Go.Rex
def e_iiiii (x : (Int × Int × Int × Int × Int)) : List TV := [.v (.int .i64 x.1), .v (.int .i64 x.2.1), .v (.int .i64 x.2.2.1), .v (.int .i64 x.2.2.2.1), .v (.int .i64 x.2.2.2.2)]
def e_i (x : Int) : List TV := [.v (.int .i64 x)]
def e_iiiiiiiii (x : (Int × Int × Int × Int × Int × Int × Int × Int × Int)) : List TV := [.v (.int .i64 x.1), .v (.int .i64 x.2.1), .v (.int .i64 x.2.2.1), .v (.int .i64 x.2.2.2.1), .v (.int .i64 x.2.2.2.2.1), .v (.int .i64 x.2.2.2.2.2.1), .v (.int .i64 x.2.2.2.2.2.2.1), .v (.int .i64 x.2.2.2.2.2.2.2.1), .v (.int .i64 x.2.2.2.2.2.2.2.2)]
def e_z (x : (Nat × Nat)) : List TV := [.v (.complex .f64 x.1 x.2)]
def e_iii (x : (Int × Int × Int)) : List TV := [.v (.int .i64 x.1), .v (.int .i64 x.2.1), .v (.int .i64 x.2.2)]
def e_Li_ (x : (List Int)) : List TV := [.list 1 (x.map e_i)]

end Go.Rex

namespace Go.Rex
open Go Go.Rex
noncomputable def law07_few (v1 : Int) (v2 : Int) (v3 : (List (Int × Int × Int × Int × Int))) : Option (Bool) :=
  some ((decide ((v3.length : Int) ≤ 10)))

end Go.Rex

namespace Go.Rex
open Go Go.Rex
noncomputable def ref07_Copy (v1 : Int) (v2 : Int) (v3 : (List (Int × Int × Int × Int × Int))) : Option (Int × Int × (List (Int × Int × Int × Int × Int))) :=
  (appI 40 ([] : List (Int × Int × Int × Int × Int)) v3).bind fun v7 =>
  some (v1, v2, v7)

end Go.Rex

namespace Go.Rex
open Go Go.Rex
noncomputable def array_rig_sound (v1 : Int) (v2 : Int) (v3 : (List (Int × Int × Int × Int × Int))) : Option (Int × Int) :=
  some (v1, v2)

end Go.Rex

namespace Go.Rex
open Go Go.Rex
noncomputable def array_audible (v1 : Int) (v2 : Int) : Option (Int × Int) :=
  some (v1, v2)

end Go.Rex

namespace Go.Rex
open Go Go.Rex
noncomputable def array_counted (v1 : Int) (v2 : Int) : Option (Int × Int) :=
  some (v1, v2)

end Go.Rex

namespace Go.Rex
open Go Go.Rex
noncomputable def array_refuse (v1 : Bool) (v2 : Int) : Option (Bool × Int) :=
  some (v1, v2)

end Go.Rex

namespace Go.Rex
open Go Go.Rex
noncomputable def array_within (v1 : Int) (v2 : Int) (v3 : Int) : Option (Bool × Int) :=
  if (decide (v1 < v2)) = true then
    ((array_refuse true 2).bind fun (v6, v7) =>
    some (v6, v7))
  else
    ((array_refuse (decide (v1 > v3)) 2).bind fun (v8, v9) =>
    some (v8, v9))

end Go.Rex

namespace Go.Rex
open Go Go.Rex
noncomputable def array_refuse_c1_11f9 (v1 : Bool) (v2 : Int) : Option (Int) :=
  if v1 = true then
    (some (v2))
  else
    (some (0))

end Go.Rex

namespace Go.Rex
open Go Go.Rex
noncomputable def array_firstError_751b (v1 : Bool) (v2 : Int) (v3 : Bool) (v4 : Int) : Option (Int) :=
  (array_refuse_c1_11f9 v1 v2).bind fun v6 =>
  if (decide (v6 ≠ 0)) = true then
    (some (v6))
  else
    ((array_refuse_c1_11f9 v3 v4).bind fun v7 =>
    if (decide (v7 ≠ 0)) = true then
      (some (v7))
    else
      (some (0)))

end Go.Rex

namespace Go.Rex
open Go Go.Rex
noncomputable def array_audible_c1_eebc (v1 : Int) (v2 : Int) : Option (Int) :=
  (array_within v1 8000 192000).bind fun (v4, v5) =>
  (array_within v2 30000 40000).bind fun (v6, v7) =>
  (array_firstError_751b v4 v5 v6 v7).bind fun v8 =>
  some (v8)

end Go.Rex

namespace Go.Rex
open Go Go.Rex
noncomputable def array_counted_c1_b585 (v1 : Int) (v2 : Int) : Option (Int) :=
  (array_refuse (decide (v1 = 0)) 10).bind fun (v4, v5) =>
  (array_refuse (decide (v1 > v2)) 8).bind fun (v6, v7) =>
  (array_firstError_751b v4 v5 v6 v7).bind fun v8 =>
  some (v8)

end Go.Rex

namespace Go.Rex
open Go Go.Rex
noncomputable def array_firstError_2e50 (v1 : Int) (v2 : Int) (v3 : Int) (v4 : Int) : Option (Int) :=
  (array_audible_c1_eebc v1 v2).bind fun v6 =>
  if (decide (v6 ≠ 0)) = true then
    (some (v6))
  else
    ((array_counted_c1_b585 v3 v4).bind fun v7 =>
    if (decide (v7 ≠ 0)) = true then
      (some (v7))
    else
      (some (0)))

end Go.Rex

namespace Go.Rex
open Go Go.Rex
noncomputable def array_each_aa71 (v1 : Int) (v2 : (List Int)) (v3 : Int) (v4 : Int) : Option (Int × (List Int) × Int × Int) :=
  some (v1, v2, v3, v4)

end Go.Rex

namespace Go.Rex
open Go Go.Rex
noncomputable def array_allWithin (v1 : (List Int)) (v2 : Int) (v3 : Int) : Option (Int × (List Int) × Int × Int) :=
  (array_each_aa71 (v1.length : Int) v1 v2 v3).bind fun (v8, v9, v10, v11) =>
  some (v8, v9, v10, v11)

end Go.Rex

namespace Go.Rex
open Go Go.Rex
noncomputable def array_placed (v1 : Int) (v2 : Int) (v3 : Int) : Option (Int × (List Int) × Int × Int) :=
  (array_allWithin ([v1, v2, v3] : List Int) (-5000) 5000).bind fun (v8, v9, v10, v11) =>
  some (v8, v9, v10, v11)

end Go.Rex

namespace Go.Rex
open Go Go.Rex
noncomputable def array_adjusted (v1 : Int) (v2 : Int) : Option (Int × Int) :=
  some (v1, v2)

end Go.Rex

namespace Go.Rex
open Go Go.Rex
noncomputable def array_allWithin_c1_ea58 (v1 : Int) (v2 : (List Int)) (v3 : Int) (v4 : Int) : Option (Int) :=
  (getI v2 v1).bind fun v6 =>
  (array_within v6 v3 v4).bind fun (v7, v8) =>
  (array_refuse_c1_11f9 v7 v8).bind fun v9 =>
  some (v9)

end Go.Rex

namespace Go.Rex
open Go Go.Rex
noncomputable def array_each_c1_6239_l1 (v1 : Int) (v2 : (List Int)) (v3 : Int) (v4 : Int) : (Int) → Option ((Int) ⊕ ((Int) ⊕ (Unit))) := fun v6 =>
  if (decide (v6 < v1)) = true then
    ((array_allWithin_c1_ea58 v6 v2 v3 v4).bind fun v9 =>
    if (decide (v9 ≠ 0)) = true then
      (some (.inr (.inl v9)))
    else
      (some (.inl (IntKind.i64.wrap (v6 + 1)))))
  else
    (some (.inr (.inr ())))
noncomputable def array_each_c1_6239 (v1 : Int) (v2 : (List Int)) (v3 : Int) (v4 : Int) : Option (Int) :=
  (run (array_each_c1_6239_l1 v1 v2 v3 v4) 0).bind fun v10 => match v10 with
  | (.inl v11) =>
    some (v11)
  | (.inr _) =>
    some (0)

end Go.Rex

namespace Go.Rex
open Go Go.Rex
noncomputable def array_adjusted_c1_b585 (v1 : Int) (v2 : Int) : Option (Int) :=
  (array_within v1 0 1000).bind fun (v4, v5) =>
  (array_within v2 0 10000).bind fun (v6, v7) =>
  (array_firstError_751b v4 v5 v6 v7).bind fun v8 =>
  some (v8)

end Go.Rex

namespace Go.Rex
open Go Go.Rex
noncomputable def array_firstError_34f2 (v1 : Int) (v2 : (List Int)) (v3 : Int) (v4 : Int) (v5 : Int) (v6 : Int) : Option (Int) :=
  (array_each_c1_6239 v1 v2 v3 v4).bind fun v8 =>
  if (decide (v8 ≠ 0)) = true then
    (some (v8))
  else
    ((array_adjusted_c1_b585 v5 v6).bind fun v9 =>
    if (decide (v9 ≠ 0)) = true then
      (some (v9))
    else
      (some (0)))

end Go.Rex

namespace Go.Rex
open Go Go.Rex
noncomputable def array_CheckArray_l1 (v3 : (List (Int × Int × Int × Int × Int))) : (Int) → Option ((Int) ⊕ ((Int × Int) ⊕ (Unit))) := fun v13 =>
  if (decide (v13 < (v3.length : Int))) = true then
    ((getI v3 v13).bind fun (v28, v29, v30, v31, v32) =>
    (array_placed v28 v29 v30).bind fun (v33, v34, v35, v36) =>
    (array_adjusted v31 v32).bind fun (v37, v38) =>
    (array_firstError_34f2 v33 v34 v35 v36 v37 v38).bind fun v39 =>
    if (decide (v39 ≠ 0)) = true then
      (some (.inr (.inl (v13, v39))))
    else
      (some (.inl (IntKind.i64.wrap (v13 + 1)))))
  else
    (some (.inr (.inr ())))
noncomputable def array_CheckArray (v1 : Int) (v2 : Int) (v3 : (List (Int × Int × Int × Int × Int))) : Option (Int × Int) :=
  (array_rig_sound v1 v2 v3).bind fun (v6, v7) =>
  (array_audible v6 v7).bind fun (v8, v9) =>
  (array_counted (v3.length : Int) 8).bind fun (v10, v11) =>
  (array_firstError_2e50 v8 v9 v10 v11).bind fun v12 =>
  if (decide (v12 ≠ 0)) = true then
    (some (0, v12))
  else
    ((run (array_CheckArray_l1 v3) 0).bind fun v40 => match v40 with
    | (.inl (v41, v42)) =>
      some (v41, v42)
    | (.inr _) =>
      some (0, 0))

end Go.Rex

namespace Go.Rex
open Go Go.Rex
noncomputable def array_rig_check (v1 : Int) (v2 : Int) (v3 : (List (Int × Int × Int × Int × Int))) : Option (Int) :=
  (array_CheckArray v1 v2 v3).bind fun (v5, v6) =>
  some (v6)

end Go.Rex

namespace Go.Rex
open Go Go.Rex
noncomputable def array_firstError_ed22 (v1 : Int) (v2 : Int) (v3 : (List (Int × Int × Int × Int × Int))) (v4 : Bool) (v5 : Int) : Option (Int) :=
  (array_rig_check v1 v2 v3).bind fun v7 =>
  if (decide (v7 ≠ 0)) = true then
    (some (v7))
  else
    ((array_refuse_c1_11f9 v4 v5).bind fun v8 =>
    if (decide (v8 ≠ 0)) = true then
      (some (v8))
    else
      (some (0)))

end Go.Rex

namespace Go.Rex
open Go Go.Rex
noncomputable def slices_Clone_api_ArraySpeaker_api_ArraySpeaker (v1 : (List (Int × Int × Int × Int × Int))) : Option ((List (Int × Int × Int × Int × Int))) :=
  nilq v1
    (some (([] : List (Int × Int × Int × Int × Int))))
    ((appI 40 ([] : List (Int × Int × Int × Int × Int)) v1).bind fun v3 =>
    some (v3))

end Go.Rex

namespace Go.Rex
open Go Go.Rex
noncomputable def array_rig_copied (v1 : Int) (v2 : Int) (v3 : (List (Int × Int × Int × Int × Int))) : Option (Int × Int × (List (Int × Int × Int × Int × Int))) :=
  (slices_Clone_api_ArraySpeaker_api_ArraySpeaker v3).bind fun v7 =>
  some (v1, v2, v7)

end Go.Rex

namespace Go.Rex
open Go Go.Rex
noncomputable def array_Muted (v1 : Int) (v2 : Int) (v3 : (List (Int × Int × Int × Int × Int))) (v4 : Int) : Option (Int × Int × (List (Int × Int × Int × Int × Int)) × Int) :=
  if (decide (0 ≤ v4)) = true then
    ((array_refuse (!(decide (v4 < (v3.length : Int)))) 6).bind fun (v9, v10) =>
    (array_firstError_ed22 v1 v2 v3 v9 v10).bind fun v11 =>
    if (decide (v11 ≠ 0)) = true then
      (some (0, 0, ([] : List (Int × Int × Int × Int × Int)), v11))
    else
      ((array_rig_copied v1 v2 v3).bind fun (v12, v13, v14) =>
      (getI v14 v4).bind fun (v15, v16, v17, v18, v19) =>
      some (v12, v13, (v14.set v4.toNat (v15, v16, v17, 0, v19)), 0)))
  else
    ((array_refuse true 6).bind fun (v20, v21) =>
    (array_firstError_ed22 v1 v2 v3 v20 v21).bind fun v22 =>
    if (decide (v22 ≠ 0)) = true then
      (some (0, 0, ([] : List (Int × Int × Int × Int × Int)), v22))
    else
      ((array_rig_copied v1 v2 v3).bind fun (v23, v24, v25) =>
      (getI v25 v4).bind fun (v26, v27, v28, v29, v30) =>
      some (v23, v24, (v25.set v4.toNat (v26, v27, v28, 0, v30)), 0)))

end Go.Rex

namespace Go.Rex
open Go Go.Rex
noncomputable def ref07_Sound (v1 : Int) (v2 : Int) (v3 : (List (Int × Int × Int × Int × Int))) : Option (Int × Int) :=
  some (v1, v2)

end Go.Rex

namespace Go.Rex
open Go Go.Rex
noncomputable def base_Within (v1 : Int) (v2 : Int) (v3 : Int) : Option (Bool) :=
  if (decide (v2 ≤ v1)) = true then
    (some ((decide (v1 ≤ v3))))
  else
    (some (false))

end Go.Rex

namespace Go.Rex
open Go Go.Rex
noncomputable def ref07_SoundErr (v1 : Int) (v2 : Int) : Option (Int) :=
  (base_Within v1 8000 192000).bind fun v4 =>
  if v4 = true then
    ((base_Within v2 30000 40000).bind fun v5 =>
    if v5 = true then
      (some (0))
    else
      (some (2)))
  else
    (some (2))

end Go.Rex

namespace Go.Rex
open Go Go.Rex
noncomputable def ref07_PlaceErr (v1 : Int) (v2 : Int) (v3 : Int) : Option (Int) :=
  (base_Within v1 (-5000) 5000).bind fun v5 =>
  if v5 = true then
    ((base_Within v2 (-5000) 5000).bind fun v6 =>
    if v6 = true then
      ((base_Within v3 (-5000) 5000).bind fun v7 =>
      if v7 = true then
        (some (0))
      else
        (some (2)))
    else
      (some (2)))
  else
    (some (2))

end Go.Rex

namespace Go.Rex
open Go Go.Rex
noncomputable def ref07_GainErr (v1 : Int) (v2 : Int) : Option (Int) :=
  (base_Within v1 0 1000).bind fun v4 =>
  if v4 = true then
    ((base_Within v2 0 10000).bind fun v5 =>
    if v5 = true then
      (some (0))
    else
      (some (2)))
  else
    (some (2))

end Go.Rex

namespace Go.Rex
open Go Go.Rex
noncomputable def ref07_CheckArray_l1 (v3 : (List (Int × Int × Int × Int × Int))) : (Int) → Option ((Int) ⊕ ((Int) ⊕ (Unit))) := fun v9 =>
  if (decide (v9 < (v3.length : Int))) = true then
    ((getI v3 v9).bind fun (v18, v19, v20, v21, v22) =>
    (ref07_PlaceErr v18 v19 v20).bind fun v23 =>
    if (decide (v23 ≠ 0)) = true then
      (some (.inr (.inl v9)))
    else
      ((ref07_GainErr v21 v22).bind fun v24 =>
      if (decide (v24 ≠ 0)) = true then
        (some (.inr (.inl v9)))
      else
        (some (.inl (IntKind.i64.wrap (v9 + 1))))))
  else
    (some (.inr (.inr ())))
noncomputable def ref07_CheckArray (v1 : Int) (v2 : Int) (v3 : (List (Int × Int × Int × Int × Int))) : Option (Int × Int) :=
  (ref07_Sound v1 v2 v3).bind fun (v6, v7) =>
  (ref07_SoundErr v6 v7).bind fun v8 =>
  if (decide (v8 ≠ 0)) = true then
    (some (0, v8))
  else
    (if (decide ((v3.length : Int) = 0)) = true then
      (some (0, 10))
    else
      (if (decide ((v3.length : Int) > 8)) = true then
        (some (0, 8))
      else
        ((run (ref07_CheckArray_l1 v3) 0).bind fun v25 => match v25 with
        | (.inl v26) =>
          some (v26, 2)
        | (.inr _) =>
          some (0, 0))))

end Go.Rex

namespace Go.Rex
open Go Go.Rex
noncomputable def ref07_Same_1134_l1 (v3 : (List (Int × Int × Int × Int × Int))) : (Unit) → Option ((Unit) ⊕ ((Unit))) := fun _ =>
  if (decide (0 < (v3.length : Int))) = true then
    ((getI v3 0).bind fun (v12, v13, v14, v15, v16) =>
    none)
  else
    (some (.inr ()))
noncomputable def ref07_Same_1134 (v1 : Int) (v2 : Int) (v3 : (List (Int × Int × Int × Int × Int))) (v4 : Int) (v5 : Int) : Option (Bool) :=
  if (decide (v1 ≠ v4)) = true then
    (some (false))
  else
    (if (decide (v2 ≠ v5)) = true then
      (some (false))
    else
      (if (decide ((v3.length : Int) ≠ 0)) = true then
        (some (false))
      else
        ((run (ref07_Same_1134_l1 v3) ()).bind fun _ =>
        some (true))))

end Go.Rex

namespace Go.Rex
open Go Go.Rex
noncomputable def ref07_Same_l1 (v3 : (List (Int × Int × Int × Int × Int))) (v6 : (List (Int × Int × Int × Int × Int))) : (Int) → Option ((Int) ⊕ ((Unit) ⊕ (Unit))) := fun v8 =>
  if (decide (v8 < (v3.length : Int))) = true then
    ((getI v3 v8).bind fun (v19, v20, v21, v22, v23) =>
    (getI v6 v8).bind fun (v24, v25, v26, v27, v28) =>
    if ([[v19 == v24, v20 == v25, v21 == v26].all id, v22 == v27, v23 == v28].all id) = true then
      (some (.inl (IntKind.i64.wrap (v8 + 1))))
    else
      (some (.inr (.inl ()))))
  else
    (some (.inr (.inr ())))
noncomputable def ref07_Same (v1 : Int) (v2 : Int) (v3 : (List (Int × Int × Int × Int × Int))) (v4 : Int) (v5 : Int) (v6 : (List (Int × Int × Int × Int × Int))) : Option (Bool) :=
  if (decide (v1 ≠ v4)) = true then
    (some (false))
  else
    (if (decide (v2 ≠ v5)) = true then
      (some (false))
    else
      (if (decide ((v3.length : Int) ≠ (v6.length : Int))) = true then
        (some (false))
      else
        ((run (ref07_Same_l1 v3 v6) 0).bind fun v29 => match v29 with
        | (.inl _) =>
          some (false)
        | (.inr _) =>
          some (true))))

end Go.Rex

namespace Go.Rex
open Go Go.Rex
noncomputable def law07_ArrayChecks (v1 : Int) (v2 : Int) (v3 : (List (Int × Int × Int × Int × Int))) (v4 : Int) : Option Bool :=
  (law07_few v1 v2 v3).bind fun v6 =>
  if v6 = true then
    ((ref07_Copy v1 v2 v3).bind fun (v7, v8, v9) =>
    (array_CheckArray v7 v8 v9).bind fun (v10, v11) =>
    (ref07_Copy v1 v2 v3).bind fun (v12, v13, v14) =>
    (array_Muted v12 v13 v14 v4).bind fun (v15, v16, v17, v18) =>
    (ref07_CheckArray v1 v2 v3).bind fun (v19, v20) =>
    if (decide (v11 ≠ v20)) = true then
      (some (false))
    else
      (if (decide (v10 ≠ v19)) = true then
        (some (false))
      else
        (if (decide (v20 = 0)) = true then
          ((base_Within v4 0 (IntKind.i64.wrap ((v3.length : Int) - 1))).bind fun v21 =>
          if v21 = true then
            (if (decide (v20 ≠ 0)) = true then
              (if (decide (v18 = v20)) = true then
                ((ref07_Same_1134 v15 v16 v17 0 0).bind fun v22 =>
                some (v22))
              else
                (some (false)))
            else
              ((ref07_Copy v1 v2 v3).bind fun (v23, v24, v25) =>
              (getI v25 v4).bind fun (v26, v27, v28, v29, v30) =>
              if (decide (v18 = 0)) = true then
                ((ref07_Same v15 v16 v17 v23 v24 (v25.set v4.toNat (v26, v27, v28, 0, v30))).bind fun v31 =>
                some (v31))
              else
                (some (false))))
          else
            (if (decide (v18 = 6)) = true then
              ((ref07_Same_1134 v15 v16 v17 0 0).bind fun v32 =>
              some (v32))
            else
              (some (false))))
        else
          (if (decide (v20 ≠ 0)) = true then
            (if (decide (v18 = v20)) = true then
              ((ref07_Same_1134 v15 v16 v17 0 0).bind fun v33 =>
              some (v33))
            else
              (some (false)))
          else
            ((ref07_Copy v1 v2 v3).bind fun (v34, v35, v36) =>
            (getI v36 v4).bind fun (v37, v38, v39, v40, v41) =>
            if (decide (v18 = 0)) = true then
              ((ref07_Same v15 v16 v17 v34 v35 (v36.set v4.toNat (v37, v38, v39, 0, v41))).bind fun v42 =>
              some (v42))
            else
              (some (false)))))))
  else
    (some (true))

end Go.Rex

namespace Go.Rex
open Go Go.Rex
noncomputable def array_way_square (v1 : Int) (v2 : Int) (v3 : Int) (v4 : Int) (v5 : Int) (v6 : Int) : Option (Int) :=
  some ((IntKind.i64.wrap ((IntKind.i64.wrap ((IntKind.i64.wrap ((IntKind.i64.wrap (v4 - v1)) * (IntKind.i64.wrap (v4 - v1)))) + (IntKind.i64.wrap ((IntKind.i64.wrap (v5 - v2)) * (IntKind.i64.wrap (v5 - v2)))))) + (IntKind.i64.wrap ((IntKind.i64.wrap (v6 - v3)) * (IntKind.i64.wrap (v6 - v3)))))))

end Go.Rex

namespace Go.Rex
open Go Go.Rex
noncomputable def array_root_c1_d3d3 (v1 : Int) (v2 : Int) : Option (Bool) :=
  some ((decide ((IntKind.i64.wrap ((IntKind.i64.wrap (v1 + 1)) * (IntKind.i64.wrap (v1 + 1)))) > v2)))

end Go.Rex

namespace Go.Rex
open Go Go.Rex
noncomputable def sort_Search_2a44_l1 (v2 : Int) : (Int × Int) → Option ((Int × Int) ⊕ ((Int))) := fun (v4, v5) =>
  if (decide (v4 < v5)) = true then
    ((shI .shr .u64 (IntKind.u64.wrap (IntKind.i64.wrap (v4 + v5))) 1).bind fun v9 =>
    (array_root_c1_d3d3 (IntKind.i64.wrap v9) v2).bind fun v10 =>
    if v10 = true then
      (some (.inl (v4, (IntKind.i64.wrap v9))))
    else
      (some (.inl ((IntKind.i64.wrap ((IntKind.i64.wrap v9) + 1)), v5))))
  else
    (some (.inr v4))
noncomputable def sort_Search_2a44 (v1 : Int) (v2 : Int) : Option (Int) :=
  (run (sort_Search_2a44_l1 v2) (0, v1)).bind fun v11 =>
  some (v11)

end Go.Rex

namespace Go.Rex
open Go Go.Rex
noncomputable def array_root (v1 : Int) : Option (Int × Int) :=
  (sort_Search_2a44 2147483648 v1).bind fun v4 =>
  if (decide ((IntKind.i64.wrap (v4 * v4)) = v1)) = true then
    (some (v4, v4))
  else
    (some (v4, (IntKind.i64.wrap (v4 + 1))))

end Go.Rex

namespace Go.Rex
open Go Go.Rex
noncomputable def array_way_length (v1 : Int) (v2 : Int) (v3 : Int) (v4 : Int) (v5 : Int) (v6 : Int) : Option (Int × Int) :=
  (array_way_square v1 v2 v3 v4 v5 v6).bind fun v9 =>
  (array_root (IntKind.i64.wrap (1000000 * v9))).bind fun (v10, v11) =>
  some (v10, v11)

end Go.Rex

namespace Go.Rex
open Go Go.Rex
noncomputable def array_up (v1 : Int) (v2 : Int) : Option (Int) :=
  if v2 = 0 then none else
  (some ((IntKind.i64.wrap ((IntKind.i64.wrap ((IntKind.i64.wrap (v1 + v2)) - 1)).tdiv v2))))

end Go.Rex

namespace Go.Rex
open Go Go.Rex
noncomputable def array_scaled (v1 : Int) (v2 : Int) (v3 : Int) (v4 : Int) : Option (Int × Int) :=
  if v4 = 0 then none else
  ((array_up (IntKind.i64.wrap (v2 * v3)) v4).bind fun v7 =>
  some ((IntKind.i64.wrap ((IntKind.i64.wrap (v1 * v3)).tdiv v4)), v7))

end Go.Rex

namespace Go.Rex
open Go Go.Rex
noncomputable def array_way_numbers_c1 (v1 : Int) : Option (Int) :=
  some ((IntKind.i64.wrap ((IntKind.i64.wrap (v1 + 500)).tdiv 1000)))

end Go.Rex

namespace Go.Rex
open Go Go.Rex
noncomputable def array_way_numbers (v1 : Int) (v2 : Int) (v3 : Int) (v4 : Int) (v5 : Int) (v6 : Int) (v7 : Int) (v8 : Int) : Option (Int × Int) :=
  (array_way_length v1 v2 v3 v4 v5 v6).bind fun (v11, v12) =>
  (array_scaled v11 v12 v7 v8).bind fun (v13, v14) =>
  (array_way_numbers_c1 v13).bind fun v15 =>
  (array_way_numbers_c1 v14).bind fun v16 =>
  some (v15, v16)

end Go.Rex

namespace Go.Rex
open Go Go.Rex
noncomputable def array_way_strength (v1 : Int) (v2 : Int) (v3 : Int) (v4 : Int) (v5 : Int) (v6 : Int) : Option (Int × Int) :=
  (array_way_length v1 v2 v3 v4 v5 v6).bind fun (v9, v10) =>
  if v10 = 0 then none else
  ((array_up 1000000000 v9).bind fun v11 =>
  some ((IntKind.i64.wrap ((1000000000 : Int).tdiv v10)), v11))

end Go.Rex

namespace Go.Rex
open Go Go.Rex
noncomputable def array_way_apart (v1 : Int) (v2 : Int) (v3 : Int) (v4 : Int) (v5 : Int) (v6 : Int) : Option (Int) :=
  (array_way_square v1 v2 v3 v4 v5 v6).bind fun v8 =>
  (array_refuse (decide (v8 < 100)) 11).bind fun (v9, v10) =>
  (array_refuse_c1_11f9 v9 v10).bind fun v11 =>
  some (v11)

end Go.Rex

namespace Go.Rex
open Go Go.Rex
noncomputable def array_each_a530 (v1 : Int) (v2 : Int) (v3 : Int) (v4 : (List (Int × Int × Int × Int × Int))) (v5 : Int) (v6 : Int) (v7 : Int) : Option (Int × Int × Int × (List (Int × Int × Int × Int × Int)) × Int × Int × Int) :=
  some (v1, v2, v3, v4, v5, v6, v7)

end Go.Rex

namespace Go.Rex
open Go Go.Rex
noncomputable def array_heard_wayFrom (v1 : Int) (v2 : Int) (v3 : (List (Int × Int × Int × Int × Int))) (v4 : Int) (v5 : Int) (v6 : Int) (v7 : Int) (v8 : Int) (v9 : Int) (v10 : Int) (v11 : Int) : Option (Int × Int × Int × Int × Int × Int) :=
  some (v7, v8, v9, v4, v5, v6)

end Go.Rex

namespace Go.Rex
open Go Go.Rex
noncomputable def array_heard_seated_c1_09d0 (v1 : Int) (v2 : Int) (v3 : Int) (v4 : (List (Int × Int × Int × Int × Int))) (v5 : Int) (v6 : Int) (v7 : Int) : Option (Int) :=
  (getI v4 v1).bind fun (v9, v10, v11, v12, v13) =>
  (array_heard_wayFrom v2 v3 v4 v5 v6 v7 v9 v10 v11 v12 v13).bind fun (v14, v15, v16, v17, v18, v19) =>
  (array_way_apart v14 v15 v16 v17 v18 v19).bind fun v20 =>
  some (v20)

end Go.Rex

namespace Go.Rex
open Go Go.Rex
noncomputable def array_each_c1_d3aa_l1 (v1 : Int) (v2 : Int) (v3 : Int) (v4 : (List (Int × Int × Int × Int × Int))) (v5 : Int) (v6 : Int) (v7 : Int) : (Int) → Option ((Int) ⊕ ((Int) ⊕ (Unit))) := fun v9 =>
  if (decide (v9 < v1)) = true then
    ((array_heard_seated_c1_09d0 v9 v2 v3 v4 v5 v6 v7).bind fun v12 =>
    if (decide (v12 ≠ 0)) = true then
      (some (.inr (.inl v12)))
    else
      (some (.inl (IntKind.i64.wrap (v9 + 1)))))
  else
    (some (.inr (.inr ())))
noncomputable def array_each_c1_d3aa (v1 : Int) (v2 : Int) (v3 : Int) (v4 : (List (Int × Int × Int × Int × Int))) (v5 : Int) (v6 : Int) (v7 : Int) : Option (Int) :=
  (run (array_each_c1_d3aa_l1 v1 v2 v3 v4 v5 v6 v7) 0).bind fun v13 => match v13 with
  | (.inl v14) =>
    some (v14)
  | (.inr _) =>
    some (0)

end Go.Rex

namespace Go.Rex
open Go Go.Rex
noncomputable def array_firstError_71a7 (v1 : Int) (v2 : (List Int)) (v3 : Int) (v4 : Int) (v5 : Int) (v6 : Int) (v7 : Int) (v8 : (List (Int × Int × Int × Int × Int))) (v9 : Int) (v10 : Int) (v11 : Int) : Option (Int) :=
  (array_each_c1_6239 v1 v2 v3 v4).bind fun v13 =>
  if (decide (v13 ≠ 0)) = true then
    (some (v13))
  else
    ((array_each_c1_d3aa v5 v6 v7 v8 v9 v10 v11).bind fun v14 =>
    if (decide (v14 ≠ 0)) = true then
      (some (v14))
    else
      (some (0)))

end Go.Rex

namespace Go.Rex
open Go Go.Rex
noncomputable def array_heard_seated (v1 : Int) (v2 : Int) (v3 : (List (Int × Int × Int × Int × Int))) (v4 : Int) (v5 : Int) (v6 : Int) : Option (Int) :=
  (array_placed v4 v5 v6).bind fun (v8, v9, v10, v11) =>
  (array_each_a530 (v3.length : Int) v1 v2 v3 v4 v5 v6).bind fun (v12, v13, v14, v15, v16, v17, v18) =>
  (array_firstError_71a7 v8 v9 v10 v11 v12 v13 v14 v15 v16 v17 v18).bind fun v19 =>
  some (v19)

end Go.Rex

namespace Go.Rex
open Go Go.Rex
noncomputable def array_firstError_05b8 (v1 : Int) (v2 : Int) (v3 : (List (Int × Int × Int × Int × Int))) (v4 : Int) (v5 : Int) (v6 : (List (Int × Int × Int × Int × Int))) (v7 : Int) (v8 : Int) (v9 : Int) : Option (Int) :=
  (array_rig_check v1 v2 v3).bind fun v11 =>
  if (decide (v11 ≠ 0)) = true then
    (some (v11))
  else
    ((array_heard_seated v4 v5 v6 v7 v8 v9).bind fun v12 =>
    if (decide (v12 ≠ 0)) = true then
      (some (v12))
    else
      (some (0)))

end Go.Rex
