/- The functions of the program and of the reference, as functions of lists and numbers. -/
import Derived.Test.YtkdhkfaakklhaaaGreatRexG8
set_option linter.unusedSimpArgs false
set_option linter.unusedVariables false
set_option linter.defProp false
namespace Go.Rex
open Go Go.Rex
def e_i (x : Int) : List TV := [.v (.int .i64 x)]
def e_iiii (x : (Int × Int × Int × Int)) : List TV := [.v (.int .i64 x.1), .v (.int .i64 x.2.1), .v (.int .i64 x.2.2.1), .v (.int .i64 x.2.2.2)]
def e_Li_Liiii_i (x : ((List Int) × (List (Int × Int × Int × Int)) × Int)) : List TV := [.list 1 (x.1.map e_i), .list 4 (x.2.1.map e_iiii), .v (.int .i64 x.2.2)]

end Go.Rex

namespace Go.Rex
open Go Go.Rex
noncomputable def base_CopyInts (v1 : (List Int)) : Option ((List Int)) :=
  (appI 8 ([] : List Int) v1).bind fun v3 =>
  some (v3)

end Go.Rex

namespace Go.Rex
open Go Go.Rex
noncomputable def ref02_CopyPath (v1 : (List Int)) (v2 : (List (Int × Int × Int × Int))) (v3 : Int) : Option ((List Int) × (List (Int × Int × Int × Int)) × Int) :=
  (base_CopyInts v1).bind fun v7 =>
  (appI 32 ([] : List (Int × Int × Int × Int)) v2).bind fun v8 =>
  some (v7, v8, v3)

end Go.Rex

namespace Go.Rex
open Go Go.Rex
noncomputable def ref02_CopyPaths_l1 (v1 : (List ((List Int) × (List (Int × Int × Int × Int)) × Int))) : ((List ((List Int) × (List (Int × Int × Int × Int)) × Int)) × Int) → Option (((List ((List Int) × (List (Int × Int × Int × Int)) × Int)) × Int) ⊕ (((List ((List Int) × (List (Int × Int × Int × Int)) × Int))))) := fun (v3, v4) =>
  if (decide (v4 < (v1.length : Int))) = true then
    ((getI v1 v4).bind fun (v13, v14, v15) =>
    (ref02_CopyPath v13 v14 v15).bind fun (v16, v17, v18) =>
    (appI 56 v3 ([(v16, v17, v18)] : List ((List Int) × (List (Int × Int × Int × Int)) × Int))).bind fun v19 =>
    some (.inl (v19, (IntKind.i64.wrap (v4 + 1)))))
  else
    (some (.inr v3))
noncomputable def ref02_CopyPaths (v1 : (List ((List Int) × (List (Int × Int × Int × Int)) × Int))) : Option ((List ((List Int) × (List (Int × Int × Int × Int)) × Int))) :=
  (run (ref02_CopyPaths_l1 v1) (([] : List ((List Int) × (List (Int × Int × Int × Int)) × Int)), 0)).bind fun v20 =>
  some (v20)

end Go.Rex

namespace Go.Rex
open Go Go.Rex
noncomputable def image_listed (v1 : (List ((List Int) × (List (Int × Int × Int × Int)) × Int))) : Option ((List ((List Int) × (List (Int × Int × Int × Int)) × Int))) :=
  some (v1)

end Go.Rex

namespace Go.Rex
open Go Go.Rex
noncomputable def image_refuse (v1 : Bool) (v2 : Int) : Option (Bool × Int) :=
  some (v1, v2)

end Go.Rex

namespace Go.Rex
open Go Go.Rex
noncomputable def image_within (v1 : Int) (v2 : Int) (v3 : Int) : Option (Bool × Int) :=
  if (decide (v1 < v2)) = true then
    ((image_refuse true 2).bind fun (v6, v7) =>
    some (v6, v7))
  else
    ((image_refuse (decide (v1 > v3)) 2).bind fun (v8, v9) =>
    some (v8, v9))

end Go.Rex

namespace Go.Rex
open Go Go.Rex
noncomputable def image_audible (v1 : Int) : Option (Bool × Int) :=
  (image_within v1 30000 40000).bind fun (v4, v5) =>
  some (v4, v5)

end Go.Rex

namespace Go.Rex
open Go Go.Rex
noncomputable def image_whole (v1 : (List Int)) (v2 : (List (Int × Int × Int × Int))) (v3 : Int) : Option ((List Int) × (List (Int × Int × Int × Int)) × Int) :=
  some (v1, v2, v3)

end Go.Rex

namespace Go.Rex
open Go Go.Rex
noncomputable def image_refuse_c1_11f9 (v1 : Bool) (v2 : Int) : Option (Int) :=
  if v1 = true then
    (some (v2))
  else
    (some (0))

end Go.Rex

namespace Go.Rex
open Go Go.Rex
noncomputable def image_firstError_262d (v1 : Bool) (v2 : Int) (v3 : Bool) (v4 : Int) (v5 : Bool) (v6 : Int) : Option (Int) :=
  (image_refuse_c1_11f9 v1 v2).bind fun v8 =>
  if (decide (v8 ≠ 0)) = true then
    (some (v8))
  else
    ((image_refuse_c1_11f9 v3 v4).bind fun v9 =>
    if (decide (v9 ≠ 0)) = true then
      (some (v9))
    else
      ((image_refuse_c1_11f9 v5 v6).bind fun v10 =>
      if (decide (v10 ≠ 0)) = true then
        (some (v10))
      else
        (some (0))))

end Go.Rex

namespace Go.Rex
open Go Go.Rex
noncomputable def image_whole_c1_fa7c (v1 : (List Int)) (v2 : (List (Int × Int × Int × Int))) (v3 : Int) : Option (Int) :=
  (image_refuse (decide ((v2.length : Int) ≠ (v1.length : Int))) 10).bind fun (v5, v6) =>
  (image_refuse (decide ((v1.length : Int) > 4)) 8).bind fun (v7, v8) =>
  (image_within v3 1 24300000000).bind fun (v9, v10) =>
  (image_firstError_262d v5 v6 v7 v8 v9 v10).bind fun v11 =>
  some (v11)

end Go.Rex

namespace Go.Rex
open Go Go.Rex
noncomputable def image_firstError_cd3e (v1 : (List Int)) (v2 : (List (Int × Int × Int × Int))) (v3 : Int) (v4 : Bool) (v5 : Int) : Option (Int) :=
  (image_whole_c1_fa7c v1 v2 v3).bind fun v7 =>
  if (decide (v7 ≠ 0)) = true then
    (some (v7))
  else
    ((image_refuse_c1_11f9 v4 v5).bind fun v8 =>
    if (decide (v8 ≠ 0)) = true then
      (some (v8))
    else
      (some (0)))

end Go.Rex

namespace Go.Rex
open Go Go.Rex
noncomputable def image_listed_c1_26c7_l1 (v1 : (List ((List Int) × (List (Int × Int × Int × Int)) × Int))) : (Int) → Option ((Int) ⊕ ((Int) ⊕ (Unit))) := fun v3 =>
  if (decide (v3 < (v1.length : Int))) = true then
    ((getI v1 v3).bind fun (v23, v24, v25) =>
    if (decide (v3 > 0)) = true then
      ((getI v1 (IntKind.i64.wrap (v3 - 1))).bind fun (v26, v27, v28) =>
      (image_whole v23 v24 v25).bind fun (v29, v30, v31) =>
      (image_refuse (decide (v25 < v28)) 9).bind fun (v32, v33) =>
      (image_firstError_cd3e v29 v30 v31 v32 v33).bind fun v34 =>
      if (decide (v34 ≠ 0)) = true then
        (some (.inr (.inl v34)))
      else
        (some (.inl (IntKind.i64.wrap (v3 + 1)))))
    else
      ((image_whole v23 v24 v25).bind fun (v35, v36, v37) =>
      (image_refuse false 9).bind fun (v38, v39) =>
      (image_firstError_cd3e v35 v36 v37 v38 v39).bind fun v40 =>
      if (decide (v40 ≠ 0)) = true then
        (some (.inr (.inl v40)))
      else
        (some (.inl (IntKind.i64.wrap (v3 + 1))))))
  else
    (some (.inr (.inr ())))
noncomputable def image_listed_c1_26c7 (v1 : (List ((List Int) × (List (Int × Int × Int × Int)) × Int))) : Option (Int) :=
  if (decide ((v1.length : Int) > 200)) = true then
    (some (8))
  else
    ((run (image_listed_c1_26c7_l1 v1) 0).bind fun v41 => match v41 with
    | (.inl v42) =>
      some (v42)
    | (.inr _) =>
      some (0))

end Go.Rex

namespace Go.Rex
open Go Go.Rex
noncomputable def image_firstError_30b3 (v1 : (List ((List Int) × (List (Int × Int × Int × Int)) × Int))) (v2 : Bool) (v3 : Int) (v4 : Bool) (v5 : Int) : Option (Int) :=
  (image_listed_c1_26c7 v1).bind fun v7 =>
  if (decide (v7 ≠ 0)) = true then
    (some (v7))
  else
    ((image_refuse_c1_11f9 v2 v3).bind fun v8 =>
    if (decide (v8 ≠ 0)) = true then
      (some (v8))
    else
      ((image_refuse_c1_11f9 v4 v5).bind fun v9 =>
      if (decide (v9 ≠ 0)) = true then
        (some (v9))
      else
        (some (0))))

end Go.Rex

namespace Go.Rex
open Go Go.Rex
noncomputable def image_root_c1_d3d3 (v1 : Int) (v2 : Int) : Option (Bool) :=
  some ((decide ((IntKind.i64.wrap ((IntKind.i64.wrap (v1 + 1)) * (IntKind.i64.wrap (v1 + 1)))) > v2)))

end Go.Rex

namespace Go.Rex
open Go Go.Rex
noncomputable def sort_Search_5a34_l1 (v2 : Int) : (Int × Int) → Option ((Int × Int) ⊕ ((Int))) := fun (v4, v5) =>
  if (decide (v4 < v5)) = true then
    ((shI .shr .u64 (IntKind.u64.wrap (IntKind.i64.wrap (v4 + v5))) 1).bind fun v9 =>
    (image_root_c1_d3d3 (IntKind.i64.wrap v9) v2).bind fun v10 =>
    if v10 = true then
      (some (.inl (v4, (IntKind.i64.wrap v9))))
    else
      (some (.inl ((IntKind.i64.wrap ((IntKind.i64.wrap v9) + 1)), v5))))
  else
    (some (.inr v4))
noncomputable def sort_Search_5a34 (v1 : Int) (v2 : Int) : Option (Int) :=
  (run (sort_Search_5a34_l1 v2) (0, v1)).bind fun v11 =>
  some (v11)

end Go.Rex

namespace Go.Rex
open Go Go.Rex
noncomputable def image_root (v1 : Int) : Option (Int × Int) :=
  (sort_Search_5a34 2147483648 v1).bind fun v4 =>
  if (decide ((IntKind.i64.wrap (v4 * v4)) = v1)) = true then
    (some (v4, v4))
  else
    (some (v4, (IntKind.i64.wrap (v4 + 1))))

end Go.Rex

namespace Go.Rex
open Go Go.Rex
noncomputable def image_lengthOf (v1 : (List Int)) (v2 : (List (Int × Int × Int × Int))) (v3 : Int) : Option (Int × Int) :=
  (image_root (IntKind.i64.wrap (100000000 * v3))).bind fun (v6, v7) =>
  some (v6, v7)

end Go.Rex

namespace Go.Rex
open Go Go.Rex
noncomputable def image_scaled (v1 : Int) (v2 : Int) (v3 : Int) (v4 : Int) : Option (Int × Int) :=
  if v4 = 0 then none else
  (some ((IntKind.i64.wrap ((IntKind.i64.wrap (v1 * v3)).tdiv v4)), (IntKind.i64.wrap ((IntKind.i64.wrap ((IntKind.i64.wrap ((IntKind.i64.wrap (v2 * v3)) + v4)) - 1)).tdiv v4))))

end Go.Rex

namespace Go.Rex
open Go Go.Rex
noncomputable def image_delayOf (v1 : (List Int)) (v2 : (List (Int × Int × Int × Int))) (v3 : Int) (v4 : Int) : Option (Int × Int) :=
  (image_lengthOf v1 v2 v3).bind fun (v7, v8) =>
  (image_scaled v7 v8 100 v4).bind fun (v9, v10) =>
  some (v9, v10)

end Go.Rex

namespace Go.Rex
open Go Go.Rex
noncomputable def image_GapOf (v1 : (List ((List Int) × (List (Int × Int × Int × Int)) × Int))) (v2 : Int) : Option (Int × Int × Int) :=
  (image_listed v1).bind fun v6 =>
  (image_audible v2).bind fun (v7, v8) =>
  (image_refuse (decide ((v1.length : Int) < 2)) 10).bind fun (v9, v10) =>
  (image_firstError_30b3 v6 v7 v8 v9 v10).bind fun v11 =>
  if (decide (v11 ≠ 0)) = true then
    (some (0, 0, v11))
  else
    ((getI v1 0).bind fun (v12, v13, v14) =>
    (image_delayOf v12 v13 v14 v2).bind fun (v15, v16) =>
    (getI v1 1).bind fun (v17, v18, v19) =>
    (image_delayOf v17 v18 v19 v2).bind fun (v20, v21) =>
    some ((if 0 > (IntKind.i64.wrap (v20 - v16)) then 0 else (IntKind.i64.wrap (v20 - v16))), (IntKind.i64.wrap (v21 - v15)), 0))

end Go.Rex

namespace Go.Rex
open Go Go.Rex
noncomputable def image_Arrived_l1 (v1 : (List ((List Int) × (List (Int × Int × Int × Int)) × Int))) (v2 : Int) (v3 : Int) : (Int × Int × Int) → Option ((Int × Int × Int) ⊕ ((Int × Int))) := fun (v13, v14, v15) =>
  if (decide (v15 < (v1.length : Int))) = true then
    ((getI v1 v15).bind fun (v23, v24, v25) =>
    (image_delayOf v23 v24 v25 v2).bind fun (v26, v27) =>
    if (decide (v27 ≤ v3)) = true then
      (if (decide (v26 ≤ v3)) = true then
        (some (.inl ((IntKind.i64.wrap (v13 + 1)), (IntKind.i64.wrap (v14 + 1)), (IntKind.i64.wrap (v15 + 1)))))
      else
        (some (.inl ((IntKind.i64.wrap (v13 + 1)), v14, (IntKind.i64.wrap (v15 + 1))))))
    else
      (if (decide (v26 ≤ v3)) = true then
        (some (.inl (v13, (IntKind.i64.wrap (v14 + 1)), (IntKind.i64.wrap (v15 + 1)))))
      else
        (some (.inl (v13, v14, (IntKind.i64.wrap (v15 + 1)))))))
  else
    (some (.inr (v13, v14)))
noncomputable def image_Arrived (v1 : (List ((List Int) × (List (Int × Int × Int × Int)) × Int))) (v2 : Int) (v3 : Int) : Option (Int × Int × Int) :=
  (image_listed v1).bind fun v7 =>
  (image_audible v2).bind fun (v8, v9) =>
  (image_within v3 0 10000000).bind fun (v10, v11) =>
  (image_firstError_30b3 v7 v8 v9 v10 v11).bind fun v12 =>
  if (decide (v12 ≠ 0)) = true then
    (some (0, 0, v12))
  else
    ((run (image_Arrived_l1 v1 v2 v3) (0, 0, 0)).bind fun (v28, v29) =>
    some (v28, v29, 0))

end Go.Rex

namespace Go.Rex
open Go Go.Rex
noncomputable def base_Within (v1 : Int) (v2 : Int) (v3 : Int) : Option (Bool) :=
  if (decide (v2 ≤ v1)) = true then
    (some ((decide (v1 ≤ v3))))
  else
    (some (false))

end Go.Rex

namespace Go.Rex
open Go Go.Rex
noncomputable def ref02_PathErr (v1 : (List Int)) (v2 : (List (Int × Int × Int × Int))) (v3 : Int) : Option (Int) :=
  if (decide ((v2.length : Int) ≠ (v1.length : Int))) = true then
    (some (10))
  else
    (if (decide ((v1.length : Int) > 4)) = true then
      (some (8))
    else
      ((base_Within v3 1 24300000000).bind fun v5 =>
      if v5 = true then
        (some (0))
      else
        (some (2))))

end Go.Rex

namespace Go.Rex
open Go Go.Rex
noncomputable def ref02_ListErr_l1 (v1 : (List ((List Int) × (List (Int × Int × Int × Int)) × Int))) : (Int) → Option ((Int) ⊕ ((Int) ⊕ (Unit))) := fun v3 =>
  if (decide (v3 < (v1.length : Int))) = true then
    ((getI v1 v3).bind fun (v12, v13, v14) =>
    (ref02_PathErr v12 v13 v14).bind fun v15 =>
    if (decide (v15 ≠ 0)) = true then
      (some (.inr (.inl v15)))
    else
      (if (decide (v3 > 0)) = true then
        ((getI v1 (IntKind.i64.wrap (v3 - 1))).bind fun (v16, v17, v18) =>
        if (decide (v14 < v18)) = true then
          (some (.inr (.inl 9)))
        else
          (some (.inl (IntKind.i64.wrap (v3 + 1)))))
      else
        (some (.inl (IntKind.i64.wrap (v3 + 1))))))
  else
    (some (.inr (.inr ())))
noncomputable def ref02_ListErr (v1 : (List ((List Int) × (List (Int × Int × Int × Int)) × Int))) : Option (Int) :=
  if (decide ((v1.length : Int) > 200)) = true then
    (some (8))
  else
    ((run (ref02_ListErr_l1 v1) 0).bind fun v19 => match v19 with
    | (.inl v20) =>
      some (v20)
    | (.inr _) =>
      some (0))

end Go.Rex

namespace Go.Rex
open Go Go.Rex
noncomputable def ref02_SpeedErr (v1 : Int) : Option (Int) :=
  (base_Within v1 30000 40000).bind fun v3 =>
  if v3 = true then
    (some (0))
  else
    (some (2))

end Go.Rex

namespace Go.Rex
open Go Go.Rex
noncomputable def base_Root_l1 (v1 : Int) : (Int × Int) → Option ((Int × Int) ⊕ ((Int))) := fun (v3, v4) =>
  if (decide (v4 > 0)) = true then
    (if (decide ((IntKind.i64.wrap ((IntKind.i64.wrap (v3 + v4)) * (IntKind.i64.wrap (v3 + v4)))) ≤ v1)) = true then
      (some (.inl ((IntKind.i64.wrap (v3 + v4)), (IntKind.i64.wrap (v4.tdiv 2)))))
    else
      (some (.inl (v3, (IntKind.i64.wrap (v4.tdiv 2))))))
  else
    (some (.inr v3))
noncomputable def base_Root (v1 : Int) : Option (Int) :=
  (run (base_Root_l1 v1) (0, 1073741824)).bind fun v6 =>
  some (v6)

end Go.Rex

namespace Go.Rex
open Go Go.Rex
noncomputable def base_RootUp (v1 : Int) : Option (Int) :=
  (base_Root v1).bind fun v3 =>
  if (decide ((IntKind.i64.wrap (v3 * v3)) < v1)) = true then
    (some ((IntKind.i64.wrap (v3 + 1))))
  else
    (some (v3))

end Go.Rex

namespace Go.Rex
open Go Go.Rex
noncomputable def ref02_LengthOf (v1 : Int) : Option (Int × Int) :=
  (base_Root (IntKind.i64.wrap (v1 * 100000000))).bind fun v4 =>
  (base_RootUp (IntKind.i64.wrap (v1 * 100000000))).bind fun v5 =>
  some (v4, v5)

end Go.Rex

namespace Go.Rex
open Go Go.Rex
noncomputable def base_Floor (v1 : Int) (v2 : Int) : Option (Int) :=
  if v2 = 0 then none else
  (if (decide ((v1.tmod v2) < 0)) = true then
    (some ((IntKind.i64.wrap ((IntKind.i64.wrap (v1.tdiv v2)) - 1))))
  else
    (some ((IntKind.i64.wrap (v1.tdiv v2)))))

end Go.Rex

namespace Go.Rex
open Go Go.Rex
noncomputable def base_Ceil (v1 : Int) (v2 : Int) : Option (Int) :=
  (base_Floor (IntKind.i64.wrap (0 - v1)) v2).bind fun v4 =>
  some ((IntKind.i64.wrap (0 - v4)))

end Go.Rex

namespace Go.Rex
open Go Go.Rex
noncomputable def ref02_DelayOf (v1 : Int) (v2 : Int) : Option (Int × Int) :=
  (ref02_LengthOf v1).bind fun (v5, v6) =>
  (base_Floor (IntKind.i64.wrap (100 * v5)) v2).bind fun v7 =>
  (base_Ceil (IntKind.i64.wrap (100 * v6)) v2).bind fun v8 =>
  some (v7, v8)

end Go.Rex

namespace Go.Rex
open Go Go.Rex
noncomputable def ref02_GapOf (v1 : (List ((List Int) × (List (Int × Int × Int × Int)) × Int))) (v2 : Int) : Option (Int × Int) :=
  (getI v1 0).bind fun (v5, v6, v7) =>
  (ref02_DelayOf v7 v2).bind fun (v8, v9) =>
  (getI v1 1).bind fun (v10, v11, v12) =>
  (ref02_DelayOf v12 v2).bind fun (v13, v14) =>
  some ((if (IntKind.i64.wrap (v13 - v9)) > 0 then (IntKind.i64.wrap (v13 - v9)) else 0), (IntKind.i64.wrap (v14 - v8)))

end Go.Rex

namespace Go.Rex
open Go Go.Rex
noncomputable def ref02_Arrived_l1 (v1 : (List ((List Int) × (List (Int × Int × Int × Int)) × Int))) (v2 : Int) (v3 : Int) : (Int × Int × Int) → Option ((Int × Int × Int) ⊕ ((Int × Int))) := fun (v6, v7, v8) =>
  if (decide (v8 < (v1.length : Int))) = true then
    ((getI v1 v8).bind fun (v16, v17, v18) =>
    (ref02_DelayOf v18 v2).bind fun (v19, v20) =>
    if (decide (v20 ≤ v3)) = true then
      (if (decide (v19 ≤ v3)) = true then
        (some (.inl ((IntKind.i64.wrap (v6 + 1)), (IntKind.i64.wrap (v7 + 1)), (IntKind.i64.wrap (v8 + 1)))))
      else
        (some (.inl ((IntKind.i64.wrap (v6 + 1)), v7, (IntKind.i64.wrap (v8 + 1))))))
    else
      (if (decide (v19 ≤ v3)) = true then
        (some (.inl (v6, (IntKind.i64.wrap (v7 + 1)), (IntKind.i64.wrap (v8 + 1)))))
      else
        (some (.inl (v6, v7, (IntKind.i64.wrap (v8 + 1)))))))
  else
    (some (.inr (v6, v7)))
noncomputable def ref02_Arrived (v1 : (List ((List Int) × (List (Int × Int × Int × Int)) × Int))) (v2 : Int) (v3 : Int) : Option (Int × Int) :=
  (run (ref02_Arrived_l1 v1 v2 v3) (0, 0, 0)).bind fun (v21, v22) =>
  some (v21, v22)

end Go.Rex

namespace Go.Rex
open Go Go.Rex
noncomputable def law02_ImageArrivals_l1 (v1 : (List ((List Int) × (List (Int × Int × Int × Int)) × Int))) : (Int) → Option ((Int) ⊕ ((Unit) ⊕ (Unit))) := fun v6 =>
  if (decide (v6 < (v1.length : Int))) = true then
    ((getI v1 v6).bind fun (v10, v11, v12) =>
    if (decide ((v10.length : Int) > 6)) = true then
      (some (.inr (.inl ())))
    else
      (if (decide ((v11.length : Int) > 6)) = true then
        (some (.inr (.inl ())))
      else
        (some (.inl (IntKind.i64.wrap (v6 + 1))))))
  else
    (some (.inr (.inr ())))
noncomputable def law02_ImageArrivals_l2 (v1 : (List ((List Int) × (List (Int × Int × Int × Int)) × Int))) : (Int) → Option ((Int) ⊕ ((Unit) ⊕ (Unit))) := fun v56 =>
  if (decide (v56 < (v1.length : Int))) = true then
    ((getI v1 v56).bind fun (v60, v61, v62) =>
    if (decide ((v60.length : Int) > 6)) = true then
      (some (.inr (.inl ())))
    else
      (if (decide ((v61.length : Int) > 6)) = true then
        (some (.inr (.inl ())))
      else
        (some (.inl (IntKind.i64.wrap (v56 + 1))))))
  else
    (some (.inr (.inr ())))
noncomputable def law02_ImageArrivals (v1 : (List ((List Int) × (List (Int × Int × Int × Int)) × Int))) (v2 : Int) (v3 : Int) (v4 : Int) : Option Bool :=
  if (decide ((v1.length : Int) > 12)) = true then
    (if (decide ((v1.length : Int) ≤ 200)) = true then
      (some (true))
    else
      (if (decide ((v1.length : Int) > 202)) = true then
        (some (true))
      else
        ((run (law02_ImageArrivals_l1 v1) 0).bind fun v13 => match v13 with
        | (.inl _) =>
          some (true)
        | (.inr _) =>
          (ref02_CopyPaths v1).bind fun v14 =>
          (image_GapOf v14 v2).bind fun (v15, v16, v17) =>
          (ref02_CopyPaths v1).bind fun v18 =>
          (image_Arrived v18 v2 v4).bind fun (v19, v20, v21) =>
          (ref02_ListErr v1).bind fun v22 =>
          if (decide (v22 = 0)) = true then
            ((ref02_SpeedErr v2).bind fun v23 =>
            if (decide (v23 ≠ 0)) = true then
              (if (decide (v17 = v23)) = true then
                (if (decide (v21 = v23)) = true then
                  (if ([v15 == 0, v16 == 0].all id) = true then
                    (some (([v19 == 0, v20 == 0].all id)))
                  else
                    (some (false)))
                else
                  (some (false)))
              else
                (some (false)))
            else
              (if (decide ((v1.length : Int) < 2)) = true then
                (if (decide (v17 ≠ 10)) = true then
                  (some (false))
                else
                  (if ([v15 == 0, v16 == 0].all id) = true then
                    (if (decide ((v1.length : Int) ≥ 2)) = true then
                      (if (decide (v17 ≠ 0)) = true then
                        (some (false))
                      else
                        ((ref02_GapOf v1 v2).bind fun (v24, v25) =>
                        if ([v15 == v24, v16 == v25].all id) = true then
                          ((base_Within v4 0 10000000).bind fun v26 =>
                          if v26 = true then
                            (if (decide (v21 = 0)) = true then
                              ((ref02_Arrived v1 v2 v4).bind fun (v27, v28) =>
                              if ([v19 == v27, v20 == v28].all id) = true then
                                (some ((decide (v19 ≤ v20))))
                              else
                                (some (false)))
                            else
                              (some (false)))
                          else
                            (if (decide (v21 = 2)) = true then
                              (some (([v19 == 0, v20 == 0].all id)))
                            else
                              (some (false))))
                        else
                          (some (false))))
                    else
                      ((base_Within v4 0 10000000).bind fun v29 =>
                      if v29 = true then
                        (if (decide (v21 = 0)) = true then
                          ((ref02_Arrived v1 v2 v4).bind fun (v30, v31) =>
                          if ([v19 == v30, v20 == v31].all id) = true then
                            (some ((decide (v19 ≤ v20))))
                          else
                            (some (false)))
                        else
                          (some (false)))
                      else
                        (if (decide (v21 = 2)) = true then
                          (some (([v19 == 0, v20 == 0].all id)))
                        else
                          (some (false)))))
                  else
                    (some (false))))
              else
                (if (decide ((v1.length : Int) ≥ 2)) = true then
                  (if (decide (v17 ≠ 0)) = true then
                    (some (false))
                  else
                    ((ref02_GapOf v1 v2).bind fun (v32, v33) =>
                    if ([v15 == v32, v16 == v33].all id) = true then
                      ((base_Within v4 0 10000000).bind fun v34 =>
                      if v34 = true then
                        (if (decide (v21 = 0)) = true then
                          ((ref02_Arrived v1 v2 v4).bind fun (v35, v36) =>
                          if ([v19 == v35, v20 == v36].all id) = true then
                            (some ((decide (v19 ≤ v20))))
                          else
                            (some (false)))
                        else
                          (some (false)))
                      else
                        (if (decide (v21 = 2)) = true then
                          (some (([v19 == 0, v20 == 0].all id)))
                        else
                          (some (false))))
                    else
                      (some (false))))
                else
                  ((base_Within v4 0 10000000).bind fun v37 =>
                  if v37 = true then
                    (if (decide (v21 = 0)) = true then
                      ((ref02_Arrived v1 v2 v4).bind fun (v38, v39) =>
                      if ([v19 == v38, v20 == v39].all id) = true then
                        (some ((decide (v19 ≤ v20))))
                      else
                        (some (false)))
                    else
                      (some (false)))
                  else
                    (if (decide (v21 = 2)) = true then
                      (some (([v19 == 0, v20 == 0].all id)))
                    else
                      (some (false)))))))
          else
            (if (decide (v22 ≠ 0)) = true then
              (if (decide (v17 = v22)) = true then
                (if (decide (v21 = v22)) = true then
                  (if ([v15 == 0, v16 == 0].all id) = true then
                    (some (([v19 == 0, v20 == 0].all id)))
                  else
                    (some (false)))
                else
                  (some (false)))
              else
                (some (false)))
            else
              (if (decide ((v1.length : Int) < 2)) = true then
                (if (decide (v17 ≠ 10)) = true then
                  (some (false))
                else
                  (if ([v15 == 0, v16 == 0].all id) = true then
                    (if (decide ((v1.length : Int) ≥ 2)) = true then
                      (if (decide (v17 ≠ 0)) = true then
                        (some (false))
                      else
                        ((ref02_GapOf v1 v2).bind fun (v40, v41) =>
                        if ([v15 == v40, v16 == v41].all id) = true then
                          ((base_Within v4 0 10000000).bind fun v42 =>
                          if v42 = true then
                            (if (decide (v21 = 0)) = true then
                              ((ref02_Arrived v1 v2 v4).bind fun (v43, v44) =>
                              if ([v19 == v43, v20 == v44].all id) = true then
                                (some ((decide (v19 ≤ v20))))
                              else
                                (some (false)))
                            else
                              (some (false)))
                          else
                            (if (decide (v21 = 2)) = true then
                              (some (([v19 == 0, v20 == 0].all id)))
                            else
                              (some (false))))
                        else
                          (some (false))))
                    else
                      ((base_Within v4 0 10000000).bind fun v45 =>
                      if v45 = true then
                        (if (decide (v21 = 0)) = true then
                          ((ref02_Arrived v1 v2 v4).bind fun (v46, v47) =>
                          if ([v19 == v46, v20 == v47].all id) = true then
                            (some ((decide (v19 ≤ v20))))
                          else
                            (some (false)))
                        else
                          (some (false)))
                      else
                        (if (decide (v21 = 2)) = true then
                          (some (([v19 == 0, v20 == 0].all id)))
                        else
                          (some (false)))))
                  else
                    (some (false))))
              else
                (if (decide ((v1.length : Int) ≥ 2)) = true then
                  (if (decide (v17 ≠ 0)) = true then
                    (some (false))
                  else
                    ((ref02_GapOf v1 v2).bind fun (v48, v49) =>
                    if ([v15 == v48, v16 == v49].all id) = true then
                      ((base_Within v4 0 10000000).bind fun v50 =>
                      if v50 = true then
                        (if (decide (v21 = 0)) = true then
                          ((ref02_Arrived v1 v2 v4).bind fun (v51, v52) =>
                          if ([v19 == v51, v20 == v52].all id) = true then
                            (some ((decide (v19 ≤ v20))))
                          else
                            (some (false)))
                        else
                          (some (false)))
                      else
                        (if (decide (v21 = 2)) = true then
                          (some (([v19 == 0, v20 == 0].all id)))
                        else
                          (some (false))))
                    else
                      (some (false))))
                else
                  ((base_Within v4 0 10000000).bind fun v53 =>
                  if v53 = true then
                    (if (decide (v21 = 0)) = true then
                      ((ref02_Arrived v1 v2 v4).bind fun (v54, v55) =>
                      if ([v19 == v54, v20 == v55].all id) = true then
                        (some ((decide (v19 ≤ v20))))
                      else
                        (some (false)))
                    else
                      (some (false)))
                  else
                    (if (decide (v21 = 2)) = true then
                      (some (([v19 == 0, v20 == 0].all id)))
                    else
                      (some (false))))))))))
  else
    (if (decide ((v1.length : Int) > 202)) = true then
      (some (true))
    else
      ((run (law02_ImageArrivals_l2 v1) 0).bind fun v63 => match v63 with
      | (.inl _) =>
        some (true)
      | (.inr _) =>
        (ref02_CopyPaths v1).bind fun v64 =>
        (image_GapOf v64 v2).bind fun (v65, v66, v67) =>
        (ref02_CopyPaths v1).bind fun v68 =>
        (image_Arrived v68 v2 v4).bind fun (v69, v70, v71) =>
        (ref02_ListErr v1).bind fun v72 =>
        if (decide (v72 = 0)) = true then
          ((ref02_SpeedErr v2).bind fun v73 =>
          if (decide (v73 ≠ 0)) = true then
            (if (decide (v67 = v73)) = true then
              (if (decide (v71 = v73)) = true then
                (if ([v65 == 0, v66 == 0].all id) = true then
                  (some (([v69 == 0, v70 == 0].all id)))
                else
                  (some (false)))
              else
                (some (false)))
            else
              (some (false)))
          else
            (if (decide ((v1.length : Int) < 2)) = true then
              (if (decide (v67 ≠ 10)) = true then
                (some (false))
              else
                (if ([v65 == 0, v66 == 0].all id) = true then
                  (if (decide ((v1.length : Int) ≥ 2)) = true then
                    (if (decide (v67 ≠ 0)) = true then
                      (some (false))
                    else
                      ((ref02_GapOf v1 v2).bind fun (v74, v75) =>
                      if ([v65 == v74, v66 == v75].all id) = true then
                        ((base_Within v4 0 10000000).bind fun v76 =>
                        if v76 = true then
                          (if (decide (v71 = 0)) = true then
                            ((ref02_Arrived v1 v2 v4).bind fun (v77, v78) =>
                            if ([v69 == v77, v70 == v78].all id) = true then
                              (some ((decide (v69 ≤ v70))))
                            else
                              (some (false)))
                          else
                            (some (false)))
                        else
                          (if (decide (v71 = 2)) = true then
                            (some (([v69 == 0, v70 == 0].all id)))
                          else
                            (some (false))))
                      else
                        (some (false))))
                  else
                    ((base_Within v4 0 10000000).bind fun v79 =>
                    if v79 = true then
                      (if (decide (v71 = 0)) = true then
                        ((ref02_Arrived v1 v2 v4).bind fun (v80, v81) =>
                        if ([v69 == v80, v70 == v81].all id) = true then
                          (some ((decide (v69 ≤ v70))))
                        else
                          (some (false)))
                      else
                        (some (false)))
                    else
                      (if (decide (v71 = 2)) = true then
                        (some (([v69 == 0, v70 == 0].all id)))
                      else
                        (some (false)))))
                else
                  (some (false))))
            else
              (if (decide ((v1.length : Int) ≥ 2)) = true then
                (if (decide (v67 ≠ 0)) = true then
                  (some (false))
                else
                  ((ref02_GapOf v1 v2).bind fun (v82, v83) =>
                  if ([v65 == v82, v66 == v83].all id) = true then
                    ((base_Within v4 0 10000000).bind fun v84 =>
                    if v84 = true then
                      (if (decide (v71 = 0)) = true then
                        ((ref02_Arrived v1 v2 v4).bind fun (v85, v86) =>
                        if ([v69 == v85, v70 == v86].all id) = true then
                          (some ((decide (v69 ≤ v70))))
                        else
                          (some (false)))
                      else
                        (some (false)))
                    else
                      (if (decide (v71 = 2)) = true then
                        (some (([v69 == 0, v70 == 0].all id)))
                      else
                        (some (false))))
                  else
                    (some (false))))
              else
                ((base_Within v4 0 10000000).bind fun v87 =>
                if v87 = true then
                  (if (decide (v71 = 0)) = true then
                    ((ref02_Arrived v1 v2 v4).bind fun (v88, v89) =>
                    if ([v69 == v88, v70 == v89].all id) = true then
                      (some ((decide (v69 ≤ v70))))
                    else
                      (some (false)))
                  else
                    (some (false)))
                else
                  (if (decide (v71 = 2)) = true then
                    (some (([v69 == 0, v70 == 0].all id)))
                  else
                    (some (false)))))))
        else
          (if (decide (v72 ≠ 0)) = true then
            (if (decide (v67 = v72)) = true then
              (if (decide (v71 = v72)) = true then
                (if ([v65 == 0, v66 == 0].all id) = true then
                  (some (([v69 == 0, v70 == 0].all id)))
                else
                  (some (false)))
              else
                (some (false)))
            else
              (some (false)))
          else
            (if (decide ((v1.length : Int) < 2)) = true then
              (if (decide (v67 ≠ 10)) = true then
                (some (false))
              else
                (if ([v65 == 0, v66 == 0].all id) = true then
                  (if (decide ((v1.length : Int) ≥ 2)) = true then
                    (if (decide (v67 ≠ 0)) = true then
                      (some (false))
                    else
                      ((ref02_GapOf v1 v2).bind fun (v90, v91) =>
                      if ([v65 == v90, v66 == v91].all id) = true then
                        ((base_Within v4 0 10000000).bind fun v92 =>
                        if v92 = true then
                          (if (decide (v71 = 0)) = true then
                            ((ref02_Arrived v1 v2 v4).bind fun (v93, v94) =>
                            if ([v69 == v93, v70 == v94].all id) = true then
                              (some ((decide (v69 ≤ v70))))
                            else
                              (some (false)))
                          else
                            (some (false)))
                        else
                          (if (decide (v71 = 2)) = true then
                            (some (([v69 == 0, v70 == 0].all id)))
                          else
                            (some (false))))
                      else
                        (some (false))))
                  else
                    ((base_Within v4 0 10000000).bind fun v95 =>
                    if v95 = true then
                      (if (decide (v71 = 0)) = true then
                        ((ref02_Arrived v1 v2 v4).bind fun (v96, v97) =>
                        if ([v69 == v96, v70 == v97].all id) = true then
                          (some ((decide (v69 ≤ v70))))
                        else
                          (some (false)))
                      else
                        (some (false)))
                    else
                      (if (decide (v71 = 2)) = true then
                        (some (([v69 == 0, v70 == 0].all id)))
                      else
                        (some (false)))))
                else
                  (some (false))))
            else
              (if (decide ((v1.length : Int) ≥ 2)) = true then
                (if (decide (v67 ≠ 0)) = true then
                  (some (false))
                else
                  ((ref02_GapOf v1 v2).bind fun (v98, v99) =>
                  if ([v65 == v98, v66 == v99].all id) = true then
                    ((base_Within v4 0 10000000).bind fun v100 =>
                    if v100 = true then
                      (if (decide (v71 = 0)) = true then
                        ((ref02_Arrived v1 v2 v4).bind fun (v101, v102) =>
                        if ([v69 == v101, v70 == v102].all id) = true then
                          (some ((decide (v69 ≤ v70))))
                        else
                          (some (false)))
                      else
                        (some (false)))
                    else
                      (if (decide (v71 = 2)) = true then
                        (some (([v69 == 0, v70 == 0].all id)))
                      else
                        (some (false))))
                  else
                    (some (false))))
              else
                ((base_Within v4 0 10000000).bind fun v103 =>
                if v103 = true then
                  (if (decide (v71 = 0)) = true then
                    ((ref02_Arrived v1 v2 v4).bind fun (v104, v105) =>
                    if ([v69 == v104, v70 == v105].all id) = true then
                      (some ((decide (v69 ≤ v70))))
                    else
                      (some (false)))
                  else
                    (some (false)))
                else
                  (if (decide (v71 = 2)) = true then
                    (some (([v69 == 0, v70 == 0].all id)))
                  else
                    (some (false)))))))))

end Go.Rex

namespace Go.Rex
open Go Go.Rex
noncomputable def image_LengthOf (v1 : (List Int)) (v2 : (List (Int × Int × Int × Int))) (v3 : Int) : Option (Int × Int × Int) :=
  (image_whole v1 v2 v3).bind fun (v7, v8, v9) =>
  (image_whole_c1_fa7c v7 v8 v9).bind fun v10 =>
  if (decide (v10 ≠ 0)) = true then
    (some (0, 0, v10))
  else
    ((image_lengthOf v1 v2 v3).bind fun (v11, v12) =>
    some (v11, v12, 0))

end Go.Rex

namespace Go.Rex
open Go Go.Rex
noncomputable def image_DelayOf (v1 : (List Int)) (v2 : (List (Int × Int × Int × Int))) (v3 : Int) (v4 : Int) : Option (Int × Int × Int) :=
  (image_whole v1 v2 v3).bind fun (v8, v9, v10) =>
  (image_audible v4).bind fun (v11, v12) =>
  (image_firstError_cd3e v8 v9 v10 v11 v12).bind fun v13 =>
  if (decide (v13 ≠ 0)) = true then
    (some (0, 0, v13))
  else
    ((image_delayOf v1 v2 v3 v4).bind fun (v14, v15) =>
    some (v14, v15, 0))

end Go.Rex

namespace Go.Rex
open Go Go.Rex
noncomputable def image_firstError_cd5b (v1 : (List Int)) (v2 : (List (Int × Int × Int × Int))) (v3 : Int) (v4 : Bool) (v5 : Int) (v6 : Bool) (v7 : Int) : Option (Int) :=
  (image_whole_c1_fa7c v1 v2 v3).bind fun v9 =>
  if (decide (v9 ≠ 0)) = true then
    (some (v9))
  else
    ((image_refuse_c1_11f9 v4 v5).bind fun v10 =>
    if (decide (v10 ≠ 0)) = true then
      (some (v10))
    else
      ((image_refuse_c1_11f9 v6 v7).bind fun v11 =>
      if (decide (v11 ≠ 0)) = true then
        (some (v11))
      else
        (some (0))))

end Go.Rex

namespace Go.Rex
open Go Go.Rex
noncomputable def image_SamplesOf (v1 : (List Int)) (v2 : (List (Int × Int × Int × Int))) (v3 : Int) (v4 : Int) (v5 : Int) : Option (Int × Int × Int) :=
  (image_whole v1 v2 v3).bind fun (v9, v10, v11) =>
  (image_audible v4).bind fun (v12, v13) =>
  (image_within v5 8000 192000).bind fun (v14, v15) =>
  (image_firstError_cd5b v9 v10 v11 v12 v13 v14 v15).bind fun v16 =>
  if (decide (v16 ≠ 0)) = true then
    (some (0, 0, v16))
  else
    ((image_delayOf v1 v2 v3 v4).bind fun (v17, v18) =>
    (image_scaled v17 v18 v5 1000000).bind fun (v19, v20) =>
    some (v19, v20, 0))

end Go.Rex

namespace Go.Rex
open Go Go.Rex
noncomputable def ref02_SamplesOf (v1 : Int) (v2 : Int) (v3 : Int) : Option (Int × Int) :=
  (ref02_DelayOf v1 v2).bind fun (v6, v7) =>
  (base_Floor (IntKind.i64.wrap (v6 * v3)) 1000000).bind fun v8 =>
  (base_Ceil (IntKind.i64.wrap (v7 * v3)) 1000000).bind fun v9 =>
  some (v8, v9)

end Go.Rex

namespace Go.Rex
open Go Go.Rex
noncomputable def slices_Clone_int_int (v1 : (List Int)) : Option ((List Int)) :=
  nilq v1
    (some (([] : List Int)))
    ((appI 8 ([] : List Int) v1).bind fun v3 =>
    some (v3))

end Go.Rex

namespace Go.Rex
open Go Go.Rex
noncomputable def slices_Reverse_int_int_1549_l1 : ((List Int) × Int × Int) → Option (((List Int) × Int × Int) ⊕ (((List Int)))) := fun (v3, v4, v5) =>
  if (decide (v4 < v5)) = true then
    ((getI v3 v5).bind fun v10 =>
    (getI v3 v4).bind fun v11 =>
    (getI (v3.set v4.toNat v10) v5).bind fun v12 =>
    some (.inl (((v3.set v4.toNat v10).set v5.toNat v11), (IntKind.i64.wrap (v4 + 1)), (IntKind.i64.wrap (v5 - 1)))))
  else
    (some (.inr v3))
noncomputable def slices_Reverse_int_int_1549 (v1 : (List Int)) : Option ((List Int)) :=
  (run (slices_Reverse_int_int_1549_l1) (v1, 0, (IntKind.i64.wrap ((v1.length : Int) - 1)))).bind fun v13 =>
  some (v13)

end Go.Rex

namespace Go.Rex
open Go Go.Rex
noncomputable def image_turned_int (v1 : (List Int)) : Option ((List Int)) :=
  (slices_Clone_int_int v1).bind fun v3 =>
  (slices_Reverse_int_int_1549 v3).bind fun v4 =>
  some ((lenAs v3 v4))

end Go.Rex

namespace Go.Rex
open Go Go.Rex
noncomputable def slices_Clone_api_HallPoint_api_HallPoint (v1 : (List (Int × Int × Int × Int))) : Option ((List (Int × Int × Int × Int))) :=
  nilq v1
    (some (([] : List (Int × Int × Int × Int))))
    ((appI 32 ([] : List (Int × Int × Int × Int)) v1).bind fun v3 =>
    some (v3))

end Go.Rex

namespace Go.Rex
open Go Go.Rex
noncomputable def slices_Reverse_api_HallPoint_api_HallPoint_4249_l1 : ((List (Int × Int × Int × Int)) × Int × Int) → Option (((List (Int × Int × Int × Int)) × Int × Int) ⊕ (((List (Int × Int × Int × Int))))) := fun (v3, v4, v5) =>
  if (decide (v4 < v5)) = true then
    ((getI v3 v5).bind fun (v19, v20, v21, v22) =>
    (getI v3 v4).bind fun (v23, v24, v25, v26) =>
    (getI (v3.set v4.toNat (v19, v20, v21, v22)) v5).bind fun (v27, v28, v29, v30) =>
    some (.inl (((v3.set v4.toNat (v19, v20, v21, v22)).set v5.toNat (v23, v24, v25, v26)), (IntKind.i64.wrap (v4 + 1)), (IntKind.i64.wrap (v5 - 1)))))
  else
    (some (.inr v3))
noncomputable def slices_Reverse_api_HallPoint_api_HallPoint_4249 (v1 : (List (Int × Int × Int × Int))) : Option ((List (Int × Int × Int × Int))) :=
  (run (slices_Reverse_api_HallPoint_api_HallPoint_4249_l1) (v1, 0, (IntKind.i64.wrap ((v1.length : Int) - 1)))).bind fun v31 =>
  some (v31)

end Go.Rex

namespace Go.Rex
open Go Go.Rex
noncomputable def image_turned_api_HallPoint (v1 : (List (Int × Int × Int × Int))) : Option ((List (Int × Int × Int × Int))) :=
  (slices_Clone_api_HallPoint_api_HallPoint v1).bind fun v3 =>
  (slices_Reverse_api_HallPoint_api_HallPoint_4249 v3).bind fun v4 =>
  some ((lenAs v3 v4))

end Go.Rex

namespace Go.Rex
open Go Go.Rex
noncomputable def image_Turned (v1 : (List Int)) (v2 : (List (Int × Int × Int × Int))) (v3 : Int) : Option ((List Int) × (List (Int × Int × Int × Int)) × Int × Int) :=
  (image_whole v1 v2 v3).bind fun (v8, v9, v10) =>
  (image_whole_c1_fa7c v8 v9 v10).bind fun v11 =>
  if (decide (v11 ≠ 0)) = true then
    (some (([] : List Int), ([] : List (Int × Int × Int × Int)), 0, v11))
  else
    ((image_turned_int v1).bind fun v12 =>
    (image_turned_api_HallPoint v2).bind fun v13 =>
    some (v12, v13, v3, 0))

end Go.Rex

namespace Go.Rex
open Go Go.Rex
noncomputable def ref02_Turned_l1 (v1 : (List Int)) (v2 : (List (Int × Int × Int × Int))) : ((List Int) × (List (Int × Int × Int × Int)) × Int) → Option (((List Int) × (List (Int × Int × Int × Int)) × Int) ⊕ (((List Int) × (List (Int × Int × Int × Int))))) := fun (v7, v8, v9) =>
  if (decide (v9 ≥ 0)) = true then
    ((getI v1 v9).bind fun v19 =>
    (appI 8 v7 ([v19] : List Int)).bind fun v20 =>
    (getI v2 v9).bind fun (v21, v22, v23, v24) =>
    (appI 32 v8 ([(v21, v22, v23, v24)] : List (Int × Int × Int × Int))).bind fun v25 =>
    some (.inl (v20, v25, (IntKind.i64.wrap (v9 - 1)))))
  else
    (some (.inr (v7, v8)))
noncomputable def ref02_Turned (v1 : (List Int)) (v2 : (List (Int × Int × Int × Int))) (v3 : Int) : Option ((List Int) × (List (Int × Int × Int × Int)) × Int) :=
  (run (ref02_Turned_l1 v1 v2) (([] : List Int), ([] : List (Int × Int × Int × Int)), (IntKind.i64.wrap ((v1.length : Int) - 1)))).bind fun (v26, v27) =>
  some (v26, v27, v3)

end Go.Rex

namespace Go.Rex
open Go Go.Rex
noncomputable def base_Ints_l1 (v1 : (List Int)) (v2 : (List Int)) : (Int) → Option ((Int) ⊕ ((Unit) ⊕ (Unit))) := fun v4 =>
  if (decide (v4 < (v1.length : Int))) = true then
    ((getI v1 v4).bind fun v7 =>
    (getI v2 v4).bind fun v8 =>
    if (decide (v7 ≠ v8)) = true then
      (some (.inr (.inl ())))
    else
      (some (.inl (IntKind.i64.wrap (v4 + 1)))))
  else
    (some (.inr (.inr ())))
noncomputable def base_Ints (v1 : (List Int)) (v2 : (List Int)) : Option (Bool) :=
  if (decide ((v1.length : Int) ≠ (v2.length : Int))) = true then
    (some (false))
  else
    ((run (base_Ints_l1 v1 v2) 0).bind fun v9 => match v9 with
    | (.inl _) =>
      some (false)
    | (.inr _) =>
      some (true))

end Go.Rex

namespace Go.Rex
open Go Go.Rex
noncomputable def ref02_Same_l1 (v2 : (List (Int × Int × Int × Int))) (v5 : (List (Int × Int × Int × Int))) : (Int) → Option ((Int) ⊕ ((Unit) ⊕ (Unit))) := fun v9 =>
  if (decide (v9 < (v2.length : Int))) = true then
    ((getI v2 v9).bind fun (v18, v19, v20, v21) =>
    (getI v5 v9).bind fun (v22, v23, v24, v25) =>
    if ([v18 == v22, v19 == v23, v20 == v24, v21 == v25].all id) = true then
      (some (.inl (IntKind.i64.wrap (v9 + 1))))
    else
      (some (.inr (.inl ()))))
  else
    (some (.inr (.inr ())))
noncomputable def ref02_Same (v1 : (List Int)) (v2 : (List (Int × Int × Int × Int))) (v3 : Int) (v4 : (List Int)) (v5 : (List (Int × Int × Int × Int))) (v6 : Int) : Option (Bool) :=
  (base_Ints v1 v4).bind fun v8 =>
  if v8 = true then
    (if (decide (v3 ≠ v6)) = true then
      (some (false))
    else
      (if (decide ((v2.length : Int) ≠ (v5.length : Int))) = true then
        (some (false))
      else
        ((run (ref02_Same_l1 v2 v5) 0).bind fun v26 => match v26 with
        | (.inl _) =>
          some (false)
        | (.inr _) =>
          some (true))))
  else
    (some (false))

end Go.Rex

namespace Go.Rex
open Go Go.Rex
noncomputable def base_Ints_811f_l1 (v1 : (List Int)) : (Unit) → Option ((Unit) ⊕ ((Unit))) := fun _ =>
  if (decide (0 < (v1.length : Int))) = true then
    ((getI v1 0).bind fun v4 =>
    none)
  else
    (some (.inr ()))
noncomputable def base_Ints_811f (v1 : (List Int)) : Option (Bool) :=
  if (decide ((v1.length : Int) ≠ 0)) = true then
    (some (false))
  else
    ((run (base_Ints_811f_l1 v1) ()).bind fun _ =>
    some (true))

end Go.Rex

namespace Go.Rex
open Go Go.Rex
noncomputable def ref02_Same_5679_l1 (v2 : (List (Int × Int × Int × Int))) : (Unit) → Option ((Unit) ⊕ ((Unit))) := fun _ =>
  if (decide (0 < (v2.length : Int))) = true then
    ((getI v2 0).bind fun (v11, v12, v13, v14) =>
    none)
  else
    (some (.inr ()))
noncomputable def ref02_Same_5679 (v1 : (List Int)) (v2 : (List (Int × Int × Int × Int))) (v3 : Int) (v4 : Int) : Option (Bool) :=
  (base_Ints_811f v1).bind fun v6 =>
  if v6 = true then
    (if (decide (v3 ≠ v4)) = true then
      (some (false))
    else
      (if (decide ((v2.length : Int) ≠ 0)) = true then
        (some (false))
      else
        ((run (ref02_Same_5679_l1 v2) ()).bind fun _ =>
        some (true))))
  else
    (some (false))

end Go.Rex
