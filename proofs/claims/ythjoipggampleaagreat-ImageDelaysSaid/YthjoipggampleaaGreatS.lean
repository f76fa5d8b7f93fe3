/- The functions of the program and of the reference, as functions of lists and numbers. -/
import Derived.Test.YthjoipggampleaaGreatRexG10
set_option linter.unusedSimpArgs false
set_option linter.unusedVariables false
set_option linter.defProp false
namespace Go.Rex
open Go Go.Rex
def e_i (x : Int) : List TV := [.v (.int .i64 x)]
def e_iiii (x : (Int × Int × Int × Int)) : List TV := [.v (.int .i64 x.1), .v (.int .i64 x.2.1), .v (.int .i64 x.2.2.1), .v (.int .i64 x.2.2.2)]

end Go.Rex

namespace Go.Rex
open Go Go.Rex
noncomputable def base_CopyInts (v1 : (List Int)) : Option ((List Int)) :=
  (appI 8 ([] : List Int) v1).bind fun v3 =>
  some (v3)

end Go.Rex

namespace Go.Rex
open Go Go.Rex
noncomputable def ref02_CopyPath (v1 : (List Int)) (v2 : (List (Int × Int × Int × Int))) (v3 : Int) : Option ((List Int) × (List (Int × Int × Int × Int)) × Int) :=
  (base_CopyInts v1).bind fun v7 =>
  (appI 32 ([] : List (Int × Int × Int × Int)) v2).bind fun v8 =>
  some (v7, v8, v3)

end Go.Rex

namespace Go.Rex
open Go Go.Rex
noncomputable def image_whole (v1 : (List Int)) (v2 : (List (Int × Int × Int × Int))) (v3 : Int) : Option ((List Int) × (List (Int × Int × Int × Int)) × Int) :=
  some (v1, v2, v3)

end Go.Rex

namespace Go.Rex
open Go Go.Rex
noncomputable def image_refuse (v1 : Bool) (v2 : Int) : Option (Bool × Int) :=
  some (v1, v2)

end Go.Rex

namespace Go.Rex
open Go Go.Rex
noncomputable def image_within (v1 : Int) (v2 : Int) (v3 : Int) : Option (Bool × Int) :=
  if (decide (v1 < v2)) = true then
    ((image_refuse true 2).bind fun (v6, v7) =>
    some (v6, v7))
  else
    ((image_refuse (decide (v1 > v3)) 2).bind fun (v8, v9) =>
    some (v8, v9))

end Go.Rex

namespace Go.Rex
open Go Go.Rex
noncomputable def image_refuse_c1_11f9 (v1 : Bool) (v2 : Int) : Option (Int) :=
  if v1 = true then
    (some (v2))
  else
    (some (0))

end Go.Rex

namespace Go.Rex
open Go Go.Rex
noncomputable def image_firstError_262d (v1 : Bool) (v2 : Int) (v3 : Bool) (v4 : Int) (v5 : Bool) (v6 : Int) : Option (Int) :=
  (image_refuse_c1_11f9 v1 v2).bind fun v8 =>
  if (decide (v8 ≠ 0)) = true then
    (some (v8))
  else
    ((image_refuse_c1_11f9 v3 v4).bind fun v9 =>
    if (decide (v9 ≠ 0)) = true then
      (some (v9))
    else
      ((image_refuse_c1_11f9 v5 v6).bind fun v10 =>
      if (decide (v10 ≠ 0)) = true then
        (some (v10))
      else
        (some (0))))

end Go.Rex

namespace Go.Rex
open Go Go.Rex
noncomputable def image_whole_c1_fa7c (v1 : (List Int)) (v2 : (List (Int × Int × Int × Int))) (v3 : Int) : Option (Int) :=
  (image_refuse (decide ((v2.length : Int) ≠ (v1.length : Int))) 10).bind fun (v5, v6) =>
  (image_refuse (decide ((v1.length : Int) > 4)) 8).bind fun (v7, v8) =>
  (image_within v3 1 24300000000).bind fun (v9, v10) =>
  (image_firstError_262d v5 v6 v7 v8 v9 v10).bind fun v11 =>
  some (v11)

end Go.Rex

namespace Go.Rex
open Go Go.Rex
noncomputable def image_root_c1_d3d3 (v1 : Int) (v2 : Int) : Option (Bool) :=
  some ((decide ((IntKind.i64.wrap ((IntKind.i64.wrap (v1 + 1)) * (IntKind.i64.wrap (v1 + 1)))) > v2)))

end Go.Rex

namespace Go.Rex
open Go Go.Rex
noncomputable def sort_Search_5a34_l1 (v2 : Int) : (Int × Int) → Option ((Int × Int) ⊕ ((Int))) := fun (v4, v5) =>
  if (decide (v4 < v5)) = true then
    ((shI .shr .u64 (IntKind.u64.wrap (IntKind.i64.wrap (v4 + v5))) 1).bind fun v9 =>
    (image_root_c1_d3d3 (IntKind.i64.wrap v9) v2).bind fun v10 =>
    if v10 = true then
      (some (.inl (v4, (IntKind.i64.wrap v9))))
    else
      (some (.inl ((IntKind.i64.wrap ((IntKind.i64.wrap v9) + 1)), v5))))
  else
    (some (.inr v4))
noncomputable def sort_Search_5a34 (v1 : Int) (v2 : Int) : Option (Int) :=
  (run (sort_Search_5a34_l1 v2) (0, v1)).bind fun v11 =>
  some (v11)

end Go.Rex

namespace Go.Rex
open Go Go.Rex
noncomputable def image_root (v1 : Int) : Option (Int × Int) :=
  (sort_Search_5a34 2147483648 v1).bind fun v4 =>
  if (decide ((IntKind.i64.wrap (v4 * v4)) = v1)) = true then
    (some (v4, v4))
  else
    (some (v4, (IntKind.i64.wrap (v4 + 1))))

end Go.Rex

namespace Go.Rex
open Go Go.Rex
noncomputable def image_lengthOf (v1 : (List Int)) (v2 : (List (Int × Int × Int × Int))) (v3 : Int) : Option (Int × Int) :=
  (image_root (IntKind.i64.wrap (100000000 * v3))).bind fun (v6, v7) =>
  some (v6, v7)

end Go.Rex

namespace Go.Rex
open Go Go.Rex
noncomputable def image_LengthOf (v1 : (List Int)) (v2 : (List (Int × Int × Int × Int))) (v3 : Int) : Option (Int × Int × Int) :=
  (image_whole v1 v2 v3).bind fun (v7, v8, v9) =>
  (image_whole_c1_fa7c v7 v8 v9).bind fun v10 =>
  if (decide (v10 ≠ 0)) = true then
    (some (0, 0, v10))
  else
    ((image_lengthOf v1 v2 v3).bind fun (v11, v12) =>
    some (v11, v12, 0))

end Go.Rex

namespace Go.Rex
open Go Go.Rex
noncomputable def image_audible (v1 : Int) : Option (Bool × Int) :=
  (image_within v1 30000 40000).bind fun (v4, v5) =>
  some (v4, v5)

end Go.Rex

namespace Go.Rex
open Go Go.Rex
noncomputable def image_firstError_cd3e (v1 : (List Int)) (v2 : (List (Int × Int × Int × Int))) (v3 : Int) (v4 : Bool) (v5 : Int) : Option (Int) :=
  (image_whole_c1_fa7c v1 v2 v3).bind fun v7 =>
  if (decide (v7 ≠ 0)) = true then
    (some (v7))
  else
    ((image_refuse_c1_11f9 v4 v5).bind fun v8 =>
    if (decide (v8 ≠ 0)) = true then
      (some (v8))
    else
      (some (0)))

end Go.Rex

namespace Go.Rex
open Go Go.Rex
noncomputable def image_scaled (v1 : Int) (v2 : Int) (v3 : Int) (v4 : Int) : Option (Int × Int) :=
  if v4 = 0 then none else
  (some ((IntKind.i64.wrap ((IntKind.i64.wrap (v1 * v3)).tdiv v4)), (IntKind.i64.wrap ((IntKind.i64.wrap ((IntKind.i64.wrap ((IntKind.i64.wrap (v2 * v3)) + v4)) - 1)).tdiv v4))))

end Go.Rex

namespace Go.Rex
open Go Go.Rex
noncomputable def image_delayOf (v1 : (List Int)) (v2 : (List (Int × Int × Int × Int))) (v3 : Int) (v4 : Int) : Option (Int × Int) :=
  (image_lengthOf v1 v2 v3).bind fun (v7, v8) =>
  (image_scaled v7 v8 100 v4).bind fun (v9, v10) =>
  some (v9, v10)

end Go.Rex

namespace Go.Rex
open Go Go.Rex
noncomputable def image_DelayOf (v1 : (List Int)) (v2 : (List (Int × Int × Int × Int))) (v3 : Int) (v4 : Int) : Option (Int × Int × Int) :=
  (image_whole v1 v2 v3).bind fun (v8, v9, v10) =>
  (image_audible v4).bind fun (v11, v12) =>
  (image_firstError_cd3e v8 v9 v10 v11 v12).bind fun v13 =>
  if (decide (v13 ≠ 0)) = true then
    (some (0, 0, v13))
  else
    ((image_delayOf v1 v2 v3 v4).bind fun (v14, v15) =>
    some (v14, v15, 0))

end Go.Rex

namespace Go.Rex
open Go Go.Rex
noncomputable def image_firstError_cd5b (v1 : (List Int)) (v2 : (List (Int × Int × Int × Int))) (v3 : Int) (v4 : Bool) (v5 : Int) (v6 : Bool) (v7 : Int) : Option (Int) :=
  (image_whole_c1_fa7c v1 v2 v3).bind fun v9 =>
  if (decide (v9 ≠ 0)) = true then
    (some (v9))
  else
    ((image_refuse_c1_11f9 v4 v5).bind fun v10 =>
    if (decide (v10 ≠ 0)) = true then
      (some (v10))
    else
      ((image_refuse_c1_11f9 v6 v7).bind fun v11 =>
      if (decide (v11 ≠ 0)) = true then
        (some (v11))
      else
        (some (0))))

end Go.Rex

namespace Go.Rex
open Go Go.Rex
noncomputable def image_SamplesOf (v1 : (List Int)) (v2 : (List (Int × Int × Int × Int))) (v3 : Int) (v4 : Int) (v5 : Int) : Option (Int × Int × Int) :=
  (image_whole v1 v2 v3).bind fun (v9, v10, v11) =>
  (image_audible v4).bind fun (v12, v13) =>
  (image_within v5 8000 192000).bind fun (v14, v15) =>
  (image_firstError_cd5b v9 v10 v11 v12 v13 v14 v15).bind fun v16 =>
  if (decide (v16 ≠ 0)) = true then
    (some (0, 0, v16))
  else
    ((image_delayOf v1 v2 v3 v4).bind fun (v17, v18) =>
    (image_scaled v17 v18 v5 1000000).bind fun (v19, v20) =>
    some (v19, v20, 0))

end Go.Rex

namespace Go.Rex
open Go Go.Rex
noncomputable def slices_Clone_int_int (v1 : (List Int)) : Option ((List Int)) :=
  nilq v1
    (some (([] : List Int)))
    ((appI 8 ([] : List Int) v1).bind fun v3 =>
    some (v3))

end Go.Rex

namespace Go.Rex
open Go Go.Rex
noncomputable def slices_Reverse_int_int_1549_l1 : ((List Int) × Int × Int) → Option (((List Int) × Int × Int) ⊕ (((List Int)))) := fun (v3, v4, v5) =>
  if (decide (v4 < v5)) = true then
    ((getI v3 v5).bind fun v10 =>
    (getI v3 v4).bind fun v11 =>
    (getI (v3.set v4.toNat v10) v5).bind fun v12 =>
    some (.inl (((v3.set v4.toNat v10).set v5.toNat v11), (IntKind.i64.wrap (v4 + 1)), (IntKind.i64.wrap (v5 - 1)))))
  else
    (some (.inr v3))
noncomputable def slices_Reverse_int_int_1549 (v1 : (List Int)) : Option ((List Int)) :=
  (run (slices_Reverse_int_int_1549_l1) (v1, 0, (IntKind.i64.wrap ((v1.length : Int) - 1)))).bind fun v13 =>
  some (v13)

end Go.Rex

namespace Go.Rex
open Go Go.Rex
noncomputable def image_turned_int (v1 : (List Int)) : Option ((List Int)) :=
  (slices_Clone_int_int v1).bind fun v3 =>
  (slices_Reverse_int_int_1549 v3).bind fun v4 =>
  some ((lenAs v3 v4))

end Go.Rex

namespace Go.Rex
open Go Go.Rex
noncomputable def slices_Clone_api_HallPoint_api_HallPoint (v1 : (List (Int × Int × Int × Int))) : Option ((List (Int × Int × Int × Int))) :=
  nilq v1
    (some (([] : List (Int × Int × Int × Int))))
    ((appI 32 ([] : List (Int × Int × Int × Int)) v1).bind fun v3 =>
    some (v3))

end Go.Rex

namespace Go.Rex
open Go Go.Rex
noncomputable def slices_Reverse_api_HallPoint_api_HallPoint_4249_l1 : ((List (Int × Int × Int × Int)) × Int × Int) → Option (((List (Int × Int × Int × Int)) × Int × Int) ⊕ (((List (Int × Int × Int × Int))))) := fun (v3, v4, v5) =>
  if (decide (v4 < v5)) = true then
    ((getI v3 v5).bind fun (v19, v20, v21, v22) =>
    (getI v3 v4).bind fun (v23, v24, v25, v26) =>
    (getI (v3.set v4.toNat (v19, v20, v21, v22)) v5).bind fun (v27, v28, v29, v30) =>
    some (.inl (((v3.set v4.toNat (v19, v20, v21, v22)).set v5.toNat (v23, v24, v25, v26)), (IntKind.i64.wrap (v4 + 1)), (IntKind.i64.wrap (v5 - 1)))))
  else
    (some (.inr v3))
noncomputable def slices_Reverse_api_HallPoint_api_HallPoint_4249 (v1 : (List (Int × Int × Int × Int))) : Option ((List (Int × Int × Int × Int))) :=
  (run (slices_Reverse_api_HallPoint_api_HallPoint_4249_l1) (v1, 0, (IntKind.i64.wrap ((v1.length : Int) - 1)))).bind fun v31 =>
  some (v31)

end Go.Rex

namespace Go.Rex
open Go Go.Rex
noncomputable def image_turned_api_HallPoint (v1 : (List (Int × Int × Int × Int))) : Option ((List (Int × Int × Int × Int))) :=
  (slices_Clone_api_HallPoint_api_HallPoint v1).bind fun v3 =>
  (slices_Reverse_api_HallPoint_api_HallPoint_4249 v3).bind fun v4 =>
  some ((lenAs v3 v4))

end Go.Rex

namespace Go.Rex
open Go Go.Rex
noncomputable def image_Turned (v1 : (List Int)) (v2 : (List (Int × Int × Int × Int))) (v3 : Int) : Option ((List Int) × (List (Int × Int × Int × Int)) × Int × Int) :=
  (image_whole v1 v2 v3).bind fun (v8, v9, v10) =>
  (image_whole_c1_fa7c v8 v9 v10).bind fun v11 =>
  if (decide (v11 ≠ 0)) = true then
    (some (([] : List Int), ([] : List (Int × Int × Int × Int)), 0, v11))
  else
    ((image_turned_int v1).bind fun v12 =>
    (image_turned_api_HallPoint v2).bind fun v13 =>
    some (v12, v13, v3, 0))

end Go.Rex

namespace Go.Rex
open Go Go.Rex
noncomputable def base_Within (v1 : Int) (v2 : Int) (v3 : Int) : Option (Bool) :=
  if (decide (v2 ≤ v1)) = true then
    (some ((decide (v1 ≤ v3))))
  else
    (some (false))

end Go.Rex

namespace Go.Rex
open Go Go.Rex
noncomputable def ref02_PathErr (v1 : (List Int)) (v2 : (List (Int × Int × Int × Int))) (v3 : Int) : Option (Int) :=
  if (decide ((v2.length : Int) ≠ (v1.length : Int))) = true then
    (some (10))
  else
    (if (decide ((v1.length : Int) > 4)) = true then
      (some (8))
    else
      ((base_Within v3 1 24300000000).bind fun v5 =>
      if v5 = true then
        (some (0))
      else
        (some (2))))

end Go.Rex

namespace Go.Rex
open Go Go.Rex
noncomputable def base_Ints_811f_l1 (v1 : (List Int)) : (Unit) → Option ((Unit) ⊕ ((Unit))) := fun _ =>
  if (decide (0 < (v1.length : Int))) = true then
    ((getI v1 0).bind fun v4 =>
    none)
  else
    (some (.inr ()))
noncomputable def base_Ints_811f (v1 : (List Int)) : Option (Bool) :=
  if (decide ((v1.length : Int) ≠ 0)) = true then
    (some (false))
  else
    ((run (base_Ints_811f_l1 v1) ()).bind fun _ =>
    some (true))

end Go.Rex

namespace Go.Rex
open Go Go.Rex
noncomputable def ref02_Same_5679_l1 (v2 : (List (Int × Int × Int × Int))) : (Unit) → Option ((Unit) ⊕ ((Unit))) := fun _ =>
  if (decide (0 < (v2.length : Int))) = true then
    ((getI v2 0).bind fun (v11, v12, v13, v14) =>
    none)
  else
    (some (.inr ()))
noncomputable def ref02_Same_5679 (v1 : (List Int)) (v2 : (List (Int × Int × Int × Int))) (v3 : Int) (v4 : Int) : Option (Bool) :=
  (base_Ints_811f v1).bind fun v6 =>
  if v6 = true then
    (if (decide (v3 ≠ v4)) = true then
      (some (false))
    else
      (if (decide ((v2.length : Int) ≠ 0)) = true then
        (some (false))
      else
        ((run (ref02_Same_5679_l1 v2) ()).bind fun _ =>
        some (true))))
  else
    (some (false))

end Go.Rex

namespace Go.Rex
open Go Go.Rex
noncomputable def base_Root_l1 (v1 : Int) : (Int × Int) → Option ((Int × Int) ⊕ ((Int))) := fun (v3, v4) =>
  if (decide (v4 > 0)) = true then
    (if (decide ((IntKind.i64.wrap ((IntKind.i64.wrap (v3 + v4)) * (IntKind.i64.wrap (v3 + v4)))) ≤ v1)) = true then
      (some (.inl ((IntKind.i64.wrap (v3 + v4)), (IntKind.i64.wrap (v4.tdiv 2)))))
    else
      (some (.inl (v3, (IntKind.i64.wrap (v4.tdiv 2))))))
  else
    (some (.inr v3))
noncomputable def base_Root (v1 : Int) : Option (Int) :=
  (run (base_Root_l1 v1) (0, 1073741824)).bind fun v6 =>
  some (v6)

end Go.Rex

namespace Go.Rex
open Go Go.Rex
noncomputable def base_RootUp (v1 : Int) : Option (Int) :=
  (base_Root v1).bind fun v3 =>
  if (decide ((IntKind.i64.wrap (v3 * v3)) < v1)) = true then
    (some ((IntKind.i64.wrap (v3 + 1))))
  else
    (some (v3))

end Go.Rex

namespace Go.Rex
open Go Go.Rex
noncomputable def ref02_LengthOf (v1 : Int) : Option (Int × Int) :=
  (base_Root (IntKind.i64.wrap (v1 * 100000000))).bind fun v4 =>
  (base_RootUp (IntKind.i64.wrap (v1 * 100000000))).bind fun v5 =>
  some (v4, v5)

end Go.Rex

namespace Go.Rex
open Go Go.Rex
noncomputable def ref02_Turned_l1 (v1 : (List Int)) (v2 : (List (Int × Int × Int × Int))) : ((List Int) × (List (Int × Int × Int × Int)) × Int) → Option (((List Int) × (List (Int × Int × Int × Int)) × Int) ⊕ (((List Int) × (List (Int × Int × Int × Int))))) := fun (v7, v8, v9) =>
  if (decide (v9 ≥ 0)) = true then
    ((getI v1 v9).bind fun v19 =>
    (appI 8 v7 ([v19] : List Int)).bind fun v20 =>
    (getI v2 v9).bind fun (v21, v22, v23, v24) =>
    (appI 32 v8 ([(v21, v22, v23, v24)] : List (Int × Int × Int × Int))).bind fun v25 =>
    some (.inl (v20, v25, (IntKind.i64.wrap (v9 - 1)))))
  else
    (some (.inr (v7, v8)))
noncomputable def ref02_Turned (v1 : (List Int)) (v2 : (List (Int × Int × Int × Int))) (v3 : Int) : Option ((List Int) × (List (Int × Int × Int × Int)) × Int) :=
  (run (ref02_Turned_l1 v1 v2) (([] : List Int), ([] : List (Int × Int × Int × Int)), (IntKind.i64.wrap ((v1.length : Int) - 1)))).bind fun (v26, v27) =>
  some (v26, v27, v3)

end Go.Rex

namespace Go.Rex
open Go Go.Rex
noncomputable def base_Ints_l1 (v1 : (List Int)) (v2 : (List Int)) : (Int) → Option ((Int) ⊕ ((Unit) ⊕ (Unit))) := fun v4 =>
  if (decide (v4 < (v1.length : Int))) = true then
    ((getI v1 v4).bind fun v7 =>
    (getI v2 v4).bind fun v8 =>
    if (decide (v7 ≠ v8)) = true then
      (some (.inr (.inl ())))
    else
      (some (.inl (IntKind.i64.wrap (v4 + 1)))))
  else
    (some (.inr (.inr ())))
noncomputable def base_Ints (v1 : (List Int)) (v2 : (List Int)) : Option (Bool) :=
  if (decide ((v1.length : Int) ≠ (v2.length : Int))) = true then
    (some (false))
  else
    ((run (base_Ints_l1 v1 v2) 0).bind fun v9 => match v9 with
    | (.inl _) =>
      some (false)
    | (.inr _) =>
      some (true))

end Go.Rex

namespace Go.Rex
open Go Go.Rex
noncomputable def ref02_Same_l1 (v2 : (List (Int × Int × Int × Int))) (v5 : (List (Int × Int × Int × Int))) : (Int) → Option ((Int) ⊕ ((Unit) ⊕ (Unit))) := fun v9 =>
  if (decide (v9 < (v2.length : Int))) = true then
    ((getI v2 v9).bind fun (v18, v19, v20, v21) =>
    (getI v5 v9).bind fun (v22, v23, v24, v25) =>
    if ([v18 == v22, v19 == v23, v20 == v24, v21 == v25].all id) = true then
      (some (.inl (IntKind.i64.wrap (v9 + 1))))
    else
      (some (.inr (.inl ()))))
  else
    (some (.inr (.inr ())))
noncomputable def ref02_Same (v1 : (List Int)) (v2 : (List (Int × Int × Int × Int))) (v3 : Int) (v4 : (List Int)) (v5 : (List (Int × Int × Int × Int))) (v6 : Int) : Option (Bool) :=
  (base_Ints v1 v4).bind fun v8 =>
  if v8 = true then
    (if (decide (v3 ≠ v6)) = true then
      (some (false))
    else
      (if (decide ((v2.length : Int) ≠ (v5.length : Int))) = true then
        (some (false))
      else
        ((run (ref02_Same_l1 v2 v5) 0).bind fun v26 => match v26 with
        | (.inl _) =>
          some (false)
        | (.inr _) =>
          some (true))))
  else
    (some (false))

end Go.Rex

namespace Go.Rex
open Go Go.Rex
noncomputable def ref02_SpeedErr (v1 : Int) : Option (Int) :=
  (base_Within v1 30000 40000).bind fun v3 =>
  if v3 = true then
    (some (0))
  else
    (some (2))

end Go.Rex

namespace Go.Rex
open Go Go.Rex
noncomputable def base_Floor (v1 : Int) (v2 : Int) : Option (Int) :=
  if v2 = 0 then none else
  (if (decide ((v1.tmod v2) < 0)) = true then
    (some ((IntKind.i64.wrap ((IntKind.i64.wrap (v1.tdiv v2)) - 1))))
  else
    (some ((IntKind.i64.wrap (v1.tdiv v2)))))

end Go.Rex

namespace Go.Rex
open Go Go.Rex
noncomputable def base_Ceil (v1 : Int) (v2 : Int) : Option (Int) :=
  (base_Floor (IntKind.i64.wrap (0 - v1)) v2).bind fun v4 =>
  some ((IntKind.i64.wrap (0 - v4)))

end Go.Rex

namespace Go.Rex
open Go Go.Rex
noncomputable def ref02_DelayOf (v1 : Int) (v2 : Int) : Option (Int × Int) :=
  (ref02_LengthOf v1).bind fun (v5, v6) =>
  (base_Floor (IntKind.i64.wrap (100 * v5)) v2).bind fun v7 =>
  (base_Ceil (IntKind.i64.wrap (100 * v6)) v2).bind fun v8 =>
  some (v7, v8)

end Go.Rex

namespace Go.Rex
open Go Go.Rex
noncomputable def ref02_SamplesOf (v1 : Int) (v2 : Int) (v3 : Int) : Option (Int × Int) :=
  (ref02_DelayOf v1 v2).bind fun (v6, v7) =>
  (base_Floor (IntKind.i64.wrap (v6 * v3)) 1000000).bind fun v8 =>
  (base_Ceil (IntKind.i64.wrap (v7 * v3)) 1000000).bind fun v9 =>
  some (v8, v9)

end Go.Rex

namespace Go.Rex
open Go Go.Rex
noncomputable def law02_ImageDelays (v1 : (List Int)) (v2 : (List (Int × Int × Int × Int))) (v3 : Int) (v4 : Int) (v5 : Int) (v6 : Int) : Option Bool :=
  if (decide ((v1.length : Int) > 6)) = true then
    (some (true))
  else
    (if (decide ((v2.length : Int) > 6)) = true then
      (some (true))
    else
      ((ref02_CopyPath v1 v2 v3).bind fun (v8, v9, v10) =>
      (image_LengthOf v8 v9 v10).bind fun (v11, v12, v13) =>
      (ref02_CopyPath v1 v2 v3).bind fun (v14, v15, v16) =>
      (image_DelayOf v14 v15 v16 v4).bind fun (v17, v18, v19) =>
      (ref02_CopyPath v1 v2 v3).bind fun (v20, v21, v22) =>
      (image_SamplesOf v20 v21 v22 v4 v5).bind fun (v23, v24, v25) =>
      (ref02_CopyPath v1 v2 v3).bind fun (v26, v27, v28) =>
      (image_Turned v26 v27 v28).bind fun (v29, v30, v31, v32) =>
      (ref02_PathErr v1 v2 v3).bind fun v33 =>
      if (decide (v33 ≠ 0)) = true then
        (if (decide (v13 = v33)) = true then
          (if (decide (v19 = v33)) = true then
            (if (decide (v25 = v33)) = true then
              (if (decide (v32 = v33)) = true then
                (if ([v11 == 0, v12 == 0].all id) = true then
                  (if ([v17 == 0, v18 == 0].all id) = true then
                    (if ([v23 == 0, v24 == 0].all id) = true then
                      ((ref02_Same_5679 v29 v30 v31 0).bind fun v34 =>
                      some (v34))
                    else
                      (some (false)))
                  else
                    (some (false)))
                else
                  (some (false)))
              else
                (some (false)))
            else
              (some (false)))
          else
            (some (false)))
        else
          (some (false)))
      else
        (if (decide (v13 ≠ 0)) = true then
          (some (false))
        else
          ((ref02_LengthOf v3).bind fun (v35, v36) =>
          if ([v11 == v35, v12 == v36].all id) = true then
            (if (decide (v32 ≠ 0)) = true then
              (some (false))
            else
              ((ref02_Turned v1 v2 v3).bind fun (v37, v38, v39) =>
              (ref02_Same v29 v30 v31 v37 v38 v39).bind fun v40 =>
              if v40 = true then
                ((image_Turned v29 v30 v31).bind fun (v41, v42, v43, v44) =>
                if (decide (v44 ≠ 0)) = true then
                  (some (false))
                else
                  ((ref02_Same v41 v42 v43 v1 v2 v3).bind fun v45 =>
                  if v45 = true then
                    ((ref02_SpeedErr v4).bind fun v46 =>
                    if (decide (v46 ≠ 0)) = true then
                      (if (decide (v19 = v46)) = true then
                        (if (decide (v25 = v46)) = true then
                          (if ([v17 == 0, v18 == 0].all id) = true then
                            (some (([v23 == 0, v24 == 0].all id)))
                          else
                            (some (false)))
                        else
                          (some (false)))
                      else
                        (some (false)))
                    else
                      (if (decide (v19 ≠ 0)) = true then
                        (some (false))
                      else
                        ((ref02_DelayOf v3 v4).bind fun (v47, v48) =>
                        if ([v17 == v47, v18 == v48].all id) = true then
                          ((base_Within v5 8000 192000).bind fun v49 =>
                          if v49 = true then
                            (if (decide (v25 = 0)) = true then
                              ((ref02_SamplesOf v3 v4 v5).bind fun (v50, v51) =>
                              some (([v23 == v50, v24 == v51].all id)))
                            else
                              (some (false)))
                          else
                            (if (decide (v25 = 2)) = true then
                              (some (([v23 == 0, v24 == 0].all id)))
                            else
                              (some (false))))
                        else
                          (some (false)))))
                  else
                    (some (false))))
              else
                (some (false))))
          else
            (some (false))))))

end Go.Rex
