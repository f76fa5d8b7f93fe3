/- The functions of the program and of the reference, as functions of lists and numbers. -/
import Derived.Test.YtjlembaicmibhaaRexG7
set_option linter.unusedSimpArgs false
set_option linter.unusedVariables false
set_option linter.defProp false
namespace Go.Rex
open Go Go.Rex
def txt_c95356 : ByteArray := ⟨#[0, 1, 2, 2, 3, 3, 3, 3, 4, 4, 4, 4, 4, 4, 4, 4, 5, 5, 5, 5, 5, 5, 5, 5, 5, 5, 5, 5, 5, 5, 5, 5, 6, 6, 6, 6, 6, 6, 6, 6, 6, 6, 6, 6, 6, 6, 6, 6, 6, 6, 6, 6, 6, 6, 6, 6, 6, 6, 6, 6, 6, 6, 6, 6, 7, 7, 7, 7, 7, 7, 7, 7, 7, 7, 7, 7, 7, 7, 7, 7, 7, 7, 7, 7, 7, 7, 7, 7, 7, 7, 7, 7, 7, 7, 7, 7, 7, 7, 7, 7, 7, 7, 7, 7, 7, 7, 7, 7, 7, 7, 7, 7, 7, 7, 7, 7, 7, 7, 7, 7, 7, 7, 7, 7, 7, 7, 7, 7, 8, 8, 8, 8, 8, 8, 8, 8, 8, 8, 8, 8, 8, 8, 8, 8, 8, 8, 8, 8, 8, 8, 8, 8, 8, 8, 8, 8, 8, 8, 8, 8, 8, 8, 8, 8, 8, 8, 8, 8, 8, 8, 8, 8, 8, 8, 8, 8, 8, 8, 8, 8, 8, 8, 8, 8, 8, 8, 8, 8, 8, 8, 8, 8, 8, 8, 8, 8, 8, 8, 8, 8, 8, 8, 8, 8, 8, 8, 8, 8, 8, 8, 8, 8, 8, 8, 8, 8, 8, 8, 8, 8, 8, 8, 8, 8, 8, 8, 8, 8, 8, 8, 8, 8, 8, 8, 8, 8, 8, 8, 8, 8, 8, 8, 8, 8, 8, 8, 8, 8, 8, 8, 8, 8, 8, 8, 8, 8]⟩
def e_ii (x : (Int × Int)) : List TV := [.v (.int .i64 x.1), .v (.int .i64 x.2)]
def e_i (x : Int) : List TV := [.v (.int .i64 x)]

end Go.Rex

namespace Go.Rex
open Go Go.Rex
noncomputable def law08_few (v1 : (List Int)) (v2 : Int) : Option (Bool) :=
  some ((decide ((v1.length : Int) ≤ 34)))

end Go.Rex

namespace Go.Rex
open Go Go.Rex
noncomputable def base_CopyInts (v1 : (List Int)) : Option ((List Int)) :=
  (appI 8 ([] : List Int) v1).bind fun v3 =>
  some (v3)

end Go.Rex

namespace Go.Rex
open Go Go.Rex
noncomputable def ref08_Copy (v1 : (List Int)) (v2 : Int) : Option ((List Int) × Int) :=
  (base_CopyInts v1).bind fun v5 =>
  some (v5, v2)

end Go.Rex

namespace Go.Rex
open Go Go.Rex
noncomputable def ref08_CopyArcs (v1 : (List (Int × Int))) : Option ((List (Int × Int))) :=
  (appI 16 ([] : List (Int × Int)) v1).bind fun v3 =>
  some (v3)

end Go.Rex

namespace Go.Rex
open Go Go.Rex
noncomputable def loop_direction_turned (v1 : Int) (v2 : Int) : Option (Int × Int) :=
  some ((IntKind.i64.wrap (0 - v2)), v1)

end Go.Rex

namespace Go.Rex
open Go Go.Rex
noncomputable def math_bits_Len64 (v1 : Int) : Option (Int) :=
  if (decide (v1 ≥ 4294967296)) = true then
    ((shI .shr .u64 v1 32).bind fun v3 =>
    if (decide (v3 ≥ 65536)) = true then
      ((shI .shr .u64 v3 16).bind fun v4 =>
      if (decide (v4 ≥ 256)) = true then
        ((shI .shr .u64 v4 8).bind fun v5 =>
        (strI txt_c95356 (IntKind.u8.wrap v5)).bind fun v6 =>
        some ((IntKind.i64.wrap (56 + (IntKind.i64.wrap v6)))))
      else
        ((strI txt_c95356 (IntKind.u8.wrap v4)).bind fun v7 =>
        some ((IntKind.i64.wrap (48 + (IntKind.i64.wrap v7))))))
    else
      (if (decide (v3 ≥ 256)) = true then
        ((shI .shr .u64 v3 8).bind fun v8 =>
        (strI txt_c95356 (IntKind.u8.wrap v8)).bind fun v9 =>
        some ((IntKind.i64.wrap (40 + (IntKind.i64.wrap v9)))))
      else
        ((strI txt_c95356 (IntKind.u8.wrap v3)).bind fun v10 =>
        some ((IntKind.i64.wrap (32 + (IntKind.i64.wrap v10)))))))
  else
    (if (decide (v1 ≥ 65536)) = true then
      ((shI .shr .u64 v1 16).bind fun v11 =>
      if (decide (v11 ≥ 256)) = true then
        ((shI .shr .u64 v11 8).bind fun v12 =>
        (strI txt_c95356 (IntKind.u8.wrap v12)).bind fun v13 =>
        some ((IntKind.i64.wrap (24 + (IntKind.i64.wrap v13)))))
      else
        ((strI txt_c95356 (IntKind.u8.wrap v11)).bind fun v14 =>
        some ((IntKind.i64.wrap (16 + (IntKind.i64.wrap v14))))))
    else
      (if (decide (v1 ≥ 256)) = true then
        ((shI .shr .u64 v1 8).bind fun v15 =>
        (strI txt_c95356 (IntKind.u8.wrap v15)).bind fun v16 =>
        some ((IntKind.i64.wrap (8 + (IntKind.i64.wrap v16)))))
      else
        ((strI txt_c95356 (IntKind.u8.wrap v1)).bind fun v17 =>
        some ((IntKind.i64.wrap (0 + (IntKind.i64.wrap v17)))))))

end Go.Rex

namespace Go.Rex
open Go Go.Rex
noncomputable def math_bits_Len (v1 : Int) : Option (Int) :=
  (math_bits_Len64 v1).bind fun v3 =>
  some (v3)

end Go.Rex

namespace Go.Rex
open Go Go.Rex
noncomputable def loop_root_l1 (v1 : Int) : (Int) → Option ((Int) ⊕ ((Int))) := fun v5 =>
  if v5 = 0 then none else
  (if (decide ((IntKind.i64.wrap ((IntKind.i64.wrap (v5 + (IntKind.i64.wrap (v1.tdiv v5)))).tdiv 2)) ≥ v5)) = true then
    (some (.inr v5))
  else
    (some (.inl (IntKind.i64.wrap ((IntKind.i64.wrap (v5 + (IntKind.i64.wrap (v1.tdiv v5)))).tdiv 2)))))
noncomputable def loop_root (v1 : Int) : Option (Int) :=
  (math_bits_Len (IntKind.u64.wrap v1)).bind fun v3 =>
  (shI .shl .i64 1 (IntKind.i64.wrap ((IntKind.i64.wrap (v3 + 1)).tdiv 2))).bind fun v4 =>
  (run (loop_root_l1 v1) v4).bind fun v7 =>
  some (v7)

end Go.Rex

namespace Go.Rex
open Go Go.Rex
noncomputable def loop_modulo (v1 : Int) (v2 : Int) : Option (Int) :=
  if v2 = 0 then none else
  (some (((IntKind.i64.wrap ((v1.tmod v2) + v2)).tmod v2)))

end Go.Rex

namespace Go.Rex
open Go Go.Rex
noncomputable def loop_floor (v1 : Int) (v2 : Int) : Option (Int) :=
  (loop_modulo v1 v2).bind fun v4 =>
  if v2 = 0 then none else
  (some ((IntKind.i64.wrap ((IntKind.i64.wrap (v1 - v4)).tdiv v2))))

end Go.Rex

namespace Go.Rex
open Go Go.Rex
noncomputable def loop_nearest (v1 : Int) (v2 : Int) : Option (Int) :=
  (loop_floor (IntKind.i64.wrap (v1 + (IntKind.i64.wrap (v2.tdiv 2)))) v2).bind fun v4 =>
  some (v4)

end Go.Rex

namespace Go.Rex
open Go Go.Rex
noncomputable def loop_middle (v1 : Int) (v2 : Int) (v3 : Int) (v4 : Int) : Option (Int × Int) :=
  (loop_root (IntKind.i64.wrap ((IntKind.i64.wrap ((IntKind.i64.wrap (v1 + v3)) * (IntKind.i64.wrap (v1 + v3)))) + (IntKind.i64.wrap ((IntKind.i64.wrap (v2 + v4)) * (IntKind.i64.wrap (v2 + v4))))))).bind fun v7 =>
  (loop_nearest (IntKind.i64.wrap ((IntKind.i64.wrap (v1 + v3)) * 67108864)) v7).bind fun v8 =>
  (loop_nearest (IntKind.i64.wrap ((IntKind.i64.wrap (v2 + v4)) * 67108864)) v7).bind fun v9 =>
  some (v8, v9)

end Go.Rex

namespace Go.Rex
open Go Go.Rex
noncomputable def loop_newCircle_l2 (v14 : Int) : ((List (Int × Int)) × Int) → Option (((List (Int × Int)) × Int) ⊕ (((List (Int × Int))))) := fun (v36, v37) =>
  if (decide (v37 < 1024)) = true then
    ((getI v36 (IntKind.i64.wrap (v37 - v14))).bind fun (v47, v48) =>
    (getI v36 (IntKind.i64.wrap (v37 + v14))).bind fun (v49, v50) =>
    (loop_middle v47 v48 v49 v50).bind fun (v51, v52) =>
    (getI v36 v37).bind fun (v53, v54) =>
    some (.inl ((v36.set v37.toNat (v51, v52)), (IntKind.i64.wrap (v37 + (IntKind.i64.wrap (2 * v14)))))))
  else
    (some (.inr v36))
noncomputable def loop_newCircle_l1 : ((List (Int × Int)) × Int) → Option (((List (Int × Int)) × Int) ⊕ (((List (Int × Int))))) := fun (v13, v14) =>
  if (decide (v14 > 0)) = true then
    ((run (loop_newCircle_l2 v14) (v13, v14)).bind fun v55 =>
    some (.inl (v55, (IntKind.i64.wrap (v14.tdiv 2)))))
  else
    (some (.inr v13))
noncomputable def loop_newCircle : Option ((List (Int × Int))) :=
  (mkI 16 1025 ((0, 0) : (Int × Int))).bind fun v2 =>
  (getI v2 0).bind fun (v3, v4) =>
  (getI (v2.set (0 : Int).toNat (67108864, 0)) 512).bind fun (v5, v6) =>
  (getI ((v2.set (0 : Int).toNat (67108864, 0)).set (512 : Int).toNat (47453132, 47453132)) 0).bind fun (v7, v8) =>
  (loop_direction_turned v7 v8).bind fun (v9, v10) =>
  (getI ((v2.set (0 : Int).toNat (67108864, 0)).set (512 : Int).toNat (47453132, 47453132)) 1024).bind fun (v11, v12) =>
  (run (loop_newCircle_l1) ((((v2.set (0 : Int).toNat (67108864, 0)).set (512 : Int).toNat (47453132, 47453132)).set (1024 : Int).toNat (v9, v10)), 256)).bind fun v56 =>
  some (v56)

end Go.Rex

namespace Go.Rex
open Go Go.Rex
noncomputable def loop_plotOf (v1 : (List Int)) (v2 : Int) : Option ((List Int) × Int × (List (Int × Int))) :=
  (loop_newCircle).bind fun v6 =>
  some (v1, v2, v6)

end Go.Rex

namespace Go.Rex
open Go Go.Rex
noncomputable def loop_refuse (v1 : Bool) (v2 : Int) : Option (Bool × Int) :=
  some (v1, v2)

end Go.Rex

namespace Go.Rex
open Go Go.Rex
noncomputable def loop_plot_provenBy (v1 : (List Int)) (v2 : Int) (v3 : (List (Int × Int))) (v4 : (List (Int × Int))) : Option ((List (Int × Int)) × (List (Int × Int)) × (List Int) × Int × (List (Int × Int))) :=
  some (v4, v4, v1, v2, v3)

end Go.Rex

namespace Go.Rex
open Go Go.Rex
noncomputable def loop_counted (v1 : Int) (v2 : Int) : Option (Int × Int) :=
  some (v1, v2)

end Go.Rex

namespace Go.Rex
open Go Go.Rex
noncomputable def loop_each_2037 (v1 : Int) (v2 : (List Int)) (v3 : Int) (v4 : Int) : Option (Int × (List Int) × Int × Int) :=
  some (v1, v2, v3, v4)

end Go.Rex

namespace Go.Rex
open Go Go.Rex
noncomputable def loop_allWithin (v1 : (List Int)) (v2 : Int) (v3 : Int) : Option (Int × (List Int) × Int × Int) :=
  (loop_each_2037 (v1.length : Int) v1 v2 v3).bind fun (v8, v9, v10, v11) =>
  some (v8, v9, v10, v11)

end Go.Rex

namespace Go.Rex
open Go Go.Rex
noncomputable def loop_within (v1 : Int) (v2 : Int) (v3 : Int) : Option (Bool × Int) :=
  if (decide (v1 < v2)) = true then
    ((loop_refuse true 2).bind fun (v6, v7) =>
    some (v6, v7))
  else
    ((loop_refuse (decide (v1 > v3)) 2).bind fun (v8, v9) =>
    some (v8, v9))

end Go.Rex

namespace Go.Rex
open Go Go.Rex
noncomputable def loop_refuse_c1_11f9 (v1 : Bool) (v2 : Int) : Option (Int) :=
  if v1 = true then
    (some (v2))
  else
    (some (0))

end Go.Rex

namespace Go.Rex
open Go Go.Rex
noncomputable def loop_firstError_60c4 (v1 : Bool) (v2 : Int) (v3 : Bool) (v4 : Int) : Option (Int) :=
  (loop_refuse_c1_11f9 v1 v2).bind fun v6 =>
  if (decide (v6 ≠ 0)) = true then
    (some (v6))
  else
    ((loop_refuse_c1_11f9 v3 v4).bind fun v7 =>
    if (decide (v7 ≠ 0)) = true then
      (some (v7))
    else
      (some (0)))

end Go.Rex

namespace Go.Rex
open Go Go.Rex
noncomputable def loop_counted_c1_b585 (v1 : Int) (v2 : Int) : Option (Int) :=
  (loop_refuse (decide (v1 = 0)) 10).bind fun (v4, v5) =>
  (loop_refuse (decide (v1 > v2)) 8).bind fun (v6, v7) =>
  (loop_firstError_60c4 v4 v5 v6 v7).bind fun v8 =>
  some (v8)

end Go.Rex

namespace Go.Rex
open Go Go.Rex
noncomputable def loop_feedback_check_c1_431b (v1 : (List Int)) (v2 : Int) : Option (Int) :=
  (getI v1 0).bind fun v4 =>
  (loop_refuse (decide (v4 ≠ 0)) 11).bind fun (v5, v6) =>
  (loop_refuse_c1_11f9 v5 v6).bind fun v7 =>
  some (v7)

end Go.Rex

namespace Go.Rex
open Go Go.Rex
noncomputable def loop_allWithin_c1_ea58 (v1 : Int) (v2 : (List Int)) (v3 : Int) (v4 : Int) : Option (Int) :=
  (getI v2 v1).bind fun v6 =>
  (loop_within v6 v3 v4).bind fun (v7, v8) =>
  (loop_refuse_c1_11f9 v7 v8).bind fun v9 =>
  some (v9)

end Go.Rex

namespace Go.Rex
open Go Go.Rex
noncomputable def loop_each_c1_2344_l1 (v1 : Int) (v2 : (List Int)) (v3 : Int) (v4 : Int) : (Int) → Option ((Int) ⊕ ((Int) ⊕ (Unit))) := fun v6 =>
  if (decide (v6 < v1)) = true then
    ((loop_allWithin_c1_ea58 v6 v2 v3 v4).bind fun v9 =>
    if (decide (v9 ≠ 0)) = true then
      (some (.inr (.inl v9)))
    else
      (some (.inl (IntKind.i64.wrap (v6 + 1)))))
  else
    (some (.inr (.inr ())))
noncomputable def loop_each_c1_2344 (v1 : Int) (v2 : (List Int)) (v3 : Int) (v4 : Int) : Option (Int) :=
  (run (loop_each_c1_2344_l1 v1 v2 v3 v4) 0).bind fun v10 => match v10 with
  | (.inl v11) =>
    some (v11)
  | (.inr _) =>
    some (0)

end Go.Rex

namespace Go.Rex
open Go Go.Rex
noncomputable def loop_firstError_2d9c (v1 : Int) (v2 : Int) (v3 : (List Int)) (v4 : Int) (v5 : Int) (v6 : (List Int)) (v7 : Int) (v8 : Int) (v9 : Bool) (v10 : Int) : Option (Int) :=
  (loop_counted_c1_b585 v1 v2).bind fun v12 =>
  if (decide (v12 ≠ 0)) = true then
    (some (v12))
  else
    ((loop_feedback_check_c1_431b v3 v4).bind fun v13 =>
    if (decide (v13 ≠ 0)) = true then
      (some (v13))
    else
      ((loop_each_c1_2344 v5 v6 v7 v8).bind fun v14 =>
      if (decide (v14 ≠ 0)) = true then
        (some (v14))
      else
        ((loop_refuse_c1_11f9 v9 v10).bind fun v15 =>
        if (decide (v15 ≠ 0)) = true then
          (some (v15))
        else
          (some (0)))))

end Go.Rex

namespace Go.Rex
open Go Go.Rex
noncomputable def loop_feedback_check (v1 : (List Int)) (v2 : Int) : Option (Int) :=
  (loop_counted (v1.length : Int) 32).bind fun (v4, v5) =>
  (loop_allWithin v1 (-16384) 16384).bind fun (v6, v7, v8, v9) =>
  (loop_within v2 0 10000).bind fun (v10, v11) =>
  (loop_firstError_2d9c v4 v5 v1 v2 v6 v7 v8 v9 v10 v11).bind fun v12 =>
  some (v12)

end Go.Rex

namespace Go.Rex
open Go Go.Rex
noncomputable def loop_each_561b (v1 : Int) (v2 : (List (Int × Int))) (v3 : (List (Int × Int))) (v4 : (List Int)) (v5 : Int) (v6 : (List (Int × Int))) : Option (Int × (List (Int × Int)) × (List (Int × Int)) × (List Int) × Int × (List (Int × Int))) :=
  some (v1, v2, v3, v4, v5, v6)

end Go.Rex

namespace Go.Rex
open Go Go.Rex
noncomputable def loop_plot_provenBy_c1_cff2 (v1 : Int) (v2 : (List (Int × Int))) : Option (Int) :=
  if (decide (v1 = 0)) = true then
    (some (0))
  else
    ((getI v2 (IntKind.i64.wrap (v1 - 1))).bind fun (v4, v5) =>
    some (v5))

end Go.Rex

namespace Go.Rex
open Go Go.Rex
noncomputable def loop_onHalf (v1 : Int) (v2 : Int) : Option (Int × Int) :=
  some (v1, v2)

end Go.Rex

namespace Go.Rex
open Go Go.Rex
noncomputable def loop_firstError_f4c9 (v1 : Bool) (v2 : Int) (v3 : Bool) (v4 : Int) (v5 : Bool) (v6 : Int) : Option (Int) :=
  (loop_refuse_c1_11f9 v1 v2).bind fun v8 =>
  if (decide (v8 ≠ 0)) = true then
    (some (v8))
  else
    ((loop_refuse_c1_11f9 v3 v4).bind fun v9 =>
    if (decide (v9 ≠ 0)) = true then
      (some (v9))
    else
      ((loop_refuse_c1_11f9 v5 v6).bind fun v10 =>
      if (decide (v10 ≠ 0)) = true then
        (some (v10))
      else
        (some (0))))

end Go.Rex

namespace Go.Rex
open Go Go.Rex
noncomputable def loop_onHalf_c1_eebc (v1 : Int) (v2 : Int) : Option (Int) :=
  (loop_within v1 0 2048).bind fun (v4, v5) =>
  (loop_within v2 0 2048).bind fun (v6, v7) =>
  (loop_refuse (decide (v1 > v2)) 9).bind fun (v8, v9) =>
  (loop_firstError_f4c9 v4 v5 v6 v7 v8 v9).bind fun v10 =>
  some (v10)

end Go.Rex

namespace Go.Rex
open Go Go.Rex
noncomputable def loop_middleOf (v1 : Int) (v2 : Int) : Option (Int) :=
  some ((IntKind.i64.wrap ((IntKind.i64.wrap (v1 + v2)).tdiv 2)))

end Go.Rex

namespace Go.Rex
open Go Go.Rex
noncomputable def loop_circle_direction_l1 (v5 : Int) : (Int × Int × Int) → Option ((Int × Int × Int) ⊕ ((Int × Int))) := fun (v8, v9, v10) =>
  if (decide (v10 < (IntKind.i64.wrap (v5.tdiv 1024)))) = true then
    ((loop_direction_turned v8 v9).bind fun (v15, v16) =>
    some (.inl (v15, v16, (IntKind.i64.wrap (v10 + 1)))))
  else
    (some (.inr (v8, v9)))
noncomputable def loop_circle_direction (v1 : (List (Int × Int))) (v2 : Int) : Option (Int × Int) :=
  (loop_modulo v2 4096).bind fun v5 =>
  (getI v1 (v5.tmod 1024)).bind fun (v6, v7) =>
  (run (loop_circle_direction_l1 v5) (v6, v7, 0)).bind fun (v17, v18) =>
  some (v17, v18)

end Go.Rex

namespace Go.Rex
open Go Go.Rex
noncomputable def loop_circle_unit (v1 : (List (Int × Int))) (v2 : Int) : Option (Int × Int × Int) :=
  (loop_circle_direction v1 v2).bind fun (v6, v7) =>
  (loop_nearest v6 64).bind fun v8 =>
  (loop_nearest v7 64).bind fun v9 =>
  if (decide ((v2.tmod 1024) = 0)) = true then
    (some (v8, v9, 0))
  else
    (some (v8, v9, 2))

end Go.Rex

namespace Go.Rex
open Go Go.Rex
noncomputable def loop_size (v1 : Int) : Option (Int) :=
  some ((if (IntKind.i64.wrap (0 - v1)) > v1 then (IntKind.i64.wrap (0 - v1)) else v1))

end Go.Rex

namespace Go.Rex
open Go Go.Rex
noncomputable def loop_ceiling (v1 : Int) (v2 : Int) : Option (Int) :=
  (loop_floor (IntKind.i64.wrap (0 - v1)) v2).bind fun v4 =>
  some ((IntKind.i64.wrap (0 - v4)))

end Go.Rex

namespace Go.Rex
open Go Go.Rex
noncomputable def loop_plot_value_l1 (v1 : (List Int)) (v3 : (List (Int × Int))) (v4 : Int) : (Int × Int × Int × Int) → Option ((Int × Int × Int × Int) ⊕ ((Int × Int × Int))) := fun (v8, v9, v10, v11) =>
  if (decide (v11 < (v1.length : Int))) = true then
    ((getI v1 v11).bind fun v20 =>
    (loop_circle_unit v3 (IntKind.i64.wrap ((IntKind.i64.wrap (0 - v4)) * v11))).bind fun (v21, v22, v23) =>
    (loop_size v20).bind fun v24 =>
    some (.inl ((IntKind.i64.wrap (v8 + (IntKind.i64.wrap (v20 * v21)))), (IntKind.i64.wrap (v9 + (IntKind.i64.wrap (v20 * v22)))), (IntKind.i64.wrap (v10 + (IntKind.i64.wrap (v24 * v23)))), (IntKind.i64.wrap (v11 + 1)))))
  else
    (some (.inr (v8, v9, v10)))
noncomputable def loop_plot_value (v1 : (List Int)) (v2 : Int) (v3 : (List (Int × Int))) (v4 : Int) : Option (Int × Int × Int) :=
  (run (loop_plot_value_l1 v1 v3 v4) (0, 0, 0, 0)).bind fun (v25, v26, v27) =>
  (loop_nearest (IntKind.i64.wrap (v2 * v25)) 16384000).bind fun v28 =>
  (loop_nearest (IntKind.i64.wrap (v2 * v26)) 16384000).bind fun v29 =>
  (loop_ceiling (IntKind.i64.wrap (v2 * v27)) 16384000).bind fun v30 =>
  if (decide (((IntKind.i64.wrap (v2 * v25)).tmod 16384000) ≠ 0)) = true then
    (some (v28, v29, (IntKind.i64.wrap (v30 + 1))))
  else
    (if (decide (((IntKind.i64.wrap (v2 * v26)).tmod 16384000) ≠ 0)) = true then
      (some (v28, v29, (IntKind.i64.wrap (v30 + 1))))
    else
      (some (v28, v29, v30)))

end Go.Rex

namespace Go.Rex
open Go Go.Rex
noncomputable def loop_plot_sway_l1 (v1 : (List Int)) : (Int × Int) → Option ((Int × Int) ⊕ ((Int))) := fun (v6, v7) =>
  if (decide (v7 < (v1.length : Int))) = true then
    ((getI v1 v7).bind fun v11 =>
    (loop_size v11).bind fun v12 =>
    some (.inl ((IntKind.i64.wrap (v6 + (IntKind.i64.wrap (v7 * v12)))), (IntKind.i64.wrap (v7 + 1)))))
  else
    (some (.inr v6))
noncomputable def loop_plot_sway (v1 : (List Int)) (v2 : Int) (v3 : (List (Int × Int))) (v4 : Int) : Option (Int) :=
  (run (loop_plot_sway_l1 v1) (0, 0)).bind fun v13 =>
  (loop_ceiling (IntKind.i64.wrap ((IntKind.i64.wrap ((IntKind.i64.wrap (v13 * v2)) * 6284)) * v4)) 64000000).bind fun v14 =>
  some (v14)

end Go.Rex

namespace Go.Rex
open Go Go.Rex
noncomputable def loop_plot_ball (v1 : (List Int)) (v2 : Int) (v3 : (List (Int × Int))) (v4 : Int) (v5 : Int) : Option (Int × Int × Int) :=
  (loop_middleOf v4 v5).bind fun v9 =>
  (loop_plot_value v1 v2 v3 v9).bind fun (v10, v11, v12) =>
  (loop_plot_sway v1 v2 v3 (IntKind.i64.wrap (v5 - v9))).bind fun v13 =>
  some (v10, v11, (IntKind.i64.wrap (v12 + v13)))

end Go.Rex

namespace Go.Rex
open Go Go.Rex
noncomputable def loop_isSmall (v1 : Int) (v2 : Int) : Option (Bool) :=
  if (decide ((IntKind.i64.wrap (0 - v2)) ≤ v1)) = true then
    (some ((decide (v1 ≤ v2))))
  else
    (some (false))

end Go.Rex

namespace Go.Rex
open Go Go.Rex
noncomputable def cmp_isNaN_int (v1 : Int) : Option (Bool) :=
  some ((decide (v1 ≠ v1)))

end Go.Rex

namespace Go.Rex
open Go Go.Rex
noncomputable def cmp_Compare_int (v1 : Int) (v2 : Int) : Option (Int) :=
  (cmp_isNaN_int v1).bind fun v4 =>
  (cmp_isNaN_int v2).bind fun v5 =>
  if v4 = true then
    (if v5 = true then
      (some (0))
    else
      (some ((-1))))
  else
    (if v5 = true then
      (some (1))
    else
      (if (decide (v1 < v2)) = true then
        (some ((-1)))
      else
        (if (decide (v1 > v2)) = true then
          (some (1))
        else
          (some (0)))))

end Go.Rex

namespace Go.Rex
open Go Go.Rex
noncomputable def loop_side (v1 : Int) (v2 : Int) (v3 : Int) : Option (Int) :=
  (loop_size v2).bind fun v5 =>
  if (decide (v5 ≤ v3)) = true then
    (some (0))
  else
    ((cmp_Compare_int v2 0).bind fun v6 =>
    some (v6))

end Go.Rex

namespace Go.Rex
open Go Go.Rex
noncomputable def loop_IsClear (v1 : Int) (v2 : Int) (v3 : Int) : Option (Bool) :=
  (loop_isSmall v1 1000000000000000).bind fun v5 =>
  if v5 = true then
    ((loop_isSmall v2 1000000000000000).bind fun v6 =>
    if v6 = true then
      (if (decide (0 ≤ v3)) = true then
        (if (decide (v3 ≤ 1000000000000000)) = true then
          ((loop_side v1 v2 v3).bind fun v7 =>
          if (decide (v7 ≠ 0)) = true then
            (some (true))
          else
            (some ((decide ((IntKind.i64.wrap (v1 + v3)) < 1048576)))))
        else
          (some (false)))
      else
        (some (false)))
    else
      (some (false)))
  else
    (some (false))

end Go.Rex

namespace Go.Rex
open Go Go.Rex
noncomputable def loop_plot_provenBy_c2_c1_c1_4b26 (v1 : (List Int)) (v2 : Int) (v3 : (List (Int × Int))) (v4 : Int) (v5 : Int) : Option (Int) :=
  (loop_plot_ball v1 v2 v3 v4 v5).bind fun (v7, v8, v9) =>
  (loop_IsClear v7 v8 v9).bind fun v10 =>
  (loop_refuse (!v10) 20).bind fun (v11, v12) =>
  (loop_refuse_c1_11f9 v11 v12).bind fun v13 =>
  some (v13)

end Go.Rex

namespace Go.Rex
open Go Go.Rex
noncomputable def loop_firstError_64d9 (v1 : Int) (v2 : Int) (v3 : Bool) (v4 : Int) (v5 : (List Int)) (v6 : Int) (v7 : (List (Int × Int))) (v8 : Int) (v9 : Int) : Option (Int) :=
  (loop_onHalf_c1_eebc v1 v2).bind fun v11 =>
  if (decide (v11 ≠ 0)) = true then
    (some (v11))
  else
    ((loop_refuse_c1_11f9 v3 v4).bind fun v12 =>
    if (decide (v12 ≠ 0)) = true then
      (some (v12))
    else
      ((loop_plot_provenBy_c2_c1_c1_4b26 v5 v6 v7 v8 v9).bind fun v13 =>
      if (decide (v13 ≠ 0)) = true then
        (some (v13))
      else
        (some (0))))

end Go.Rex

namespace Go.Rex
open Go Go.Rex
noncomputable def loop_plot_provenBy_c2_c1_6729 (v1 : Int) (v2 : (List (Int × Int))) (v3 : (List (Int × Int))) (v4 : (List Int)) (v5 : Int) (v6 : (List (Int × Int))) : Option (Int) :=
  (getI v2 v1).bind fun (v8, v9) =>
  (loop_onHalf v8 v9).bind fun (v10, v11) =>
  (loop_plot_provenBy_c1_cff2 v1 v3).bind fun v12 =>
  (loop_refuse (decide (v8 ≠ v12)) 14).bind fun (v13, v14) =>
  (loop_firstError_64d9 v10 v11 v13 v14 v4 v5 v6 v8 v9).bind fun v15 =>
  some (v15)

end Go.Rex

namespace Go.Rex
open Go Go.Rex
noncomputable def loop_each_c1_ff07_l1 (v1 : Int) (v2 : (List (Int × Int))) (v3 : (List (Int × Int))) (v4 : (List Int)) (v5 : Int) (v6 : (List (Int × Int))) : (Int) → Option ((Int) ⊕ ((Int) ⊕ (Unit))) := fun v8 =>
  if (decide (v8 < v1)) = true then
    ((loop_plot_provenBy_c2_c1_6729 v8 v2 v3 v4 v5 v6).bind fun v11 =>
    if (decide (v11 ≠ 0)) = true then
      (some (.inr (.inl v11)))
    else
      (some (.inl (IntKind.i64.wrap (v8 + 1)))))
  else
    (some (.inr (.inr ())))
noncomputable def loop_each_c1_ff07 (v1 : Int) (v2 : (List (Int × Int))) (v3 : (List (Int × Int))) (v4 : (List Int)) (v5 : Int) (v6 : (List (Int × Int))) : Option (Int) :=
  (run (loop_each_c1_ff07_l1 v1 v2 v3 v4 v5 v6) 0).bind fun v12 => match v12 with
  | (.inl v13) =>
    some (v13)
  | (.inr _) =>
    some (0)

end Go.Rex

namespace Go.Rex
open Go Go.Rex
noncomputable def loop_firstError_ba72 (v1 : Int) (v2 : (List (Int × Int))) (v3 : (List (Int × Int))) (v4 : (List Int)) (v5 : Int) (v6 : (List (Int × Int))) (v7 : Bool) (v8 : Int) : Option (Int) :=
  (loop_each_c1_ff07 v1 v2 v3 v4 v5 v6).bind fun v10 =>
  if (decide (v10 ≠ 0)) = true then
    (some (v10))
  else
    ((loop_refuse_c1_11f9 v7 v8).bind fun v11 =>
    if (decide (v11 ≠ 0)) = true then
      (some (v11))
    else
      (some (0)))

end Go.Rex

namespace Go.Rex
open Go Go.Rex
noncomputable def loop_plot_provenBy_c2_e9f9 (v1 : (List (Int × Int))) (v2 : (List (Int × Int))) (v3 : (List Int)) (v4 : Int) (v5 : (List (Int × Int))) : Option (Int) :=
  (loop_each_561b (v1.length : Int) v1 v2 v3 v4 v5).bind fun (v7, v8, v9, v10, v11, v12) =>
  (loop_plot_provenBy_c1_cff2 (v1.length : Int) v2).bind fun v13 =>
  (loop_refuse (decide (v13 ≠ 2048)) 14).bind fun (v14, v15) =>
  (loop_firstError_ba72 v7 v8 v9 v10 v11 v12 v14 v15).bind fun v16 =>
  some (v16)

end Go.Rex

namespace Go.Rex
open Go Go.Rex
noncomputable def loop_firstError_ce11 (v1 : (List Int)) (v2 : Int) (v3 : Bool) (v4 : Int) (v5 : (List (Int × Int))) (v6 : (List (Int × Int))) (v7 : (List Int)) (v8 : Int) (v9 : (List (Int × Int))) : Option (Int) :=
  (loop_feedback_check v1 v2).bind fun v11 =>
  if (decide (v11 ≠ 0)) = true then
    (some (v11))
  else
    ((loop_refuse_c1_11f9 v3 v4).bind fun v12 =>
    if (decide (v12 ≠ 0)) = true then
      (some (v12))
    else
      ((loop_plot_provenBy_c2_e9f9 v5 v6 v7 v8 v9).bind fun v13 =>
      if (decide (v13 ≠ 0)) = true then
        (some (v13))
      else
        (some (0))))

end Go.Rex

namespace Go.Rex
open Go Go.Rex
noncomputable def loop_CheckArcs (v1 : (List Int)) (v2 : Int) (v3 : (List (Int × Int))) : Option (Int × Int) :=
  (loop_plotOf v1 v2).bind fun (v6, v7, v8) =>
  (loop_refuse (decide ((v3.length : Int) > 512)) 8).bind fun (v9, v10) =>
  (loop_plot_provenBy v6 v7 v8 v3).bind fun (v16, v17, v18, v19, v20) =>
  (loop_firstError_ce11 v6 v7 v9 v10 v16 v17 v18 v19 v20).bind fun v21 =>
  if (decide (v21 ≠ 0)) = true then
    (some (0, v21))
  else
    (some ((v3.length : Int), 0))

end Go.Rex

namespace Go.Rex
open Go Go.Rex
noncomputable def loop_atPoint (v1 : Int) : Option (Int × Int) :=
  some (v1, v1)

end Go.Rex

namespace Go.Rex
open Go Go.Rex
noncomputable def loop_isBeyond (v1 : Int) (v2 : Int) (v3 : Int) : Option (Bool) :=
  some ((decide ((IntKind.i64.wrap (v1 - v3)) ≥ 1048576)))

end Go.Rex

namespace Go.Rex
open Go Go.Rex
noncomputable def loop_plot_ringsOn (v1 : (List Int)) (v2 : Int) (v3 : (List (Int × Int))) (v4 : Int) (v5 : Int) : Option (Bool) :=
  (loop_atPoint 0).bind fun (v7, v8) =>
  if ([v4 == v7, v5 == v8].all id) = true then
    ((loop_plot_value v1 v2 v3 v4).bind fun (v9, v10, v11) =>
    (loop_isBeyond v9 v10 v11).bind fun v12 =>
    some (v12))
  else
    ((loop_atPoint 2048).bind fun (v13, v14) =>
    if ([v4 == v13, v5 == v14].all id) = true then
      ((loop_plot_value v1 v2 v3 v4).bind fun (v15, v16, v17) =>
      (loop_isBeyond v15 v16 v17).bind fun v18 =>
      some (v18))
    else
      ((loop_plot_ball v1 v2 v3 v4 v5).bind fun (v19, v20, v21) =>
      (loop_isBeyond v19 v20 v21).bind fun v22 =>
      if v22 = true then
        ((loop_plot_value v1 v2 v3 v4).bind fun (v23, v24, v25) =>
        (loop_side v23 v24 v25).bind fun v26 =>
        (loop_plot_value v1 v2 v3 v5).bind fun (v27, v28, v29) =>
        (loop_side v27 v28 v29).bind fun v30 =>
        some ((decide ((IntKind.i64.wrap (v26 * v30)) < 0))))
      else
        (some (false))))

end Go.Rex

namespace Go.Rex
open Go Go.Rex
noncomputable def loop_CheckRings_c1_4b26 (v1 : (List Int)) (v2 : Int) (v3 : (List (Int × Int))) (v4 : Int) (v5 : Int) : Option (Int) :=
  (loop_plot_ringsOn v1 v2 v3 v4 v5).bind fun v7 =>
  (loop_refuse (!v7) 20).bind fun (v8, v9) =>
  (loop_refuse_c1_11f9 v8 v9).bind fun v10 =>
  some (v10)

end Go.Rex

namespace Go.Rex
open Go Go.Rex
noncomputable def loop_firstError_203d (v1 : (List Int)) (v2 : Int) (v3 : Int) (v4 : Int) (v5 : (List Int)) (v6 : Int) (v7 : (List (Int × Int))) (v8 : Int) (v9 : Int) : Option (Int) :=
  (loop_feedback_check v1 v2).bind fun v11 =>
  if (decide (v11 ≠ 0)) = true then
    (some (v11))
  else
    ((loop_onHalf_c1_eebc v3 v4).bind fun v12 =>
    if (decide (v12 ≠ 0)) = true then
      (some (v12))
    else
      ((loop_CheckRings_c1_4b26 v5 v6 v7 v8 v9).bind fun v13 =>
      if (decide (v13 ≠ 0)) = true then
        (some (v13))
      else
        (some (0))))

end Go.Rex

namespace Go.Rex
open Go Go.Rex
noncomputable def loop_CheckRings (v1 : (List Int)) (v2 : Int) (v3 : Int) (v4 : Int) : Option (Int) :=
  (loop_plotOf v1 v2).bind fun (v6, v7, v8) =>
  (loop_onHalf v3 v4).bind fun (v9, v10) =>
  (loop_firstError_203d v6 v7 v9 v10 v6 v7 v8 v3 v4).bind fun v11 =>
  some (v11)

end Go.Rex

namespace Go.Rex
open Go Go.Rex
noncomputable def base_Within (v1 : Int) (v2 : Int) (v3 : Int) : Option (Bool) :=
  if (decide (v2 ≤ v1)) = true then
    (some ((decide (v1 ≤ v3))))
  else
    (some (false))

end Go.Rex

namespace Go.Rex
open Go Go.Rex
noncomputable def ref08_CheckLoop_l1 (v1 : (List Int)) : (Int) → Option ((Int) ⊕ ((Unit) ⊕ (Unit))) := fun v5 =>
  if (decide (v5 < (v1.length : Int))) = true then
    ((getI v1 v5).bind fun v8 =>
    (base_Within v8 (-16384) 16384).bind fun v9 =>
    if v9 = true then
      (some (.inl (IntKind.i64.wrap (v5 + 1))))
    else
      (some (.inr (.inl ()))))
  else
    (some (.inr (.inr ())))
noncomputable def ref08_CheckLoop (v1 : (List Int)) (v2 : Int) : Option (Int) :=
  if (decide ((v1.length : Int) = 0)) = true then
    (some (10))
  else
    (if (decide ((v1.length : Int) > 32)) = true then
      (some (8))
    else
      ((getI v1 0).bind fun v4 =>
      if (decide (v4 ≠ 0)) = true then
        (some (11))
      else
        ((run (ref08_CheckLoop_l1 v1) 0).bind fun v10 => match v10 with
        | (.inl _) =>
          some (2)
        | (.inr _) =>
          (base_Within v2 0 10000).bind fun v11 =>
          if v11 = true then
            (some (0))
          else
            (some (2)))))

end Go.Rex

namespace Go.Rex
open Go Go.Rex
noncomputable def base_Root_l1 (v1 : Int) : (Int × Int) → Option ((Int × Int) ⊕ ((Int))) := fun (v3, v4) =>
  if (decide (v4 > 0)) = true then
    (if (decide ((IntKind.i64.wrap ((IntKind.i64.wrap (v3 + v4)) * (IntKind.i64.wrap (v3 + v4)))) ≤ v1)) = true then
      (some (.inl ((IntKind.i64.wrap (v3 + v4)), (IntKind.i64.wrap (v4.tdiv 2)))))
    else
      (some (.inl (v3, (IntKind.i64.wrap (v4.tdiv 2))))))
  else
    (some (.inr v3))
noncomputable def base_Root (v1 : Int) : Option (Int) :=
  (run (base_Root_l1 v1) (0, 1073741824)).bind fun v6 =>
  some (v6)

end Go.Rex

namespace Go.Rex
open Go Go.Rex
noncomputable def base_Floor (v1 : Int) (v2 : Int) : Option (Int) :=
  if v2 = 0 then none else
  (if (decide ((v1.tmod v2) < 0)) = true then
    (some ((IntKind.i64.wrap ((IntKind.i64.wrap (v1.tdiv v2)) - 1))))
  else
    (some ((IntKind.i64.wrap (v1.tdiv v2)))))

end Go.Rex

namespace Go.Rex
open Go Go.Rex
noncomputable def ref08_middle (v1 : Int) (v2 : Int) (v3 : Int) (v4 : Int) : Option (Int × Int) :=
  (base_Root (IntKind.i64.wrap ((IntKind.i64.wrap ((IntKind.i64.wrap (v1 + v3)) * (IntKind.i64.wrap (v1 + v3)))) + (IntKind.i64.wrap ((IntKind.i64.wrap (v2 + v4)) * (IntKind.i64.wrap (v2 + v4))))))).bind fun v7 =>
  (base_Floor (IntKind.i64.wrap ((IntKind.i64.wrap ((IntKind.i64.wrap (2 * (IntKind.i64.wrap (v1 + v3)))) * 67108864)) + v7)) (IntKind.i64.wrap (2 * v7))).bind fun v8 =>
  (base_Floor (IntKind.i64.wrap ((IntKind.i64.wrap ((IntKind.i64.wrap (2 * (IntKind.i64.wrap (v2 + v4)))) * 67108864)) + v7)) (IntKind.i64.wrap (2 * v7))).bind fun v9 =>
  some (v8, v9)

end Go.Rex

namespace Go.Rex
open Go Go.Rex
noncomputable def ref08_Table_l2 (v10 : Int) : ((List (Int × Int)) × Int) → Option (((List (Int × Int)) × Int) ⊕ (((List (Int × Int))))) := fun (v32, v33) =>
  if (decide (v33 < 1024)) = true then
    ((getI v32 (IntKind.i64.wrap (v33 - v10))).bind fun (v43, v44) =>
    (getI v32 (IntKind.i64.wrap (v33 + v10))).bind fun (v45, v46) =>
    (ref08_middle v43 v44 v45 v46).bind fun (v47, v48) =>
    (getI v32 v33).bind fun (v49, v50) =>
    some (.inl ((v32.set v33.toNat (v47, v48)), (IntKind.i64.wrap (v33 + (IntKind.i64.wrap (2 * v10)))))))
  else
    (some (.inr v32))
noncomputable def ref08_Table_l1 : ((List (Int × Int)) × Int) → Option (((List (Int × Int)) × Int) ⊕ (((List (Int × Int))))) := fun (v9, v10) =>
  if (decide (v10 ≥ 1)) = true then
    ((run (ref08_Table_l2 v10) (v9, v10)).bind fun v51 =>
    some (.inl (v51, (IntKind.i64.wrap (v10.tdiv 2)))))
  else
    (some (.inr v9))
noncomputable def ref08_Table : Option ((List (Int × Int))) :=
  (mkI 16 1025 ((0, 0) : (Int × Int))).bind fun v2 =>
  (getI v2 0).bind fun (v3, v4) =>
  (getI (v2.set (0 : Int).toNat (67108864, 0)) 512).bind fun (v5, v6) =>
  (getI ((v2.set (0 : Int).toNat (67108864, 0)).set (512 : Int).toNat (47453132, 47453132)) 1024).bind fun (v7, v8) =>
  (run (ref08_Table_l1) ((((v2.set (0 : Int).toNat (67108864, 0)).set (512 : Int).toNat (47453132, 47453132)).set (1024 : Int).toNat (0, 67108864)), 256)).bind fun v52 =>
  some (v52)

end Go.Rex

namespace Go.Rex
open Go Go.Rex
noncomputable def ref08_ArcErr (v1 : Int) (v2 : Int) : Option (Int) :=
  (base_Within v1 0 2048).bind fun v4 =>
  if v4 = true then
    ((base_Within v2 0 2048).bind fun v5 =>
    if v5 = true then
      (if (decide (v1 > v2)) = true then
        (some (9))
      else
        (some (0)))
    else
      (some (2)))
  else
    (some (2))

end Go.Rex

namespace Go.Rex
open Go Go.Rex
noncomputable def base_Mod (v1 : Int) (v2 : Int) : Option (Int) :=
  if v2 = 0 then none else
  (if (decide ((v1.tmod v2) < 0)) = true then
    (some ((IntKind.i64.wrap ((v1.tmod v2) + v2))))
  else
    (some ((v1.tmod v2))))

end Go.Rex

namespace Go.Rex
open Go Go.Rex
noncomputable def ref08_round (v1 : Int) (v2 : Int) : Option (Int) :=
  (base_Floor (IntKind.i64.wrap (v1 + (IntKind.i64.wrap (v2.tdiv 2)))) v2).bind fun v4 =>
  some (v4)

end Go.Rex

namespace Go.Rex
open Go Go.Rex
noncomputable def ref08_Unit_l1 (v6 : Int) : (Int × Int × Int) → Option ((Int × Int × Int) ⊕ ((Int × Int))) := fun (v9, v10, v11) =>
  if (decide (v11 < (IntKind.i64.wrap (v6.tdiv 1024)))) = true then
    (some (.inl ((IntKind.i64.wrap (0 - v10)), v9, (IntKind.i64.wrap (v11 + 1)))))
  else
    (some (.inr (v9, v10)))
noncomputable def ref08_Unit (v1 : (List (Int × Int))) (v2 : Int) : Option (Int × Int × Int) :=
  (base_Mod v2 4096).bind fun v6 =>
  (getI v1 (v6.tmod 1024)).bind fun (v7, v8) =>
  (run (ref08_Unit_l1 v6) (v7, v8, 0)).bind fun (v14, v15) =>
  if (decide ((v6.tmod 1024) = 0)) = true then
    ((ref08_round v14 64).bind fun v16 =>
    (ref08_round v15 64).bind fun v17 =>
    some (v16, v17, 0))
  else
    ((ref08_round v14 64).bind fun v18 =>
    (ref08_round v15 64).bind fun v19 =>
    some (v18, v19, 2))

end Go.Rex

namespace Go.Rex
open Go Go.Rex
noncomputable def base_Size (v1 : Int) : Option (Int) :=
  some ((if (IntKind.i64.wrap (0 - v1)) > v1 then (IntKind.i64.wrap (0 - v1)) else v1))

end Go.Rex

namespace Go.Rex
open Go Go.Rex
noncomputable def base_Ceil (v1 : Int) (v2 : Int) : Option (Int) :=
  (base_Floor (IntKind.i64.wrap (0 - v1)) v2).bind fun v4 =>
  some ((IntKind.i64.wrap (0 - v4)))

end Go.Rex

namespace Go.Rex
open Go Go.Rex
noncomputable def ref08_Value_l1 (v1 : (List (Int × Int))) (v2 : (List Int)) (v4 : Int) : (Int × Int × Int × Int) → Option ((Int × Int × Int × Int) ⊕ ((Int × Int × Int))) := fun (v8, v9, v10, v11) =>
  if (decide (v11 < (v2.length : Int))) = true then
    ((ref08_Unit v1 (IntKind.i64.wrap ((IntKind.i64.wrap (0 - v4)) * v11))).bind fun (v20, v21, v22) =>
    (getI v2 v11).bind fun v23 =>
    (base_Size v23).bind fun v24 =>
    some (.inl ((IntKind.i64.wrap (v8 + (IntKind.i64.wrap (v23 * v20)))), (IntKind.i64.wrap (v9 + (IntKind.i64.wrap (v23 * v21)))), (IntKind.i64.wrap (v10 + (IntKind.i64.wrap (v24 * v22)))), (IntKind.i64.wrap (v11 + 1)))))
  else
    (some (.inr (v8, v9, v10)))
noncomputable def ref08_Value (v1 : (List (Int × Int))) (v2 : (List Int)) (v3 : Int) (v4 : Int) : Option (Int × Int × Int) :=
  (run (ref08_Value_l1 v1 v2 v4) (0, 0, 0, 0)).bind fun (v25, v26, v27) =>
  (ref08_round (IntKind.i64.wrap (v25 * v3)) 16384000).bind fun v28 =>
  (ref08_round (IntKind.i64.wrap (v26 * v3)) 16384000).bind fun v29 =>
  (base_Ceil (IntKind.i64.wrap (v27 * v3)) 16384000).bind fun v30 =>
  (base_Mod (IntKind.i64.wrap (v25 * v3)) 16384000).bind fun v31 =>
  if (decide (v31 ≠ 0)) = true then
    (some (v28, v29, (IntKind.i64.wrap (v30 + 1))))
  else
    ((base_Mod (IntKind.i64.wrap (v26 * v3)) 16384000).bind fun v32 =>
    if (decide (v32 ≠ 0)) = true then
      (some (v28, v29, (IntKind.i64.wrap (v30 + 1))))
    else
      (some (v28, v29, v30)))

end Go.Rex

namespace Go.Rex
open Go Go.Rex
noncomputable def ref08_Arc_l1 (v2 : (List Int)) : (Int × Int) → Option ((Int × Int) ⊕ ((Int))) := fun (v13, v14) =>
  if (decide (v14 < (v2.length : Int))) = true then
    ((getI v2 v14).bind fun v18 =>
    (base_Size v18).bind fun v19 =>
    some (.inl ((IntKind.i64.wrap (v13 + (IntKind.i64.wrap (v14 * v19)))), (IntKind.i64.wrap (v14 + 1)))))
  else
    (some (.inr v13))
noncomputable def ref08_Arc (v1 : (List (Int × Int))) (v2 : (List Int)) (v3 : Int) (v4 : Int) (v5 : Int) : Option (Int × Int × Int) :=
  (base_Floor (IntKind.i64.wrap (v4 + v5)) 2).bind fun v9 =>
  (ref08_Value v1 v2 v3 v9).bind fun (v10, v11, v12) =>
  (run (ref08_Arc_l1 v2) (0, 0)).bind fun v20 =>
  (base_Ceil (IntKind.i64.wrap ((IntKind.i64.wrap ((IntKind.i64.wrap (v20 * v3)) * 6284)) * (IntKind.i64.wrap (v5 - v9)))) 64000000).bind fun v21 =>
  some (v10, v11, (IntKind.i64.wrap (v12 + v21)))

end Go.Rex

namespace Go.Rex
open Go Go.Rex
noncomputable def ref08_IsClear (v1 : Int) (v2 : Int) (v3 : Int) : Option (Bool) :=
  (base_Within v1 (-1000000000000000) 1000000000000000).bind fun v5 =>
  if v5 = true then
    ((base_Within v2 (-1000000000000000) 1000000000000000).bind fun v6 =>
    if v6 = true then
      ((base_Within v3 0 1000000000000000).bind fun v7 =>
      if v7 = true then
        ((base_Size v2).bind fun v8 =>
        if (decide (v8 > v3)) = true then
          (some (true))
        else
          (some ((decide ((IntKind.i64.wrap (v1 + v3)) < 1048576)))))
      else
        (some (false)))
    else
      (some (false)))
  else
    (some (false))

end Go.Rex

namespace Go.Rex
open Go Go.Rex
noncomputable def ref08_CheckArcs_l1 (v1 : (List Int)) (v2 : Int) (v3 : (List (Int × Int))) (v5 : (List (Int × Int))) : (Int × Int) → Option ((Int × Int) ⊕ ((Int) ⊕ (Int))) := fun (v6, v7) =>
  if (decide (v7 < (v3.length : Int))) = true then
    ((getI v3 v7).bind fun (v17, v18) =>
    (ref08_ArcErr v17 v18).bind fun v19 =>
    if (decide (v19 ≠ 0)) = true then
      (some (.inr (.inl v19)))
    else
      (if (decide (v17 ≠ v6)) = true then
        (some (.inr (.inl 14)))
      else
        ((ref08_Arc v5 v1 v2 v17 v18).bind fun (v20, v21, v22) =>
        (ref08_IsClear v20 v21 v22).bind fun v23 =>
        if v23 = true then
          (some (.inl (v18, (IntKind.i64.wrap (v7 + 1)))))
        else
          (some (.inr (.inl 20))))))
  else
    (some (.inr (.inr v6)))
noncomputable def ref08_CheckArcs (v1 : (List Int)) (v2 : Int) (v3 : (List (Int × Int))) : Option (Int) :=
  if (decide ((v3.length : Int) > 512)) = true then
    (some (8))
  else
    ((ref08_Table).bind fun v5 =>
    (run (ref08_CheckArcs_l1 v1 v2 v3 v5) (0, 0)).bind fun v24 => match v24 with
    | (.inl v25) =>
      some (v25)
    | (.inr v26) =>
      if (decide (v26 ≠ 2048)) = true then
        (some (14))
      else
        (if (decide ((v3.length : Int) = 0)) = true then
          (some (14))
        else
          (some (0))))

end Go.Rex

namespace Go.Rex
open Go Go.Rex
noncomputable def ref08_Rings (v1 : (List (Int × Int))) (v2 : (List Int)) (v3 : Int) (v4 : Int) (v5 : Int) : Option (Bool) :=
  (ref08_Arc v1 v2 v3 v4 v5).bind fun (v7, v8, v9) =>
  if (decide ((IntKind.i64.wrap (v7 - v9)) < 1048576)) = true then
    (some (false))
  else
    (if (decide (v4 = v5)) = true then
      (if (decide (v4 = 0)) = true then
        (some (true))
      else
        (if (decide (v4 = 2048)) = true then
          (some (true))
        else
          ((ref08_Value v1 v2 v3 v4).bind fun (v10, v11, v12) =>
          (ref08_Value v1 v2 v3 v5).bind fun (v13, v14, v15) =>
          if (decide (v11 > v12)) = true then
            (if (decide (v14 < (IntKind.i64.wrap (0 - v15)))) = true then
              (some (true))
            else
              (if (decide (v11 < (IntKind.i64.wrap (0 - v12)))) = true then
                (some ((decide (v14 > v15))))
              else
                (some (false))))
          else
            (if (decide (v11 < (IntKind.i64.wrap (0 - v12)))) = true then
              (some ((decide (v14 > v15))))
            else
              (some (false))))))
    else
      ((ref08_Value v1 v2 v3 v4).bind fun (v16, v17, v18) =>
      (ref08_Value v1 v2 v3 v5).bind fun (v19, v20, v21) =>
      if (decide (v17 > v18)) = true then
        (if (decide (v20 < (IntKind.i64.wrap (0 - v21)))) = true then
          (some (true))
        else
          (if (decide (v17 < (IntKind.i64.wrap (0 - v18)))) = true then
            (some ((decide (v20 > v21))))
          else
            (some (false))))
      else
        (if (decide (v17 < (IntKind.i64.wrap (0 - v18)))) = true then
          (some ((decide (v20 > v21))))
        else
          (some (false)))))

end Go.Rex

namespace Go.Rex
open Go Go.Rex
noncomputable def law08_LoopProofs (v1 : (List Int)) (v2 : Int) (v3 : (List (Int × Int))) (v4 : Int) (v5 : Int) : Option Bool :=
  (law08_few v1 v2).bind fun v7 =>
  if v7 = true then
    (if (decide ((v3.length : Int) > 20)) = true then
      (if (decide ((v3.length : Int) ≤ 512)) = true then
        (some (true))
      else
        (if (decide ((v3.length : Int) > 514)) = true then
          (some (true))
        else
          ((ref08_Copy v1 v2).bind fun (v8, v9) =>
          (ref08_CopyArcs v3).bind fun v10 =>
          (loop_CheckArcs v8 v9 v10).bind fun (v11, v12) =>
          (ref08_Copy v1 v2).bind fun (v13, v14) =>
          (loop_CheckRings v13 v14 v4 v5).bind fun v15 =>
          (ref08_CheckLoop v1 v2).bind fun v16 =>
          if (decide (v16 ≠ 0)) = true then
            (if (decide (v12 = v16)) = true then
              (if (decide (v15 = v16)) = true then
                (some ((decide (v11 = 0))))
              else
                (some (false)))
            else
              (some (false)))
          else
            ((ref08_CheckArcs v1 v2 v3).bind fun v17 =>
            if (decide (v17 = 0)) = true then
              ((ref08_ArcErr v4 v5).bind fun v18 =>
              if (decide (v18 = 0)) = true then
                ((ref08_Table).bind fun v19 =>
                (ref08_Rings v19 v1 v2 v4 v5).bind fun v20 =>
                if v20 = true then
                  (if (decide (v12 = v17)) = true then
                    (if (decide (v11 = (v3.length : Int))) = true then
                      (if (decide (v15 = v18)) = true then
                        (if (decide (v17 ≠ 0)) = true then
                          (some (true))
                        else
                          (some ((decide (v18 ≠ 0)))))
                      else
                        (some (false)))
                    else
                      (some (false)))
                  else
                    (some (false)))
                else
                  (if (decide (v12 = v17)) = true then
                    (if (decide (v11 = (v3.length : Int))) = true then
                      (if (decide (v15 = 20)) = true then
                        (if (decide (v17 ≠ 0)) = true then
                          (some (true))
                        else
                          (some (true)))
                      else
                        (some (false)))
                    else
                      (some (false)))
                  else
                    (some (false))))
              else
                (if (decide (v12 = v17)) = true then
                  (if (decide (v11 = (v3.length : Int))) = true then
                    (if (decide (v15 = v18)) = true then
                      (if (decide (v17 ≠ 0)) = true then
                        (some (true))
                      else
                        (some ((decide (v18 ≠ 0)))))
                    else
                      (some (false)))
                  else
                    (some (false)))
                else
                  (some (false))))
            else
              ((ref08_ArcErr v4 v5).bind fun v21 =>
              if (decide (v21 = 0)) = true then
                ((ref08_Table).bind fun v22 =>
                (ref08_Rings v22 v1 v2 v4 v5).bind fun v23 =>
                if v23 = true then
                  (if (decide (v12 = v17)) = true then
                    (if (decide (v11 = 0)) = true then
                      (if (decide (v15 = v21)) = true then
                        (if (decide (v17 ≠ 0)) = true then
                          (some (true))
                        else
                          (some ((decide (v21 ≠ 0)))))
                      else
                        (some (false)))
                    else
                      (some (false)))
                  else
                    (some (false)))
                else
                  (if (decide (v12 = v17)) = true then
                    (if (decide (v11 = 0)) = true then
                      (if (decide (v15 = 20)) = true then
                        (if (decide (v17 ≠ 0)) = true then
                          (some (true))
                        else
                          (some (true)))
                      else
                        (some (false)))
                    else
                      (some (false)))
                  else
                    (some (false))))
              else
                (if (decide (v12 = v17)) = true then
                  (if (decide (v11 = 0)) = true then
                    (if (decide (v15 = v21)) = true then
                      (if (decide (v17 ≠ 0)) = true then
                        (some (true))
                      else
                        (some ((decide (v21 ≠ 0)))))
                    else
                      (some (false)))
                  else
                    (some (false)))
                else
                  (some (false))))))))
    else
      (if (decide ((v3.length : Int) > 514)) = true then
        (some (true))
      else
        ((ref08_Copy v1 v2).bind fun (v24, v25) =>
        (ref08_CopyArcs v3).bind fun v26 =>
        (loop_CheckArcs v24 v25 v26).bind fun (v27, v28) =>
        (ref08_Copy v1 v2).bind fun (v29, v30) =>
        (loop_CheckRings v29 v30 v4 v5).bind fun v31 =>
        (ref08_CheckLoop v1 v2).bind fun v32 =>
        if (decide (v32 ≠ 0)) = true then
          (if (decide (v28 = v32)) = true then
            (if (decide (v31 = v32)) = true then
              (some ((decide (v27 = 0))))
            else
              (some (false)))
          else
            (some (false)))
        else
          ((ref08_CheckArcs v1 v2 v3).bind fun v33 =>
          if (decide (v33 = 0)) = true then
            ((ref08_ArcErr v4 v5).bind fun v34 =>
            if (decide (v34 = 0)) = true then
              ((ref08_Table).bind fun v35 =>
              (ref08_Rings v35 v1 v2 v4 v5).bind fun v36 =>
              if v36 = true then
                (if (decide (v28 = v33)) = true then
                  (if (decide (v27 = (v3.length : Int))) = true then
                    (if (decide (v31 = v34)) = true then
                      (if (decide (v33 ≠ 0)) = true then
                        (some (true))
                      else
                        (some ((decide (v34 ≠ 0)))))
                    else
                      (some (false)))
                  else
                    (some (false)))
                else
                  (some (false)))
              else
                (if (decide (v28 = v33)) = true then
                  (if (decide (v27 = (v3.length : Int))) = true then
                    (if (decide (v31 = 20)) = true then
                      (if (decide (v33 ≠ 0)) = true then
                        (some (true))
                      else
                        (some (true)))
                    else
                      (some (false)))
                  else
                    (some (false)))
                else
                  (some (false))))
            else
              (if (decide (v28 = v33)) = true then
                (if (decide (v27 = (v3.length : Int))) = true then
                  (if (decide (v31 = v34)) = true then
                    (if (decide (v33 ≠ 0)) = true then
                      (some (true))
                    else
                      (some ((decide (v34 ≠ 0)))))
                  else
                    (some (false)))
                else
                  (some (false)))
              else
                (some (false))))
          else
            ((ref08_ArcErr v4 v5).bind fun v37 =>
            if (decide (v37 = 0)) = true then
              ((ref08_Table).bind fun v38 =>
              (ref08_Rings v38 v1 v2 v4 v5).bind fun v39 =>
              if v39 = true then
                (if (decide (v28 = v33)) = true then
                  (if (decide (v27 = 0)) = true then
                    (if (decide (v31 = v37)) = true then
                      (if (decide (v33 ≠ 0)) = true then
                        (some (true))
                      else
                        (some ((decide (v37 ≠ 0)))))
                    else
                      (some (false)))
                  else
                    (some (false)))
                else
                  (some (false)))
              else
                (if (decide (v28 = v33)) = true then
                  (if (decide (v27 = 0)) = true then
                    (if (decide (v31 = 20)) = true then
                      (if (decide (v33 ≠ 0)) = true then
                        (some (true))
                      else
                        (some (true)))
                    else
                      (some (false)))
                  else
                    (some (false)))
                else
                  (some (false))))
            else
              (if (decide (v28 = v33)) = true then
                (if (decide (v27 = 0)) = true then
                  (if (decide (v31 = v37)) = true then
                    (if (decide (v33 ≠ 0)) = true then
                      (some (true))
                    else
                      (some ((decide (v37 ≠ 0)))))
                  else
                    (some (false)))
                else
                  (some (false)))
              else
                (some (false))))))))
  else
    (some (true))

end Go.Rex
