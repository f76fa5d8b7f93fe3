/- The functions of the program and of the reference, as functions of lists and numbers. -/
import Derived.Test.YtjlembaicmibhaaRexG9
set_option linter.unusedSimpArgs false
set_option linter.unusedVariables false
set_option linter.defProp false
namespace Go.Rex
open Go Go.Rex
def txt_c95356 : ByteArray := ⟨#[0, 1, 2, 2, 3, 3, 3, 3, 4, 4, 4, 4, 4, 4, 4, 4, 5, 5, 5, 5, 5, 5, 5, 5, 5, 5, 5, 5, 5, 5, 5, 5, 6, 6, 6, 6, 6, 6, 6, 6, 6, 6, 6, 6, 6, 6, 6, 6, 6, 6, 6, 6, 6, 6, 6, 6, 6, 6, 6, 6, 6, 6, 6, 6, 7, 7, 7, 7, 7, 7, 7, 7, 7, 7, 7, 7, 7, 7, 7, 7, 7, 7, 7, 7, 7, 7, 7, 7, 7, 7, 7, 7, 7, 7, 7, 7, 7, 7, 7, 7, 7, 7, 7, 7, 7, 7, 7, 7, 7, 7, 7, 7, 7, 7, 7, 7, 7, 7, 7, 7, 7, 7, 7, 7, 7, 7, 7, 7, 8, 8, 8, 8, 8, 8, 8, 8, 8, 8, 8, 8, 8, 8, 8, 8, 8, 8, 8, 8, 8, 8, 8, 8, 8, 8, 8, 8, 8, 8, 8, 8, 8, 8, 8, 8, 8, 8, 8, 8, 8, 8, 8, 8, 8, 8, 8, 8, 8, 8, 8, 8, 8, 8, 8, 8, 8, 8, 8, 8, 8, 8, 8, 8, 8, 8, 8, 8, 8, 8, 8, 8, 8, 8, 8, 8, 8, 8, 8, 8, 8, 8, 8, 8, 8, 8, 8, 8, 8, 8, 8, 8, 8, 8, 8, 8, 8, 8, 8, 8, 8, 8, 8, 8, 8, 8, 8, 8, 8, 8, 8, 8, 8, 8, 8, 8, 8, 8, 8, 8, 8, 8, 8, 8, 8, 8, 8, 8]⟩
def e_ii (x : (Int × Int)) : List TV := [.v (.int .i64 x.1), .v (.int .i64 x.2)]
def e_i (x : Int) : List TV := [.v (.int .i64 x)]
def e_Li_i (x : ((List Int) × Int)) : List TV := [.list 1 (x.1.map e_i), .v (.int .i64 x.2)]
def e_LLi_i_ (x : (List ((List Int) × Int))) : List TV := [.list 2 (x.map e_Li_i)]
def e_Li_ (x : (List Int)) : List TV := [.list 1 (x.map e_i)]

end Go.Rex

namespace Go.Rex
open Go Go.Rex
noncomputable def base_Within (v1 : Int) (v2 : Int) (v3 : Int) : Option (Bool) :=
  if (decide (v2 ≤ v1)) = true then
    (some ((decide (v1 ≤ v3))))
  else
    (some (false))

end Go.Rex

namespace Go.Rex
open Go Go.Rex
noncomputable def base_CopyInts (v1 : (List Int)) : Option ((List Int)) :=
  (appI 8 ([] : List Int) v1).bind fun v3 =>
  some (v3)

end Go.Rex

namespace Go.Rex
open Go Go.Rex
noncomputable def ref08_Copy (v1 : (List Int)) (v2 : Int) : Option ((List Int) × Int) :=
  (base_CopyInts v1).bind fun v5 =>
  some (v5, v2)

end Go.Rex

namespace Go.Rex
open Go Go.Rex
noncomputable def loop_direction_turned (v1 : Int) (v2 : Int) : Option (Int × Int) :=
  some ((IntKind.i64.wrap (0 - v2)), v1)

end Go.Rex

namespace Go.Rex
open Go Go.Rex
noncomputable def math_bits_Len64 (v1 : Int) : Option (Int) :=
  if (decide (v1 ≥ 4294967296)) = true then
    ((shI .shr .u64 v1 32).bind fun v3 =>
    if (decide (v3 ≥ 65536)) = true then
      ((shI .shr .u64 v3 16).bind fun v4 =>
      if (decide (v4 ≥ 256)) = true then
        ((shI .shr .u64 v4 8).bind fun v5 =>
        (strI txt_c95356 (IntKind.u8.wrap v5)).bind fun v6 =>
        some ((IntKind.i64.wrap (56 + (IntKind.i64.wrap v6)))))
      else
        ((strI txt_c95356 (IntKind.u8.wrap v4)).bind fun v7 =>
        some ((IntKind.i64.wrap (48 + (IntKind.i64.wrap v7))))))
    else
      (if (decide (v3 ≥ 256)) = true then
        ((shI .shr .u64 v3 8).bind fun v8 =>
        (strI txt_c95356 (IntKind.u8.wrap v8)).bind fun v9 =>
        some ((IntKind.i64.wrap (40 + (IntKind.i64.wrap v9)))))
      else
        ((strI txt_c95356 (IntKind.u8.wrap v3)).bind fun v10 =>
        some ((IntKind.i64.wrap (32 + (IntKind.i64.wrap v10)))))))
  else
    (if (decide (v1 ≥ 65536)) = true then
      ((shI .shr .u64 v1 16).bind fun v11 =>
      if (decide (v11 ≥ 256)) = true then
        ((shI .shr .u64 v11 8).bind fun v12 =>
        (strI txt_c95356 (IntKind.u8.wrap v12)).bind fun v13 =>
        some ((IntKind.i64.wrap (24 + (IntKind.i64.wrap v13)))))
      else
        ((strI txt_c95356 (IntKind.u8.wrap v11)).bind fun v14 =>
        some ((IntKind.i64.wrap (16 + (IntKind.i64.wrap v14))))))
    else
      (if (decide (v1 ≥ 256)) = true then
        ((shI .shr .u64 v1 8).bind fun v15 =>
        (strI txt_c95356 (IntKind.u8.wrap v15)).bind fun v16 =>
        some ((IntKind.i64.wrap (8 + (IntKind.i64.wrap v16)))))
      else
        ((strI txt_c95356 (IntKind.u8.wrap v1)).bind fun v17 =>
        some ((IntKind.i64.wrap (0 + (IntKind.i64.wrap v17)))))))

end Go.Rex

namespace Go.Rex
open Go Go.Rex
noncomputable def math_bits_Len (v1 : Int) : Option (Int) :=
  (math_bits_Len64 v1).bind fun v3 =>
  some (v3)

end Go.Rex

namespace Go.Rex
open Go Go.Rex
noncomputable def loop_root_l1 (v1 : Int) : (Int) → Option ((Int) ⊕ ((Int))) := fun v5 =>
  if v5 = 0 then none else
  (if (decide ((IntKind.i64.wrap ((IntKind.i64.wrap (v5 + (IntKind.i64.wrap (v1.tdiv v5)))).tdiv 2)) ≥ v5)) = true then
    (some (.inr v5))
  else
    (some (.inl (IntKind.i64.wrap ((IntKind.i64.wrap (v5 + (IntKind.i64.wrap (v1.tdiv v5)))).tdiv 2)))))
noncomputable def loop_root (v1 : Int) : Option (Int) :=
  (math_bits_Len (IntKind.u64.wrap v1)).bind fun v3 =>
  (shI .shl .i64 1 (IntKind.i64.wrap ((IntKind.i64.wrap (v3 + 1)).tdiv 2))).bind fun v4 =>
  (run (loop_root_l1 v1) v4).bind fun v7 =>
  some (v7)

end Go.Rex

namespace Go.Rex
open Go Go.Rex
noncomputable def loop_modulo (v1 : Int) (v2 : Int) : Option (Int) :=
  if v2 = 0 then none else
  (some (((IntKind.i64.wrap ((v1.tmod v2) + v2)).tmod v2)))

end Go.Rex

namespace Go.Rex
open Go Go.Rex
noncomputable def loop_floor (v1 : Int) (v2 : Int) : Option (Int) :=
  (loop_modulo v1 v2).bind fun v4 =>
  if v2 = 0 then none else
  (some ((IntKind.i64.wrap ((IntKind.i64.wrap (v1 - v4)).tdiv v2))))

end Go.Rex

namespace Go.Rex
open Go Go.Rex
noncomputable def loop_nearest (v1 : Int) (v2 : Int) : Option (Int) :=
  (loop_floor (IntKind.i64.wrap (v1 + (IntKind.i64.wrap (v2.tdiv 2)))) v2).bind fun v4 =>
  some (v4)

end Go.Rex

namespace Go.Rex
open Go Go.Rex
noncomputable def loop_middle (v1 : Int) (v2 : Int) (v3 : Int) (v4 : Int) : Option (Int × Int) :=
  (loop_root (IntKind.i64.wrap ((IntKind.i64.wrap ((IntKind.i64.wrap (v1 + v3)) * (IntKind.i64.wrap (v1 + v3)))) + (IntKind.i64.wrap ((IntKind.i64.wrap (v2 + v4)) * (IntKind.i64.wrap (v2 + v4))))))).bind fun v7 =>
  (loop_nearest (IntKind.i64.wrap ((IntKind.i64.wrap (v1 + v3)) * 67108864)) v7).bind fun v8 =>
  (loop_nearest (IntKind.i64.wrap ((IntKind.i64.wrap (v2 + v4)) * 67108864)) v7).bind fun v9 =>
  some (v8, v9)

end Go.Rex

namespace Go.Rex
open Go Go.Rex
noncomputable def loop_newCircle_l2 (v14 : Int) : ((List (Int × Int)) × Int) → Option (((List (Int × Int)) × Int) ⊕ (((List (Int × Int))))) := fun (v36, v37) =>
  if (decide (v37 < 1024)) = true then
    ((getI v36 (IntKind.i64.wrap (v37 - v14))).bind fun (v47, v48) =>
    (getI v36 (IntKind.i64.wrap (v37 + v14))).bind fun (v49, v50) =>
    (loop_middle v47 v48 v49 v50).bind fun (v51, v52) =>
    (getI v36 v37).bind fun (v53, v54) =>
    some (.inl ((v36.set v37.toNat (v51, v52)), (IntKind.i64.wrap (v37 + (IntKind.i64.wrap (2 * v14)))))))
  else
    (some (.inr v36))
noncomputable def loop_newCircle_l1 : ((List (Int × Int)) × Int) → Option (((List (Int × Int)) × Int) ⊕ (((List (Int × Int))))) := fun (v13, v14) =>
  if (decide (v14 > 0)) = true then
    ((run (loop_newCircle_l2 v14) (v13, v14)).bind fun v55 =>
    some (.inl (v55, (IntKind.i64.wrap (v14.tdiv 2)))))
  else
    (some (.inr v13))
noncomputable def loop_newCircle : Option ((List (Int × Int))) :=
  (mkI 16 1025 ((0, 0) : (Int × Int))).bind fun v2 =>
  (getI v2 0).bind fun (v3, v4) =>
  (getI (v2.set (0 : Int).toNat (67108864, 0)) 512).bind fun (v5, v6) =>
  (getI ((v2.set (0 : Int).toNat (67108864, 0)).set (512 : Int).toNat (47453132, 47453132)) 0).bind fun (v7, v8) =>
  (loop_direction_turned v7 v8).bind fun (v9, v10) =>
  (getI ((v2.set (0 : Int).toNat (67108864, 0)).set (512 : Int).toNat (47453132, 47453132)) 1024).bind fun (v11, v12) =>
  (run (loop_newCircle_l1) ((((v2.set (0 : Int).toNat (67108864, 0)).set (512 : Int).toNat (47453132, 47453132)).set (1024 : Int).toNat (v9, v10)), 256)).bind fun v56 =>
  some (v56)

end Go.Rex

namespace Go.Rex
open Go Go.Rex
noncomputable def loop_plotOf (v1 : (List Int)) (v2 : Int) : Option ((List Int) × Int × (List (Int × Int))) :=
  (loop_newCircle).bind fun v6 =>
  some (v1, v2, v6)

end Go.Rex

namespace Go.Rex
open Go Go.Rex
noncomputable def loop_refuse (v1 : Bool) (v2 : Int) : Option (Bool × Int) :=
  some (v1, v2)

end Go.Rex

namespace Go.Rex
open Go Go.Rex
noncomputable def loop_within (v1 : Int) (v2 : Int) (v3 : Int) : Option (Bool × Int) :=
  if (decide (v1 < v2)) = true then
    ((loop_refuse true 2).bind fun (v6, v7) =>
    some (v6, v7))
  else
    ((loop_refuse (decide (v1 > v3)) 2).bind fun (v8, v9) =>
    some (v8, v9))

end Go.Rex

namespace Go.Rex
open Go Go.Rex
noncomputable def loop_counted (v1 : Int) (v2 : Int) : Option (Int × Int) :=
  some (v1, v2)

end Go.Rex

namespace Go.Rex
open Go Go.Rex
noncomputable def loop_each_2037 (v1 : Int) (v2 : (List Int)) (v3 : Int) (v4 : Int) : Option (Int × (List Int) × Int × Int) :=
  some (v1, v2, v3, v4)

end Go.Rex

namespace Go.Rex
open Go Go.Rex
noncomputable def loop_allWithin (v1 : (List Int)) (v2 : Int) (v3 : Int) : Option (Int × (List Int) × Int × Int) :=
  (loop_each_2037 (v1.length : Int) v1 v2 v3).bind fun (v8, v9, v10, v11) =>
  some (v8, v9, v10, v11)

end Go.Rex

namespace Go.Rex
open Go Go.Rex
noncomputable def loop_refuse_c1_11f9 (v1 : Bool) (v2 : Int) : Option (Int) :=
  if v1 = true then
    (some (v2))
  else
    (some (0))

end Go.Rex

namespace Go.Rex
open Go Go.Rex
noncomputable def loop_firstError_60c4 (v1 : Bool) (v2 : Int) (v3 : Bool) (v4 : Int) : Option (Int) :=
  (loop_refuse_c1_11f9 v1 v2).bind fun v6 =>
  if (decide (v6 ≠ 0)) = true then
    (some (v6))
  else
    ((loop_refuse_c1_11f9 v3 v4).bind fun v7 =>
    if (decide (v7 ≠ 0)) = true then
      (some (v7))
    else
      (some (0)))

end Go.Rex

namespace Go.Rex
open Go Go.Rex
noncomputable def loop_counted_c1_b585 (v1 : Int) (v2 : Int) : Option (Int) :=
  (loop_refuse (decide (v1 = 0)) 10).bind fun (v4, v5) =>
  (loop_refuse (decide (v1 > v2)) 8).bind fun (v6, v7) =>
  (loop_firstError_60c4 v4 v5 v6 v7).bind fun v8 =>
  some (v8)

end Go.Rex

namespace Go.Rex
open Go Go.Rex
noncomputable def loop_feedback_check_c1_431b (v1 : (List Int)) (v2 : Int) : Option (Int) :=
  (getI v1 0).bind fun v4 =>
  (loop_refuse (decide (v4 ≠ 0)) 11).bind fun (v5, v6) =>
  (loop_refuse_c1_11f9 v5 v6).bind fun v7 =>
  some (v7)

end Go.Rex

namespace Go.Rex
open Go Go.Rex
noncomputable def loop_allWithin_c1_ea58 (v1 : Int) (v2 : (List Int)) (v3 : Int) (v4 : Int) : Option (Int) :=
  (getI v2 v1).bind fun v6 =>
  (loop_within v6 v3 v4).bind fun (v7, v8) =>
  (loop_refuse_c1_11f9 v7 v8).bind fun v9 =>
  some (v9)

end Go.Rex

namespace Go.Rex
open Go Go.Rex
noncomputable def loop_each_c1_2344_l1 (v1 : Int) (v2 : (List Int)) (v3 : Int) (v4 : Int) : (Int) → Option ((Int) ⊕ ((Int) ⊕ (Unit))) := fun v6 =>
  if (decide (v6 < v1)) = true then
    ((loop_allWithin_c1_ea58 v6 v2 v3 v4).bind fun v9 =>
    if (decide (v9 ≠ 0)) = true then
      (some (.inr (.inl v9)))
    else
      (some (.inl (IntKind.i64.wrap (v6 + 1)))))
  else
    (some (.inr (.inr ())))
noncomputable def loop_each_c1_2344 (v1 : Int) (v2 : (List Int)) (v3 : Int) (v4 : Int) : Option (Int) :=
  (run (loop_each_c1_2344_l1 v1 v2 v3 v4) 0).bind fun v10 => match v10 with
  | (.inl v11) =>
    some (v11)
  | (.inr _) =>
    some (0)

end Go.Rex

namespace Go.Rex
open Go Go.Rex
noncomputable def loop_firstError_2d9c (v1 : Int) (v2 : Int) (v3 : (List Int)) (v4 : Int) (v5 : Int) (v6 : (List Int)) (v7 : Int) (v8 : Int) (v9 : Bool) (v10 : Int) : Option (Int) :=
  (loop_counted_c1_b585 v1 v2).bind fun v12 =>
  if (decide (v12 ≠ 0)) = true then
    (some (v12))
  else
    ((loop_feedback_check_c1_431b v3 v4).bind fun v13 =>
    if (decide (v13 ≠ 0)) = true then
      (some (v13))
    else
      ((loop_each_c1_2344 v5 v6 v7 v8).bind fun v14 =>
      if (decide (v14 ≠ 0)) = true then
        (some (v14))
      else
        ((loop_refuse_c1_11f9 v9 v10).bind fun v15 =>
        if (decide (v15 ≠ 0)) = true then
          (some (v15))
        else
          (some (0)))))

end Go.Rex

namespace Go.Rex
open Go Go.Rex
noncomputable def loop_feedback_check (v1 : (List Int)) (v2 : Int) : Option (Int) :=
  (loop_counted (v1.length : Int) 32).bind fun (v4, v5) =>
  (loop_allWithin v1 (-16384) 16384).bind fun (v6, v7, v8, v9) =>
  (loop_within v2 0 10000).bind fun (v10, v11) =>
  (loop_firstError_2d9c v4 v5 v1 v2 v6 v7 v8 v9 v10 v11).bind fun v12 =>
  some (v12)

end Go.Rex

namespace Go.Rex
open Go Go.Rex
noncomputable def loop_firstError_9bc3 (v1 : (List Int)) (v2 : Int) (v3 : Bool) (v4 : Int) : Option (Int) :=
  (loop_feedback_check v1 v2).bind fun v6 =>
  if (decide (v6 ≠ 0)) = true then
    (some (v6))
  else
    ((loop_refuse_c1_11f9 v3 v4).bind fun v7 =>
    if (decide (v7 ≠ 0)) = true then
      (some (v7))
    else
      (some (0)))

end Go.Rex

namespace Go.Rex
open Go Go.Rex
noncomputable def loop_circle_direction_l1 (v5 : Int) : (Int × Int × Int) → Option ((Int × Int × Int) ⊕ ((Int × Int))) := fun (v8, v9, v10) =>
  if (decide (v10 < (IntKind.i64.wrap (v5.tdiv 1024)))) = true then
    ((loop_direction_turned v8 v9).bind fun (v15, v16) =>
    some (.inl (v15, v16, (IntKind.i64.wrap (v10 + 1)))))
  else
    (some (.inr (v8, v9)))
noncomputable def loop_circle_direction (v1 : (List (Int × Int))) (v2 : Int) : Option (Int × Int) :=
  (loop_modulo v2 4096).bind fun v5 =>
  (getI v1 (v5.tmod 1024)).bind fun (v6, v7) =>
  (run (loop_circle_direction_l1 v5) (v6, v7, 0)).bind fun (v17, v18) =>
  some (v17, v18)

end Go.Rex

namespace Go.Rex
open Go Go.Rex
noncomputable def loop_circle_unit (v1 : (List (Int × Int))) (v2 : Int) : Option (Int × Int × Int) :=
  (loop_circle_direction v1 v2).bind fun (v6, v7) =>
  (loop_nearest v6 64).bind fun v8 =>
  (loop_nearest v7 64).bind fun v9 =>
  if (decide ((v2.tmod 1024) = 0)) = true then
    (some (v8, v9, 0))
  else
    (some (v8, v9, 2))

end Go.Rex

namespace Go.Rex
open Go Go.Rex
noncomputable def loop_size (v1 : Int) : Option (Int) :=
  some ((if (IntKind.i64.wrap (0 - v1)) > v1 then (IntKind.i64.wrap (0 - v1)) else v1))

end Go.Rex

namespace Go.Rex
open Go Go.Rex
noncomputable def loop_ceiling (v1 : Int) (v2 : Int) : Option (Int) :=
  (loop_floor (IntKind.i64.wrap (0 - v1)) v2).bind fun v4 =>
  some ((IntKind.i64.wrap (0 - v4)))

end Go.Rex

namespace Go.Rex
open Go Go.Rex
noncomputable def loop_plot_value_l1 (v1 : (List Int)) (v3 : (List (Int × Int))) (v4 : Int) : (Int × Int × Int × Int) → Option ((Int × Int × Int × Int) ⊕ ((Int × Int × Int))) := fun (v8, v9, v10, v11) =>
  if (decide (v11 < (v1.length : Int))) = true then
    ((getI v1 v11).bind fun v20 =>
    (loop_circle_unit v3 (IntKind.i64.wrap ((IntKind.i64.wrap (0 - v4)) * v11))).bind fun (v21, v22, v23) =>
    (loop_size v20).bind fun v24 =>
    some (.inl ((IntKind.i64.wrap (v8 + (IntKind.i64.wrap (v20 * v21)))), (IntKind.i64.wrap (v9 + (IntKind.i64.wrap (v20 * v22)))), (IntKind.i64.wrap (v10 + (IntKind.i64.wrap (v24 * v23)))), (IntKind.i64.wrap (v11 + 1)))))
  else
    (some (.inr (v8, v9, v10)))
noncomputable def loop_plot_value (v1 : (List Int)) (v2 : Int) (v3 : (List (Int × Int))) (v4 : Int) : Option (Int × Int × Int) :=
  (run (loop_plot_value_l1 v1 v3 v4) (0, 0, 0, 0)).bind fun (v25, v26, v27) =>
  (loop_nearest (IntKind.i64.wrap (v2 * v25)) 16384000).bind fun v28 =>
  (loop_nearest (IntKind.i64.wrap (v2 * v26)) 16384000).bind fun v29 =>
  (loop_ceiling (IntKind.i64.wrap (v2 * v27)) 16384000).bind fun v30 =>
  if (decide (((IntKind.i64.wrap (v2 * v25)).tmod 16384000) ≠ 0)) = true then
    (some (v28, v29, (IntKind.i64.wrap (v30 + 1))))
  else
    (if (decide (((IntKind.i64.wrap (v2 * v26)).tmod 16384000) ≠ 0)) = true then
      (some (v28, v29, (IntKind.i64.wrap (v30 + 1))))
    else
      (some (v28, v29, v30)))

end Go.Rex

namespace Go.Rex
open Go Go.Rex
noncomputable def loop_ValueAt (v1 : (List Int)) (v2 : Int) (v3 : Int) : Option (Int × Int × Int × Int) :=
  (loop_plotOf v1 v2).bind fun (v8, v9, v10) =>
  (loop_within v3 (-1000000) 1000000).bind fun (v11, v12) =>
  (loop_firstError_9bc3 v8 v9 v11 v12).bind fun v13 =>
  if (decide (v13 ≠ 0)) = true then
    (some (0, 0, 0, v13))
  else
    ((loop_plot_value v8 v9 v10 v3).bind fun (v14, v15, v16) =>
    some (v14, v15, v16, 0))

end Go.Rex

namespace Go.Rex
open Go Go.Rex
noncomputable def law08_right (v1 : Int) (v2 : Int) (v3 : Int) : Option (Bool) :=
  (base_Within v1 (-1099511627776) 1099511627776).bind fun v5 =>
  if v5 = true then
    ((base_Within v2 (-1099511627776) 1099511627776).bind fun v6 =>
    if v6 = true then
      ((base_Within v3 0 1099511627776).bind fun v7 =>
      some (v7))
    else
      (some (false)))
  else
    (some (false))

end Go.Rex

namespace Go.Rex
open Go Go.Rex
noncomputable def base_Size (v1 : Int) : Option (Int) :=
  some ((if (IntKind.i64.wrap (0 - v1)) > v1 then (IntKind.i64.wrap (0 - v1)) else v1))

end Go.Rex

namespace Go.Rex
open Go Go.Rex
noncomputable def law08_meets (v1 : Int) (v2 : Int) (v3 : Int) (v4 : Int) (v5 : Int) (v6 : Int) : Option (Bool) :=
  (base_Size (IntKind.i64.wrap (v1 - v4))).bind fun v8 =>
  if (decide (v8 ≤ (IntKind.i64.wrap (v3 + v6)))) = true then
    ((base_Size (IntKind.i64.wrap (v2 - v5))).bind fun v9 =>
    some ((decide (v9 ≤ (IntKind.i64.wrap (v3 + v6))))))
  else
    (some (false))

end Go.Rex

namespace Go.Rex
open Go Go.Rex
noncomputable def loop_onHalf (v1 : Int) (v2 : Int) : Option (Int × Int) :=
  some (v1, v2)

end Go.Rex

namespace Go.Rex
open Go Go.Rex
noncomputable def loop_firstError_f4c9 (v1 : Bool) (v2 : Int) (v3 : Bool) (v4 : Int) (v5 : Bool) (v6 : Int) : Option (Int) :=
  (loop_refuse_c1_11f9 v1 v2).bind fun v8 =>
  if (decide (v8 ≠ 0)) = true then
    (some (v8))
  else
    ((loop_refuse_c1_11f9 v3 v4).bind fun v9 =>
    if (decide (v9 ≠ 0)) = true then
      (some (v9))
    else
      ((loop_refuse_c1_11f9 v5 v6).bind fun v10 =>
      if (decide (v10 ≠ 0)) = true then
        (some (v10))
      else
        (some (0))))

end Go.Rex

namespace Go.Rex
open Go Go.Rex
noncomputable def loop_onHalf_c1_eebc (v1 : Int) (v2 : Int) : Option (Int) :=
  (loop_within v1 0 2048).bind fun (v4, v5) =>
  (loop_within v2 0 2048).bind fun (v6, v7) =>
  (loop_refuse (decide (v1 > v2)) 9).bind fun (v8, v9) =>
  (loop_firstError_f4c9 v4 v5 v6 v7 v8 v9).bind fun v10 =>
  some (v10)

end Go.Rex

namespace Go.Rex
open Go Go.Rex
noncomputable def loop_firstError_e730 (v1 : (List Int)) (v2 : Int) (v3 : Int) (v4 : Int) : Option (Int) :=
  (loop_feedback_check v1 v2).bind fun v6 =>
  if (decide (v6 ≠ 0)) = true then
    (some (v6))
  else
    ((loop_onHalf_c1_eebc v3 v4).bind fun v7 =>
    if (decide (v7 ≠ 0)) = true then
      (some (v7))
    else
      (some (0)))

end Go.Rex

namespace Go.Rex
open Go Go.Rex
noncomputable def loop_middleOf (v1 : Int) (v2 : Int) : Option (Int) :=
  some ((IntKind.i64.wrap ((IntKind.i64.wrap (v1 + v2)).tdiv 2)))

end Go.Rex

namespace Go.Rex
open Go Go.Rex
noncomputable def loop_plot_sway_l1 (v1 : (List Int)) : (Int × Int) → Option ((Int × Int) ⊕ ((Int))) := fun (v6, v7) =>
  if (decide (v7 < (v1.length : Int))) = true then
    ((getI v1 v7).bind fun v11 =>
    (loop_size v11).bind fun v12 =>
    some (.inl ((IntKind.i64.wrap (v6 + (IntKind.i64.wrap (v7 * v12)))), (IntKind.i64.wrap (v7 + 1)))))
  else
    (some (.inr v6))
noncomputable def loop_plot_sway (v1 : (List Int)) (v2 : Int) (v3 : (List (Int × Int))) (v4 : Int) : Option (Int) :=
  (run (loop_plot_sway_l1 v1) (0, 0)).bind fun v13 =>
  (loop_ceiling (IntKind.i64.wrap ((IntKind.i64.wrap ((IntKind.i64.wrap (v13 * v2)) * 6284)) * v4)) 64000000).bind fun v14 =>
  some (v14)

end Go.Rex

namespace Go.Rex
open Go Go.Rex
noncomputable def loop_plot_ball (v1 : (List Int)) (v2 : Int) (v3 : (List (Int × Int))) (v4 : Int) (v5 : Int) : Option (Int × Int × Int) :=
  (loop_middleOf v4 v5).bind fun v9 =>
  (loop_plot_value v1 v2 v3 v9).bind fun (v10, v11, v12) =>
  (loop_plot_sway v1 v2 v3 (IntKind.i64.wrap (v5 - v9))).bind fun v13 =>
  some (v10, v11, (IntKind.i64.wrap (v12 + v13)))

end Go.Rex

namespace Go.Rex
open Go Go.Rex
noncomputable def loop_ArcBall (v1 : (List Int)) (v2 : Int) (v3 : Int) (v4 : Int) : Option (Int × Int × Int × Int) :=
  (loop_plotOf v1 v2).bind fun (v9, v10, v11) =>
  (loop_onHalf v3 v4).bind fun (v12, v13) =>
  (loop_firstError_e730 v9 v10 v12 v13).bind fun v14 =>
  if (decide (v14 ≠ 0)) = true then
    (some (0, 0, 0, v14))
  else
    ((loop_plot_ball v9 v10 v11 v3 v4).bind fun (v15, v16, v17) =>
    some (v15, v16, v17, 0))

end Go.Rex

namespace Go.Rex
open Go Go.Rex
noncomputable def law08_LoopMirrors_l1 (v1 : (List Int)) : ((List Int) × Int) → Option (((List Int) × Int) ⊕ (((List Int)))) := fun (v20, v21) =>
  if (decide (v21 < (v1.length : Int))) = true then
    ((getI v1 v21).bind fun v25 =>
    (appI 8 v20 ([(IntKind.i64.wrap (0 - v25))] : List Int)).bind fun v26 =>
    some (.inl (v26, (IntKind.i64.wrap (v21 + 1)))))
  else
    (some (.inr v20))
noncomputable def law08_LoopMirrors (v1 : (List Int)) (v2 : Int) (v3 : Int) (v4 : Int) (v5 : Int) : Option Bool :=
  if (decide ((v1.length : Int) > 32)) = true then
    (some (true))
  else
    ((base_Within v3 0 2048).bind fun v7 =>
    if v7 = true then
      ((ref08_Copy v1 v2).bind fun (v8, v9) =>
      (loop_ValueAt v8 v9 v3).bind fun (v10, v11, v12, v13) =>
      if (decide (v13 ≠ 0)) = true then
        (some (([v10 == 0, v11 == 0, v12 == 0].all id)))
      else
        ((ref08_Copy v1 v2).bind fun (v14, v15) =>
        (loop_ValueAt v14 v15 (IntKind.i64.wrap (0 - v3))).bind fun (v16, v17, v18, v19) =>
        (run (law08_LoopMirrors_l1 v1) (([] : List Int), 0)).bind fun v27 =>
        (loop_ValueAt v27 v2 v3).bind fun (v28, v29, v30, v31) =>
        if (decide (v19 ≠ 0)) = true then
          (some (false))
        else
          (if (decide (v31 ≠ 0)) = true then
            (some (false))
          else
            ((law08_right v10 v11 v12).bind fun v32 =>
            if v32 = true then
              ((law08_right v16 v17 v18).bind fun v33 =>
              if v33 = true then
                ((law08_right v28 v29 v30).bind fun v34 =>
                if v34 = true then
                  ((law08_meets v10 v11 v12 v16 (IntKind.i64.wrap (0 - v17)) v18).bind fun v35 =>
                  if v35 = true then
                    ((law08_meets v10 v11 v12 (IntKind.i64.wrap (0 - v28)) (IntKind.i64.wrap (0 - v29)) v30).bind fun v36 =>
                    if v36 = true then
                      ((ref08_Copy v1 v2).bind fun (v37, v38) =>
                      (loop_ArcBall v37 v38 v4 v5).bind fun (v39, v40, v41, v42) =>
                      if (decide (v42 ≠ 0)) = true then
                        (some (true))
                      else
                        (if (decide (v3 < v4)) = true then
                          (some (true))
                        else
                          (if (decide (v3 > v5)) = true then
                            (some (true))
                          else
                            ((law08_right v39 v40 v41).bind fun v43 =>
                            if v43 = true then
                              ((law08_meets v39 v40 v41 v10 v11 v12).bind fun v44 =>
                              some (v44))
                            else
                              (some (false))))))
                    else
                      (some (false)))
                  else
                    (some (false)))
                else
                  (some (false)))
              else
                (some (false)))
            else
              (some (false))))))
    else
      (some (true)))

end Go.Rex
