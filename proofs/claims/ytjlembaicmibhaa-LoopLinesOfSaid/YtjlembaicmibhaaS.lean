/- The functions of the program and of the reference, as functions of lists and numbers. -/
import Derived.Test.YtjlembaicmibhaaRexG9
set_option linter.unusedSimpArgs false
set_option linter.unusedVariables false
set_option linter.defProp false
namespace Go.Rex
open Go Go.Rex
def txt_c95356 : ByteArray := ⟨#[0, 1, 2, 2, 3, 3, 3, 3, 4, 4, 4, 4, 4, 4, 4, 4, 5, 5, 5, 5, 5, 5, 5, 5, 5, 5, 5, 5, 5, 5, 5, 5, 6, 6, 6, 6, 6, 6, 6, 6, 6, 6, 6, 6, 6, 6, 6, 6, 6, 6, 6, 6, 6, 6, 6, 6, 6, 6, 6, 6, 6, 6, 6, 6, 7, 7, 7, 7, 7, 7, 7, 7, 7, 7, 7, 7, 7, 7, 7, 7, 7, 7, 7, 7, 7, 7, 7, 7, 7, 7, 7, 7, 7, 7, 7, 7, 7, 7, 7, 7, 7, 7, 7, 7, 7, 7, 7, 7, 7, 7, 7, 7, 7, 7, 7, 7, 7, 7, 7, 7, 7, 7, 7, 7, 7, 7, 7, 7, 8, 8, 8, 8, 8, 8, 8, 8, 8, 8, 8, 8, 8, 8, 8, 8, 8, 8, 8, 8, 8, 8, 8, 8, 8, 8, 8, 8, 8, 8, 8, 8, 8, 8, 8, 8, 8, 8, 8, 8, 8, 8, 8, 8, 8, 8, 8, 8, 8, 8, 8, 8, 8, 8, 8, 8, 8, 8, 8, 8, 8, 8, 8, 8, 8, 8, 8, 8, 8, 8, 8, 8, 8, 8, 8, 8, 8, 8, 8, 8, 8, 8, 8, 8, 8, 8, 8, 8, 8, 8, 8, 8, 8, 8, 8, 8, 8, 8, 8, 8, 8, 8, 8, 8, 8, 8, 8, 8, 8, 8, 8, 8, 8, 8, 8, 8, 8, 8, 8, 8, 8, 8, 8, 8, 8, 8, 8, 8]⟩
def e_ii (x : (Int × Int)) : List TV := [.v (.int .i64 x.1), .v (.int .i64 x.2)]
def e_i (x : Int) : List TV := [.v (.int .i64 x)]
def e_Li_i (x : ((List Int) × Int)) : List TV := [.list 1 (x.1.map e_i), .v (.int .i64 x.2)]
def e_LLi_i_ (x : (List ((List Int) × Int))) : List TV := [.list 2 (x.map e_Li_i)]
def e_Li_ (x : (List Int)) : List TV := [.list 1 (x.map e_i)]

end Go.Rex

namespace Go.Rex
open Go Go.Rex
noncomputable def law08_few (v1 : (List Int)) (v2 : Int) : Option (Bool) :=
  some ((decide ((v1.length : Int) ≤ 34)))

end Go.Rex

namespace Go.Rex
open Go Go.Rex
noncomputable def base_CopyInts (v1 : (List Int)) : Option ((List Int)) :=
  (appI 8 ([] : List Int) v1).bind fun v3 =>
  some (v3)

end Go.Rex

namespace Go.Rex
open Go Go.Rex
noncomputable def ref08_Copy (v1 : (List Int)) (v2 : Int) : Option ((List Int) × Int) :=
  (base_CopyInts v1).bind fun v5 =>
  some (v5, v2)

end Go.Rex

namespace Go.Rex
open Go Go.Rex
noncomputable def ref08_CopyAll_l1 (v1 : (List ((List Int) × Int))) : ((List ((List Int) × Int)) × Int) → Option (((List ((List Int) × Int)) × Int) ⊕ (((List ((List Int) × Int))))) := fun (v3, v4) =>
  if (decide (v4 < (v1.length : Int))) = true then
    ((getI v1 v4).bind fun (v11, v12) =>
    (ref08_Copy v11 v12).bind fun (v13, v14) =>
    (appI 32 v3 ([(v13, v14)] : List ((List Int) × Int))).bind fun v15 =>
    some (.inl (v15, (IntKind.i64.wrap (v4 + 1)))))
  else
    (some (.inr v3))
noncomputable def ref08_CopyAll (v1 : (List ((List Int) × Int))) : Option ((List ((List Int) × Int))) :=
  (run (ref08_CopyAll_l1 v1) (([] : List ((List Int) × Int)), 0)).bind fun v16 =>
  some (v16)

end Go.Rex

namespace Go.Rex
open Go Go.Rex
noncomputable def loop_counted (v1 : Int) (v2 : Int) : Option (Int × Int) :=
  some (v1, v2)

end Go.Rex

namespace Go.Rex
open Go Go.Rex
noncomputable def loop_refuse (v1 : Bool) (v2 : Int) : Option (Bool × Int) :=
  some (v1, v2)

end Go.Rex

namespace Go.Rex
open Go Go.Rex
noncomputable def loop_refuse_c1_11f9 (v1 : Bool) (v2 : Int) : Option (Int) :=
  if v1 = true then
    (some (v2))
  else
    (some (0))

end Go.Rex

namespace Go.Rex
open Go Go.Rex
noncomputable def loop_firstError_60c4 (v1 : Bool) (v2 : Int) (v3 : Bool) (v4 : Int) : Option (Int) :=
  (loop_refuse_c1_11f9 v1 v2).bind fun v6 =>
  if (decide (v6 ≠ 0)) = true then
    (some (v6))
  else
    ((loop_refuse_c1_11f9 v3 v4).bind fun v7 =>
    if (decide (v7 ≠ 0)) = true then
      (some (v7))
    else
      (some (0)))

end Go.Rex

namespace Go.Rex
open Go Go.Rex
noncomputable def loop_counted_c1_b585 (v1 : Int) (v2 : Int) : Option (Int) :=
  (loop_refuse (decide (v1 = 0)) 10).bind fun (v4, v5) =>
  (loop_refuse (decide (v1 > v2)) 8).bind fun (v6, v7) =>
  (loop_firstError_60c4 v4 v5 v6 v7).bind fun v8 =>
  some (v8)

end Go.Rex

namespace Go.Rex
open Go Go.Rex
noncomputable def loop_each_2037 (v1 : Int) (v2 : (List Int)) (v3 : Int) (v4 : Int) : Option (Int × (List Int) × Int × Int) :=
  some (v1, v2, v3, v4)

end Go.Rex

namespace Go.Rex
open Go Go.Rex
noncomputable def loop_allWithin (v1 : (List Int)) (v2 : Int) (v3 : Int) : Option (Int × (List Int) × Int × Int) :=
  (loop_each_2037 (v1.length : Int) v1 v2 v3).bind fun (v8, v9, v10, v11) =>
  some (v8, v9, v10, v11)

end Go.Rex

namespace Go.Rex
open Go Go.Rex
noncomputable def loop_within (v1 : Int) (v2 : Int) (v3 : Int) : Option (Bool × Int) :=
  if (decide (v1 < v2)) = true then
    ((loop_refuse true 2).bind fun (v6, v7) =>
    some (v6, v7))
  else
    ((loop_refuse (decide (v1 > v3)) 2).bind fun (v8, v9) =>
    some (v8, v9))

end Go.Rex

namespace Go.Rex
open Go Go.Rex
noncomputable def loop_feedback_check_c1_431b (v1 : (List Int)) (v2 : Int) : Option (Int) :=
  (getI v1 0).bind fun v4 =>
  (loop_refuse (decide (v4 ≠ 0)) 11).bind fun (v5, v6) =>
  (loop_refuse_c1_11f9 v5 v6).bind fun v7 =>
  some (v7)

end Go.Rex

namespace Go.Rex
open Go Go.Rex
noncomputable def loop_allWithin_c1_ea58 (v1 : Int) (v2 : (List Int)) (v3 : Int) (v4 : Int) : Option (Int) :=
  (getI v2 v1).bind fun v6 =>
  (loop_within v6 v3 v4).bind fun (v7, v8) =>
  (loop_refuse_c1_11f9 v7 v8).bind fun v9 =>
  some (v9)

end Go.Rex

namespace Go.Rex
open Go Go.Rex
noncomputable def loop_each_c1_2344_l1 (v1 : Int) (v2 : (List Int)) (v3 : Int) (v4 : Int) : (Int) → Option ((Int) ⊕ ((Int) ⊕ (Unit))) := fun v6 =>
  if (decide (v6 < v1)) = true then
    ((loop_allWithin_c1_ea58 v6 v2 v3 v4).bind fun v9 =>
    if (decide (v9 ≠ 0)) = true then
      (some (.inr (.inl v9)))
    else
      (some (.inl (IntKind.i64.wrap (v6 + 1)))))
  else
    (some (.inr (.inr ())))
noncomputable def loop_each_c1_2344 (v1 : Int) (v2 : (List Int)) (v3 : Int) (v4 : Int) : Option (Int) :=
  (run (loop_each_c1_2344_l1 v1 v2 v3 v4) 0).bind fun v10 => match v10 with
  | (.inl v11) =>
    some (v11)
  | (.inr _) =>
    some (0)

end Go.Rex

namespace Go.Rex
open Go Go.Rex
noncomputable def loop_firstError_2d9c (v1 : Int) (v2 : Int) (v3 : (List Int)) (v4 : Int) (v5 : Int) (v6 : (List Int)) (v7 : Int) (v8 : Int) (v9 : Bool) (v10 : Int) : Option (Int) :=
  (loop_counted_c1_b585 v1 v2).bind fun v12 =>
  if (decide (v12 ≠ 0)) = true then
    (some (v12))
  else
    ((loop_feedback_check_c1_431b v3 v4).bind fun v13 =>
    if (decide (v13 ≠ 0)) = true then
      (some (v13))
    else
      ((loop_each_c1_2344 v5 v6 v7 v8).bind fun v14 =>
      if (decide (v14 ≠ 0)) = true then
        (some (v14))
      else
        ((loop_refuse_c1_11f9 v9 v10).bind fun v15 =>
        if (decide (v15 ≠ 0)) = true then
          (some (v15))
        else
          (some (0)))))

end Go.Rex

namespace Go.Rex
open Go Go.Rex
noncomputable def loop_feedback_check (v1 : (List Int)) (v2 : Int) : Option (Int) :=
  (loop_counted (v1.length : Int) 32).bind fun (v4, v5) =>
  (loop_allWithin v1 (-16384) 16384).bind fun (v6, v7, v8, v9) =>
  (loop_within v2 0 10000).bind fun (v10, v11) =>
  (loop_firstError_2d9c v4 v5 v1 v2 v6 v7 v8 v9 v10 v11).bind fun v12 =>
  some (v12)

end Go.Rex

namespace Go.Rex
open Go Go.Rex
noncomputable def loop_size (v1 : Int) : Option (Int) :=
  some ((if (IntKind.i64.wrap (0 - v1)) > v1 then (IntKind.i64.wrap (0 - v1)) else v1))

end Go.Rex

namespace Go.Rex
open Go Go.Rex
noncomputable def loop_modulo (v1 : Int) (v2 : Int) : Option (Int) :=
  if v2 = 0 then none else
  (some (((IntKind.i64.wrap ((v1.tmod v2) + v2)).tmod v2)))

end Go.Rex

namespace Go.Rex
open Go Go.Rex
noncomputable def loop_floor (v1 : Int) (v2 : Int) : Option (Int) :=
  (loop_modulo v1 v2).bind fun v4 =>
  if v2 = 0 then none else
  (some ((IntKind.i64.wrap ((IntKind.i64.wrap (v1 - v4)).tdiv v2))))

end Go.Rex

namespace Go.Rex
open Go Go.Rex
noncomputable def loop_ceiling (v1 : Int) (v2 : Int) : Option (Int) :=
  (loop_floor (IntKind.i64.wrap (0 - v1)) v2).bind fun v4 =>
  some ((IntKind.i64.wrap (0 - v4)))

end Go.Rex

namespace Go.Rex
open Go Go.Rex
noncomputable def loop_feedback_size_l1 (v1 : (List Int)) : (Int × Int) → Option ((Int × Int) ⊕ ((Int))) := fun (v4, v5) =>
  if (decide (v5 < (v1.length : Int))) = true then
    ((getI v1 v5).bind fun v9 =>
    (loop_size v9).bind fun v10 =>
    some (.inl ((IntKind.i64.wrap (v4 + v10)), (IntKind.i64.wrap (v5 + 1)))))
  else
    (some (.inr v4))
noncomputable def loop_feedback_size (v1 : (List Int)) (v2 : Int) : Option (Int) :=
  (run (loop_feedback_size_l1 v1) (0, 0)).bind fun v11 =>
  (loop_ceiling (IntKind.i64.wrap (v11 * v2)) 16384).bind fun v12 =>
  some (v12)

end Go.Rex

namespace Go.Rex
open Go Go.Rex
noncomputable def loop_SizeOf (v1 : (List Int)) (v2 : Int) : Option (Int × Int) :=
  (loop_feedback_check v1 v2).bind fun v5 =>
  if (decide (v5 ≠ 0)) = true then
    (some (0, v5))
  else
    ((loop_feedback_size v1 v2).bind fun v6 =>
    some (v6, 0))

end Go.Rex

namespace Go.Rex
open Go Go.Rex
noncomputable def loop_sizesOf_l1 (v1 : (List ((List Int) × Int))) : ((List Int) × Int) → Option (((List Int) × Int) ⊕ ((Int) ⊕ ((List Int)))) := fun (v5, v6) =>
  if (decide (v6 < (v1.length : Int))) = true then
    ((getI v1 v6).bind fun (v14, v15) =>
    (loop_SizeOf v14 v15).bind fun (v16, v17) =>
    if (decide (v17 ≠ 0)) = true then
      (some (.inr (.inl v17)))
    else
      (if (decide (v16 > 2000)) = true then
        (some (.inr (.inl 2)))
      else
        ((appI 8 v5 ([v16] : List Int)).bind fun v18 =>
        some (.inl (v18, (IntKind.i64.wrap (v6 + 1)))))))
  else
    (some (.inr (.inr v5)))
noncomputable def loop_sizesOf (v1 : (List ((List Int) × Int))) (v2 : Int) : Option ((List Int) × Int) :=
  if (decide ((v1.length : Int) ≠ v2)) = true then
    (some (([] : List Int), 10))
  else
    ((run (loop_sizesOf_l1 v1) (([] : List Int), 0)).bind fun v19 => match v19 with
    | (.inl v20) =>
      some (([] : List Int), v20)
    | (.inr v21) =>
      some (v21, 0))

end Go.Rex

namespace Go.Rex
open Go Go.Rex
noncomputable def loop_LinesOf_l1 (v1 : (List (List ((List Int) × Int)))) : ((List (List Int)) × Int) → Option (((List (List Int)) × Int) ⊕ ((Int) ⊕ ((List (List Int))))) := fun (v7, v8) =>
  if (decide (v8 < (v1.length : Int))) = true then
    ((getI v1 v8).bind fun v15 =>
    (loop_sizesOf v15 (v1.length : Int)).bind fun (v16, v17) =>
    if (decide (v17 ≠ 0)) = true then
      (some (.inr (.inl v17)))
    else
      ((appI 24 v7 ([v16] : List (List Int))).bind fun v18 =>
      some (.inl (v18, (IntKind.i64.wrap (v8 + 1))))))
  else
    (some (.inr (.inr v7)))
noncomputable def loop_LinesOf (v1 : (List (List ((List Int) × Int)))) : Option ((List (List Int)) × Int) :=
  (loop_counted (v1.length : Int) 4).bind fun (v4, v5) =>
  (loop_counted_c1_b585 v4 v5).bind fun v6 =>
  if (decide (v6 ≠ 0)) = true then
    (some (([] : List (List Int)), v6))
  else
    ((run (loop_LinesOf_l1 v1) (([] : List (List Int)), 0)).bind fun v19 => match v19 with
    | (.inl v20) =>
      some (([] : List (List Int)), v20)
    | (.inr v21) =>
      some (v21, 0))

end Go.Rex

namespace Go.Rex
open Go Go.Rex
noncomputable def base_Within (v1 : Int) (v2 : Int) (v3 : Int) : Option (Bool) :=
  if (decide (v2 ≤ v1)) = true then
    (some ((decide (v1 ≤ v3))))
  else
    (some (false))

end Go.Rex

namespace Go.Rex
open Go Go.Rex
noncomputable def ref08_CheckLoop_l1 (v1 : (List Int)) : (Int) → Option ((Int) ⊕ ((Unit) ⊕ (Unit))) := fun v5 =>
  if (decide (v5 < (v1.length : Int))) = true then
    ((getI v1 v5).bind fun v8 =>
    (base_Within v8 (-16384) 16384).bind fun v9 =>
    if v9 = true then
      (some (.inl (IntKind.i64.wrap (v5 + 1))))
    else
      (some (.inr (.inl ()))))
  else
    (some (.inr (.inr ())))
noncomputable def ref08_CheckLoop (v1 : (List Int)) (v2 : Int) : Option (Int) :=
  if (decide ((v1.length : Int) = 0)) = true then
    (some (10))
  else
    (if (decide ((v1.length : Int) > 32)) = true then
      (some (8))
    else
      ((getI v1 0).bind fun v4 =>
      if (decide (v4 ≠ 0)) = true then
        (some (11))
      else
        ((run (ref08_CheckLoop_l1 v1) 0).bind fun v10 => match v10 with
        | (.inl _) =>
          some (2)
        | (.inr _) =>
          (base_Within v2 0 10000).bind fun v11 =>
          if v11 = true then
            (some (0))
          else
            (some (2)))))

end Go.Rex

namespace Go.Rex
open Go Go.Rex
noncomputable def base_Size (v1 : Int) : Option (Int) :=
  some ((if (IntKind.i64.wrap (0 - v1)) > v1 then (IntKind.i64.wrap (0 - v1)) else v1))

end Go.Rex

namespace Go.Rex
open Go Go.Rex
noncomputable def base_Floor (v1 : Int) (v2 : Int) : Option (Int) :=
  if v2 = 0 then none else
  (if (decide ((v1.tmod v2) < 0)) = true then
    (some ((IntKind.i64.wrap ((IntKind.i64.wrap (v1.tdiv v2)) - 1))))
  else
    (some ((IntKind.i64.wrap (v1.tdiv v2)))))

end Go.Rex

namespace Go.Rex
open Go Go.Rex
noncomputable def base_Ceil (v1 : Int) (v2 : Int) : Option (Int) :=
  (base_Floor (IntKind.i64.wrap (0 - v1)) v2).bind fun v4 =>
  some ((IntKind.i64.wrap (0 - v4)))

end Go.Rex

namespace Go.Rex
open Go Go.Rex
noncomputable def ref08_SizeOf_l1 (v1 : (List Int)) : (Int × Int) → Option ((Int × Int) ⊕ ((Int))) := fun (v4, v5) =>
  if (decide (v5 < (v1.length : Int))) = true then
    ((getI v1 v5).bind fun v9 =>
    (base_Size v9).bind fun v10 =>
    some (.inl ((IntKind.i64.wrap (v4 + v10)), (IntKind.i64.wrap (v5 + 1)))))
  else
    (some (.inr v4))
noncomputable def ref08_SizeOf (v1 : (List Int)) (v2 : Int) : Option (Int) :=
  (run (ref08_SizeOf_l1 v1) (0, 0)).bind fun v11 =>
  (base_Ceil (IntKind.i64.wrap (v11 * v2)) 16384).bind fun v12 =>
  some (v12)

end Go.Rex

namespace Go.Rex
open Go Go.Rex
noncomputable def ref08_LinesOf_l2 (v27 : (List ((List Int) × Int))) : ((List Int) × Int) → Option (((List Int) × Int) ⊕ ((Int) ⊕ ((List Int)))) := fun (v28, v29) =>
  if (decide (v29 < (v27.length : Int))) = true then
    ((getI v27 v29).bind fun (v37, v38) =>
    (ref08_CheckLoop v37 v38).bind fun v39 =>
    if (decide (v39 ≠ 0)) = true then
      (some (.inr (.inl v39)))
    else
      ((ref08_SizeOf v37 v38).bind fun v40 =>
      if (decide (v40 > 2000)) = true then
        (some (.inr (.inl 2)))
      else
        ((appI 8 v28 ([v40] : List Int)).bind fun v41 =>
        some (.inl (v41, (IntKind.i64.wrap (v29 + 1)))))))
  else
    (some (.inr (.inr v28)))
noncomputable def ref08_LinesOf_l1 (v1 : (List (List ((List Int) × Int)))) : ((List (List Int)) × Int) → Option (((List (List Int)) × Int) ⊕ ((Int) ⊕ ((List (List Int))))) := fun (v4, v5) =>
  if (decide (v5 < (v1.length : Int))) = true then
    ((getI v1 v5).bind fun v27 =>
    if (decide ((v27.length : Int) ≠ (v1.length : Int))) = true then
      (some (.inr (.inl 10)))
    else
      ((run (ref08_LinesOf_l2 v27) (([] : List Int), 0)).bind fun v42 => match v42 with
      | (.inl v43) =>
        some (.inr (.inl v43))
      | (.inr v44) =>
        (appI 24 v4 ([v44] : List (List Int))).bind fun v45 =>
        some (.inl (v45, (IntKind.i64.wrap (v5 + 1))))))
  else
    (some (.inr (.inr v4)))
noncomputable def ref08_LinesOf (v1 : (List (List ((List Int) × Int)))) : Option ((List (List Int)) × Int) :=
  if (decide ((v1.length : Int) = 0)) = true then
    (some (([] : List (List Int)), 10))
  else
    (if (decide ((v1.length : Int) > 4)) = true then
      (some (([] : List (List Int)), 8))
    else
      ((run (ref08_LinesOf_l1 v1) (([] : List (List Int)), 0)).bind fun v46 => match v46 with
      | (.inl v47) =>
        some (([] : List (List Int)), v47)
      | (.inr v48) =>
        some (v48, 0)))

end Go.Rex

namespace Go.Rex
open Go Go.Rex
noncomputable def base_Ints_l1 (v1 : (List Int)) (v2 : (List Int)) : (Int) → Option ((Int) ⊕ ((Unit) ⊕ (Unit))) := fun v4 =>
  if (decide (v4 < (v1.length : Int))) = true then
    ((getI v1 v4).bind fun v7 =>
    (getI v2 v4).bind fun v8 =>
    if (decide (v7 ≠ v8)) = true then
      (some (.inr (.inl ())))
    else
      (some (.inl (IntKind.i64.wrap (v4 + 1)))))
  else
    (some (.inr (.inr ())))
noncomputable def base_Ints (v1 : (List Int)) (v2 : (List Int)) : Option (Bool) :=
  if (decide ((v1.length : Int) ≠ (v2.length : Int))) = true then
    (some (false))
  else
    ((run (base_Ints_l1 v1 v2) 0).bind fun v9 => match v9 with
    | (.inl _) =>
      some (false)
    | (.inr _) =>
      some (true))

end Go.Rex

namespace Go.Rex
open Go Go.Rex
noncomputable def base_Lists_l1 (v1 : (List (List Int))) (v2 : (List (List Int))) : (Int) → Option ((Int) ⊕ ((Unit) ⊕ (Unit))) := fun v4 =>
  if (decide (v4 < (v1.length : Int))) = true then
    ((getI v1 v4).bind fun v8 =>
    (getI v2 v4).bind fun v9 =>
    (base_Ints v8 v9).bind fun v10 =>
    if v10 = true then
      (some (.inl (IntKind.i64.wrap (v4 + 1))))
    else
      (some (.inr (.inl ()))))
  else
    (some (.inr (.inr ())))
noncomputable def base_Lists (v1 : (List (List Int))) (v2 : (List (List Int))) : Option (Bool) :=
  if (decide ((v1.length : Int) ≠ (v2.length : Int))) = true then
    (some (false))
  else
    ((run (base_Lists_l1 v1 v2) 0).bind fun v11 => match v11 with
    | (.inl _) =>
      some (false)
    | (.inr _) =>
      some (true))

end Go.Rex

namespace Go.Rex
open Go Go.Rex
noncomputable def law08_LoopLinesOf_l2 (v17 : (List ((List Int) × Int))) : (Int) → Option ((Int) ⊕ ((Unit) ⊕ (Unit))) := fun v18 =>
  if (decide (v18 < (v17.length : Int))) = true then
    ((getI v17 v18).bind fun (v22, v23) =>
    (law08_few v22 v23).bind fun v24 =>
    if v24 = true then
      (some (.inl (IntKind.i64.wrap (v18 + 1))))
    else
      (some (.inr (.inl ()))))
  else
    (some (.inr (.inr ())))
noncomputable def law08_LoopLinesOf_l1 (v1 : (List (List ((List Int) × Int)))) : ((List (List ((List Int) × Int))) × Int) → Option (((List (List ((List Int) × Int))) × Int) ⊕ ((Unit) ⊕ ((List (List ((List Int) × Int)))))) := fun (v3, v4) =>
  if (decide (v4 < (v1.length : Int))) = true then
    ((getI v1 v4).bind fun v17 =>
    if (decide ((v17.length : Int) > 6)) = true then
      (some (.inr (.inl ())))
    else
      ((run (law08_LoopLinesOf_l2 v17) 0).bind fun v25 => match v25 with
      | (.inl _) =>
        some (.inr (.inl ()))
      | (.inr _) =>
        (ref08_CopyAll v17).bind fun v26 =>
        (appI 24 v3 ([v26] : List (List ((List Int) × Int)))).bind fun v27 =>
        some (.inl (v27, (IntKind.i64.wrap (v4 + 1))))))
  else
    (some (.inr (.inr v3)))
noncomputable def law08_LoopLinesOf (v1 : (List (List ((List Int) × Int)))) : Option Bool :=
  if (decide ((v1.length : Int) > 6)) = true then
    (some (true))
  else
    ((run (law08_LoopLinesOf_l1 v1) (([] : List (List ((List Int) × Int))), 0)).bind fun v28 => match v28 with
    | (.inl _) =>
      some (true)
    | (.inr v29) =>
      (loop_LinesOf v29).bind fun (v32, v33) =>
      (ref08_LinesOf v1).bind fun (v34, v35) =>
      if (decide (v33 = v35)) = true then
        ((base_Lists v32 v34).bind fun v36 =>
        some (v36))
      else
        (some (false)))

end Go.Rex

namespace Go.Rex
open Go Go.Rex
noncomputable def math_bits_Len64 (v1 : Int) : Option (Int) :=
  if (decide (v1 ≥ 4294967296)) = true then
    ((shI .shr .u64 v1 32).bind fun v3 =>
    if (decide (v3 ≥ 65536)) = true then
      ((shI .shr .u64 v3 16).bind fun v4 =>
      if (decide (v4 ≥ 256)) = true then
        ((shI .shr .u64 v4 8).bind fun v5 =>
        (strI txt_c95356 (IntKind.u8.wrap v5)).bind fun v6 =>
        some ((IntKind.i64.wrap (56 + (IntKind.i64.wrap v6)))))
      else
        ((strI txt_c95356 (IntKind.u8.wrap v4)).bind fun v7 =>
        some ((IntKind.i64.wrap (48 + (IntKind.i64.wrap v7))))))
    else
      (if (decide (v3 ≥ 256)) = true then
        ((shI .shr .u64 v3 8).bind fun v8 =>
        (strI txt_c95356 (IntKind.u8.wrap v8)).bind fun v9 =>
        some ((IntKind.i64.wrap (40 + (IntKind.i64.wrap v9)))))
      else
        ((strI txt_c95356 (IntKind.u8.wrap v3)).bind fun v10 =>
        some ((IntKind.i64.wrap (32 + (IntKind.i64.wrap v10)))))))
  else
    (if (decide (v1 ≥ 65536)) = true then
      ((shI .shr .u64 v1 16).bind fun v11 =>
      if (decide (v11 ≥ 256)) = true then
        ((shI .shr .u64 v11 8).bind fun v12 =>
        (strI txt_c95356 (IntKind.u8.wrap v12)).bind fun v13 =>
        some ((IntKind.i64.wrap (24 + (IntKind.i64.wrap v13)))))
      else
        ((strI txt_c95356 (IntKind.u8.wrap v11)).bind fun v14 =>
        some ((IntKind.i64.wrap (16 + (IntKind.i64.wrap v14))))))
    else
      (if (decide (v1 ≥ 256)) = true then
        ((shI .shr .u64 v1 8).bind fun v15 =>
        (strI txt_c95356 (IntKind.u8.wrap v15)).bind fun v16 =>
        some ((IntKind.i64.wrap (8 + (IntKind.i64.wrap v16)))))
      else
        ((strI txt_c95356 (IntKind.u8.wrap v1)).bind fun v17 =>
        some ((IntKind.i64.wrap (0 + (IntKind.i64.wrap v17)))))))

end Go.Rex

namespace Go.Rex
open Go Go.Rex
noncomputable def math_bits_Len (v1 : Int) : Option (Int) :=
  (math_bits_Len64 v1).bind fun v3 =>
  some (v3)

end Go.Rex

namespace Go.Rex
open Go Go.Rex
noncomputable def loop_root_l1 (v1 : Int) : (Int) → Option ((Int) ⊕ ((Int))) := fun v5 =>
  if v5 = 0 then none else
  (if (decide ((IntKind.i64.wrap ((IntKind.i64.wrap (v5 + (IntKind.i64.wrap (v1.tdiv v5)))).tdiv 2)) ≥ v5)) = true then
    (some (.inr v5))
  else
    (some (.inl (IntKind.i64.wrap ((IntKind.i64.wrap (v5 + (IntKind.i64.wrap (v1.tdiv v5)))).tdiv 2)))))
noncomputable def loop_root (v1 : Int) : Option (Int) :=
  (math_bits_Len (IntKind.u64.wrap v1)).bind fun v3 =>
  (shI .shl .i64 1 (IntKind.i64.wrap ((IntKind.i64.wrap (v3 + 1)).tdiv 2))).bind fun v4 =>
  (run (loop_root_l1 v1) v4).bind fun v7 =>
  some (v7)

end Go.Rex

namespace Go.Rex
open Go Go.Rex
noncomputable def loop_nearest (v1 : Int) (v2 : Int) : Option (Int) :=
  (loop_floor (IntKind.i64.wrap (v1 + (IntKind.i64.wrap (v2.tdiv 2)))) v2).bind fun v4 =>
  some (v4)

end Go.Rex

namespace Go.Rex
open Go Go.Rex
noncomputable def loop_middle (v1 : Int) (v2 : Int) (v3 : Int) (v4 : Int) : Option (Int × Int) :=
  (loop_root (IntKind.i64.wrap ((IntKind.i64.wrap ((IntKind.i64.wrap (v1 + v3)) * (IntKind.i64.wrap (v1 + v3)))) + (IntKind.i64.wrap ((IntKind.i64.wrap (v2 + v4)) * (IntKind.i64.wrap (v2 + v4))))))).bind fun v7 =>
  (loop_nearest (IntKind.i64.wrap ((IntKind.i64.wrap (v1 + v3)) * 67108864)) v7).bind fun v8 =>
  (loop_nearest (IntKind.i64.wrap ((IntKind.i64.wrap (v2 + v4)) * 67108864)) v7).bind fun v9 =>
  some (v8, v9)

end Go.Rex

namespace Go.Rex
open Go Go.Rex
noncomputable def loop_direction_turned (v1 : Int) (v2 : Int) : Option (Int × Int) :=
  some ((IntKind.i64.wrap (0 - v2)), v1)

end Go.Rex

namespace Go.Rex
open Go Go.Rex
noncomputable def loop_newCircle_l2 (v14 : Int) : ((List (Int × Int)) × Int) → Option (((List (Int × Int)) × Int) ⊕ (((List (Int × Int))))) := fun (v36, v37) =>
  if (decide (v37 < 1024)) = true then
    ((getI v36 (IntKind.i64.wrap (v37 - v14))).bind fun (v47, v48) =>
    (getI v36 (IntKind.i64.wrap (v37 + v14))).bind fun (v49, v50) =>
    (loop_middle v47 v48 v49 v50).bind fun (v51, v52) =>
    (getI v36 v37).bind fun (v53, v54) =>
    some (.inl ((v36.set v37.toNat (v51, v52)), (IntKind.i64.wrap (v37 + (IntKind.i64.wrap (2 * v14)))))))
  else
    (some (.inr v36))
noncomputable def loop_newCircle_l1 : ((List (Int × Int)) × Int) → Option (((List (Int × Int)) × Int) ⊕ (((List (Int × Int))))) := fun (v13, v14) =>
  if (decide (v14 > 0)) = true then
    ((run (loop_newCircle_l2 v14) (v13, v14)).bind fun v55 =>
    some (.inl (v55, (IntKind.i64.wrap (v14.tdiv 2)))))
  else
    (some (.inr v13))
noncomputable def loop_newCircle : Option ((List (Int × Int))) :=
  (mkI 16 1025 ((0, 0) : (Int × Int))).bind fun v2 =>
  (getI v2 0).bind fun (v3, v4) =>
  (getI (v2.set (0 : Int).toNat (67108864, 0)) 512).bind fun (v5, v6) =>
  (getI ((v2.set (0 : Int).toNat (67108864, 0)).set (512 : Int).toNat (47453132, 47453132)) 0).bind fun (v7, v8) =>
  (loop_direction_turned v7 v8).bind fun (v9, v10) =>
  (getI ((v2.set (0 : Int).toNat (67108864, 0)).set (512 : Int).toNat (47453132, 47453132)) 1024).bind fun (v11, v12) =>
  (run (loop_newCircle_l1) ((((v2.set (0 : Int).toNat (67108864, 0)).set (512 : Int).toNat (47453132, 47453132)).set (1024 : Int).toNat (v9, v10)), 256)).bind fun v56 =>
  some (v56)

end Go.Rex
