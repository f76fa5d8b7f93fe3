/- The functions of the program and of the reference, as functions of lists and numbers. -/
import Derived.Test.YtpjccpokiaefjaaGreatDoorRexG8
set_option linter.unusedSimpArgs false
set_option linter.unusedVariables false
set_option linter.defProp false
namespace Go.Rex
open Go Go.Rex
def e_iiiii (x : (Int × Int × Int × Int × Int)) : List TV := [.v (.int .i64 x.1), .v (.int .i64 x.2.1), .v (.int .i64 x.2.2.1), .v (.int .i64 x.2.2.2.1), .v (.int .i64 x.2.2.2.2)]
def e_i (x : Int) : List TV := [.v (.int .i64 x)]
def e_iiiiiiiii (x : (Int × Int × Int × Int × Int × Int × Int × Int × Int)) : List TV := [.v (.int .i64 x.1), .v (.int .i64 x.2.1), .v (.int .i64 x.2.2.1), .v (.int .i64 x.2.2.2.1), .v (.int .i64 x.2.2.2.2.1), .v (.int .i64 x.2.2.2.2.2.1), .v (.int .i64 x.2.2.2.2.2.2.1), .v (.int .i64 x.2.2.2.2.2.2.2.1), .v (.int .i64 x.2.2.2.2.2.2.2.2)]
def e_z (x : (Nat × Nat)) : List TV := [.v (.complex .f64 x.1 x.2)]
def e_iii (x : (Int × Int × Int)) : List TV := [.v (.int .i64 x.1), .v (.int .i64 x.2.1), .v (.int .i64 x.2.2)]
def e_Li_ (x : (List Int)) : List TV := [.list 1 (x.map e_i)]

end Go.Rex

namespace Go.Rex
open Go Go.Rex
noncomputable def law07_Small_l1 (v1 : (List (List Int))) : (Int) → Option ((Int) ⊕ ((Unit) ⊕ (Unit))) := fun v4 =>
  if (decide (v4 < (v1.length : Int))) = true then
    ((getI v1 v4).bind fun v6 =>
    if (decide ((v6.length : Int) > 5)) = true then
      (some (.inr (.inl ())))
    else
      (some (.inl (IntKind.i64.wrap (v4 + 1)))))
  else
    (some (.inr (.inr ())))
noncomputable def law07_Small (v1 : (List (List Int))) (v2 : Int) : Option (Bool) :=
  if (decide ((v1.length : Int) > 6)) = true then
    (some (false))
  else
    ((run (law07_Small_l1 v1) 0).bind fun v7 => match v7 with
    | (.inl _) =>
      some (false)
    | (.inr _) =>
      some (true))

end Go.Rex

namespace Go.Rex
open Go Go.Rex
noncomputable def law07_short (v1 : Int) (v2 : (List Int)) (v3 : Int) (v4 : (List Int)) (v5 : (List Int)) (v6 : (List Int)) : Option (Bool) :=
  if (decide ((v2.length : Int) ≤ 9)) = true then
    (if (decide ((v4.length : Int) ≤ 9)) = true then
      (if (decide ((v5.length : Int) ≤ 9)) = true then
        (some ((decide ((v6.length : Int) ≤ 9))))
      else
        (some (false)))
    else
      (some (false)))
  else
    (some (false))

end Go.Rex

namespace Go.Rex
open Go Go.Rex
noncomputable def base_CopyInts (v1 : (List Int)) : Option ((List Int)) :=
  (appI 8 ([] : List Int) v1).bind fun v3 =>
  some (v3)

end Go.Rex

namespace Go.Rex
open Go Go.Rex
noncomputable def base_CopyLists_l1 (v1 : (List (List Int))) : ((List (List Int)) × Int) → Option (((List (List Int)) × Int) ⊕ (((List (List Int))))) := fun (v3, v4) =>
  if (decide (v4 < (v1.length : Int))) = true then
    ((getI v1 v4).bind fun v9 =>
    (base_CopyInts v9).bind fun v10 =>
    (appI 24 v3 ([v10] : List (List Int))).bind fun v11 =>
    some (.inl (v11, (IntKind.i64.wrap (v4 + 1)))))
  else
    (some (.inr v3))
noncomputable def base_CopyLists (v1 : (List (List Int))) : Option ((List (List Int))) :=
  (run (base_CopyLists_l1 v1) (([] : List (List Int)), 0)).bind fun v12 =>
  some (v12)

end Go.Rex

namespace Go.Rex
open Go Go.Rex
noncomputable def ref07_CopyTask (v1 : (List (List Int))) (v2 : Int) : Option ((List (List Int)) × Int) :=
  (base_CopyLists v1).bind fun v5 =>
  some (v5, v2)

end Go.Rex

namespace Go.Rex
open Go Go.Rex
noncomputable def ref07_CopyOpen (v1 : Int) (v2 : (List Int)) : Option (Int × (List Int)) :=
  (base_CopyInts v2).bind fun v5 =>
  some (v1, v5)

end Go.Rex

namespace Go.Rex
open Go Go.Rex
noncomputable def array_task_opened (v1 : (List (List Int))) (v2 : Int) (v3 : Int) (v4 : (List Int)) : Option (Int × (List Int) × (List (List Int)) × Int) :=
  some (v3, v4, v1, v2)

end Go.Rex

namespace Go.Rex
open Go Go.Rex
noncomputable def array_counted (v1 : Int) (v2 : Int) : Option (Int × Int) :=
  some (v1, v2)

end Go.Rex

namespace Go.Rex
open Go Go.Rex
noncomputable def array_each_3fc6 (v1 : Int) (v2 : (List (List Int))) (v3 : Int) : Option (Int × (List (List Int)) × Int) :=
  some (v1, v2, v3)

end Go.Rex

namespace Go.Rex
open Go Go.Rex
noncomputable def array_refuse (v1 : Bool) (v2 : Int) : Option (Bool × Int) :=
  some (v1, v2)

end Go.Rex

namespace Go.Rex
open Go Go.Rex
noncomputable def array_within (v1 : Int) (v2 : Int) (v3 : Int) : Option (Bool × Int) :=
  if (decide (v1 < v2)) = true then
    ((array_refuse true 2).bind fun (v6, v7) =>
    some (v6, v7))
  else
    ((array_refuse (decide (v1 > v3)) 2).bind fun (v8, v9) =>
    some (v8, v9))

end Go.Rex

namespace Go.Rex
open Go Go.Rex
noncomputable def array_refuse_c1_11f9 (v1 : Bool) (v2 : Int) : Option (Int) :=
  if v1 = true then
    (some (v2))
  else
    (some (0))

end Go.Rex

namespace Go.Rex
open Go Go.Rex
noncomputable def array_firstError_751b (v1 : Bool) (v2 : Int) (v3 : Bool) (v4 : Int) : Option (Int) :=
  (array_refuse_c1_11f9 v1 v2).bind fun v6 =>
  if (decide (v6 ≠ 0)) = true then
    (some (v6))
  else
    ((array_refuse_c1_11f9 v3 v4).bind fun v7 =>
    if (decide (v7 ≠ 0)) = true then
      (some (v7))
    else
      (some (0)))

end Go.Rex

namespace Go.Rex
open Go Go.Rex
noncomputable def array_counted_c1_b585 (v1 : Int) (v2 : Int) : Option (Int) :=
  (array_refuse (decide (v1 = 0)) 10).bind fun (v4, v5) =>
  (array_refuse (decide (v1 > v2)) 8).bind fun (v6, v7) =>
  (array_firstError_751b v4 v5 v6 v7).bind fun v8 =>
  some (v8)

end Go.Rex

namespace Go.Rex
open Go Go.Rex
noncomputable def array_task_columns (v1 : (List (List Int))) (v2 : Int) : Option (Int) :=
  (getI v1 0).bind fun v4 =>
  some ((v4.length : Int))

end Go.Rex

namespace Go.Rex
open Go Go.Rex
noncomputable def array_task_check_c1_bdde (v1 : (List (List Int))) (v2 : Int) : Option (Int) :=
  (array_task_columns v1 v2).bind fun v4 =>
  (array_counted v4 3).bind fun (v5, v6) =>
  (array_counted_c1_b585 v5 v6).bind fun v7 =>
  some (v7)

end Go.Rex

namespace Go.Rex
open Go Go.Rex
noncomputable def array_each_aa71 (v1 : Int) (v2 : (List Int)) (v3 : Int) (v4 : Int) : Option (Int × (List Int) × Int × Int) :=
  some (v1, v2, v3, v4)

end Go.Rex

namespace Go.Rex
open Go Go.Rex
noncomputable def array_allWithin (v1 : (List Int)) (v2 : Int) (v3 : Int) : Option (Int × (List Int) × Int × Int) :=
  (array_each_aa71 (v1.length : Int) v1 v2 v3).bind fun (v8, v9, v10, v11) =>
  some (v8, v9, v10, v11)

end Go.Rex

namespace Go.Rex
open Go Go.Rex
noncomputable def array_allWithin_c1_ea58 (v1 : Int) (v2 : (List Int)) (v3 : Int) (v4 : Int) : Option (Int) :=
  (getI v2 v1).bind fun v6 =>
  (array_within v6 v3 v4).bind fun (v7, v8) =>
  (array_refuse_c1_11f9 v7 v8).bind fun v9 =>
  some (v9)

end Go.Rex

namespace Go.Rex
open Go Go.Rex
noncomputable def array_each_c1_6239_l1 (v1 : Int) (v2 : (List Int)) (v3 : Int) (v4 : Int) : (Int) → Option ((Int) ⊕ ((Int) ⊕ (Unit))) := fun v6 =>
  if (decide (v6 < v1)) = true then
    ((array_allWithin_c1_ea58 v6 v2 v3 v4).bind fun v9 =>
    if (decide (v9 ≠ 0)) = true then
      (some (.inr (.inl v9)))
    else
      (some (.inl (IntKind.i64.wrap (v6 + 1)))))
  else
    (some (.inr (.inr ())))
noncomputable def array_each_c1_6239 (v1 : Int) (v2 : (List Int)) (v3 : Int) (v4 : Int) : Option (Int) :=
  (run (array_each_c1_6239_l1 v1 v2 v3 v4) 0).bind fun v10 => match v10 with
  | (.inl v11) =>
    some (v11)
  | (.inr _) =>
    some (0)

end Go.Rex

namespace Go.Rex
open Go Go.Rex
noncomputable def array_firstError_d146 (v1 : Bool) (v2 : Int) (v3 : Int) (v4 : (List Int)) (v5 : Int) (v6 : Int) : Option (Int) :=
  (array_refuse_c1_11f9 v1 v2).bind fun v8 =>
  if (decide (v8 ≠ 0)) = true then
    (some (v8))
  else
    ((array_each_c1_6239 v3 v4 v5 v6).bind fun v9 =>
    if (decide (v9 ≠ 0)) = true then
      (some (v9))
    else
      (some (0)))

end Go.Rex

namespace Go.Rex
open Go Go.Rex
noncomputable def array_task_check_c2_a037 (v1 : Int) (v2 : (List (List Int))) (v3 : Int) : Option (Int) :=
  (getI v2 v1).bind fun v5 =>
  (array_task_columns v2 v3).bind fun v6 =>
  (array_refuse (decide ((v5.length : Int) ≠ v6)) 10).bind fun (v7, v8) =>
  (array_allWithin v5 0 100).bind fun (v9, v10, v11, v12) =>
  (array_firstError_d146 v7 v8 v9 v10 v11 v12).bind fun v13 =>
  some (v13)

end Go.Rex

namespace Go.Rex
open Go Go.Rex
noncomputable def array_each_c1_a743_l1 (v1 : Int) (v2 : (List (List Int))) (v3 : Int) : (Int) → Option ((Int) ⊕ ((Int) ⊕ (Unit))) := fun v5 =>
  if (decide (v5 < v1)) = true then
    ((array_task_check_c2_a037 v5 v2 v3).bind fun v8 =>
    if (decide (v8 ≠ 0)) = true then
      (some (.inr (.inl v8)))
    else
      (some (.inl (IntKind.i64.wrap (v5 + 1)))))
  else
    (some (.inr (.inr ())))
noncomputable def array_each_c1_a743 (v1 : Int) (v2 : (List (List Int))) (v3 : Int) : Option (Int) :=
  (run (array_each_c1_a743_l1 v1 v2 v3) 0).bind fun v9 => match v9 with
  | (.inl v10) =>
    some (v10)
  | (.inr _) =>
    some (0)

end Go.Rex

namespace Go.Rex
open Go Go.Rex
noncomputable def array_firstError_f6a9 (v1 : Int) (v2 : Int) (v3 : (List (List Int))) (v4 : Int) (v5 : Int) (v6 : (List (List Int))) (v7 : Int) (v8 : Bool) (v9 : Int) : Option (Int) :=
  (array_counted_c1_b585 v1 v2).bind fun v11 =>
  if (decide (v11 ≠ 0)) = true then
    (some (v11))
  else
    ((array_task_check_c1_bdde v3 v4).bind fun v12 =>
    if (decide (v12 ≠ 0)) = true then
      (some (v12))
    else
      ((array_each_c1_a743 v5 v6 v7).bind fun v13 =>
      if (decide (v13 ≠ 0)) = true then
        (some (v13))
      else
        ((array_refuse_c1_11f9 v8 v9).bind fun v14 =>
        if (decide (v14 ≠ 0)) = true then
          (some (v14))
        else
          (some (0)))))

end Go.Rex

namespace Go.Rex
open Go Go.Rex
noncomputable def array_task_check (v1 : (List (List Int))) (v2 : Int) : Option (Int) :=
  (array_counted (v1.length : Int) 4).bind fun (v4, v5) =>
  (array_each_3fc6 (v1.length : Int) v1 v2).bind fun (v6, v7, v8) =>
  (array_within v2 0 1000).bind fun (v9, v10) =>
  (array_firstError_f6a9 v4 v5 v1 v2 v6 v7 v8 v9 v10).bind fun v11 =>
  some (v11)

end Go.Rex

namespace Go.Rex
open Go Go.Rex
noncomputable def array_task_opened_c1_c1_30d5 (v1 : Int) (v2 : (List Int)) (v3 : (List (List Int))) (v4 : Int) : Option (Int) :=
  (array_task_columns v3 v4).bind fun v6 =>
  (array_refuse (decide ((v2.length : Int) ≠ v6)) 10).bind fun (v7, v8) =>
  (array_refuse_c1_11f9 v7 v8).bind fun v9 =>
  some (v9)

end Go.Rex

namespace Go.Rex
open Go Go.Rex
noncomputable def array_products_l1 (v1 : (List Int)) (v2 : (List Int)) : (Int × Int) → Option ((Int × Int) ⊕ ((Int))) := fun (v4, v5) =>
  if (decide (v5 < (v1.length : Int))) = true then
    ((getI v1 v5).bind fun v9 =>
    (getI v2 v5).bind fun v10 =>
    some (.inl ((IntKind.i64.wrap (v4 + (IntKind.i64.wrap (v9 * v10)))), (IntKind.i64.wrap (v5 + 1)))))
  else
    (some (.inr v4))
noncomputable def array_products (v1 : (List Int)) (v2 : (List Int)) : Option (Int) :=
  (run (array_products_l1 v1 v2) (0, 0)).bind fun v11 =>
  some (v11)

end Go.Rex

namespace Go.Rex
open Go Go.Rex
noncomputable def array_task_gets_l1 (v1 : (List (List Int))) (v4 : (List Int)) : ((List Int) × Int) → Option (((List Int) × Int) ⊕ (((List Int)))) := fun (v6, v7) =>
  if (decide (v7 < (v1.length : Int))) = true then
    ((getI v1 v7).bind fun v12 =>
    (array_products v12 v4).bind fun v13 =>
    (appI 8 v6 ([v13] : List Int)).bind fun v14 =>
    some (.inl (v14, (IntKind.i64.wrap (v7 + 1)))))
  else
    (some (.inr v6))
noncomputable def array_task_gets (v1 : (List (List Int))) (v2 : Int) (v3 : Int) (v4 : (List Int)) : Option ((List Int)) :=
  (run (array_task_gets_l1 v1 v4) (([] : List Int), 0)).bind fun v15 =>
  some (v15)

end Go.Rex

namespace Go.Rex
open Go Go.Rex
noncomputable def slices_Max_int_int_l1 (v1 : (List Int)) : (Int × Int) → Option ((Int × Int) ⊕ ((Int))) := fun (v4, v5) =>
  if (decide (v5 < (v1.length : Int))) = true then
    ((getI v1 v5).bind fun v8 =>
    some (.inl ((if v8 > v4 then v8 else v4), (IntKind.i64.wrap (v5 + 1)))))
  else
    (some (.inr v4))
noncomputable def slices_Max_int_int (v1 : (List Int)) : Option (Int) :=
  if (decide ((v1.length : Int) < 1)) = true then
    (none)
  else
    ((getI v1 0).bind fun v3 =>
    (run (slices_Max_int_int_l1 v1) (v3, 1)).bind fun v9 =>
    some (v9))

end Go.Rex

namespace Go.Rex
open Go Go.Rex
noncomputable def array_task_opened_c1_c2_3b05 (v1 : (List (List Int))) (v2 : Int) (v3 : Int) (v4 : (List Int)) : Option (Int) :=
  (array_task_gets v1 v2 v3 v4).bind fun v6 =>
  (slices_Max_int_int v6).bind fun v7 =>
  (array_refuse (decide (v7 > (IntKind.i64.wrap (v2 * v3)))) 24).bind fun (v8, v9) =>
  (array_refuse_c1_11f9 v8 v9).bind fun v10 =>
  some (v10)

end Go.Rex

namespace Go.Rex
open Go Go.Rex
noncomputable def array_firstError_f7c3 (v1 : Bool) (v2 : Int) (v3 : Int) (v4 : (List Int)) (v5 : (List (List Int))) (v6 : Int) (v7 : Int) (v8 : (List Int)) (v9 : Int) (v10 : Int) (v11 : (List (List Int))) (v12 : Int) (v13 : Int) (v14 : (List Int)) : Option (Int) :=
  (array_refuse_c1_11f9 v1 v2).bind fun v16 =>
  if (decide (v16 ≠ 0)) = true then
    (some (v16))
  else
    ((array_task_opened_c1_c1_30d5 v3 v4 v5 v6).bind fun v17 =>
    if (decide (v17 ≠ 0)) = true then
      (some (v17))
    else
      ((array_each_c1_6239 v7 v8 v9 v10).bind fun v18 =>
      if (decide (v18 ≠ 0)) = true then
        (some (v18))
      else
        ((array_task_opened_c1_c2_3b05 v11 v12 v13 v14).bind fun v19 =>
        if (decide (v19 ≠ 0)) = true then
          (some (v19))
        else
          (some (0)))))

end Go.Rex

namespace Go.Rex
open Go Go.Rex
noncomputable def array_task_opened_c1_30d5 (v1 : Int) (v2 : (List Int)) (v3 : (List (List Int))) (v4 : Int) : Option (Int) :=
  (array_within v1 1 1000000000000).bind fun (v6, v7) =>
  (array_allWithin v2 0 v1).bind fun (v8, v9, v10, v11) =>
  (array_firstError_f7c3 v6 v7 v1 v2 v3 v4 v8 v9 v10 v11 v3 v4 v1 v2).bind fun v12 =>
  some (v12)

end Go.Rex

namespace Go.Rex
open Go Go.Rex
noncomputable def array_firstError_e6a2 (v1 : (List (List Int))) (v2 : Int) (v3 : Int) (v4 : (List Int)) (v5 : (List (List Int))) (v6 : Int) : Option (Int) :=
  (array_task_check v1 v2).bind fun v8 =>
  if (decide (v8 ≠ 0)) = true then
    (some (v8))
  else
    ((array_task_opened_c1_30d5 v3 v4 v5 v6).bind fun v9 =>
    if (decide (v9 ≠ 0)) = true then
      (some (v9))
    else
      (some (0)))

end Go.Rex

namespace Go.Rex
open Go Go.Rex
noncomputable def slices_Min_int_int_l1 (v1 : (List Int)) : (Int × Int) → Option ((Int × Int) ⊕ ((Int))) := fun (v4, v5) =>
  if (decide (v5 < (v1.length : Int))) = true then
    ((getI v1 v5).bind fun v8 =>
    some (.inl ((if v8 < v4 then v8 else v4), (IntKind.i64.wrap (v5 + 1)))))
  else
    (some (.inr v4))
noncomputable def slices_Min_int_int (v1 : (List Int)) : Option (Int) :=
  if (decide ((v1.length : Int) < 1)) = true then
    (none)
  else
    ((getI v1 0).bind fun v3 =>
    (run (slices_Min_int_int_l1 v1) (v3, 1)).bind fun v9 =>
    some (v9))

end Go.Rex

namespace Go.Rex
open Go Go.Rex
noncomputable def array_fraction_lowest_l1 : (Int × Int) → Option ((Int × Int) ⊕ ((Int))) := fun (v5, v6) =>
  if (decide (v6 ≠ 0)) = true then
    (if v6 = 0 then none else
    (some (.inl (v6, (v5.tmod v6)))))
  else
    (some (.inr v5))
noncomputable def array_fraction_lowest (v1 : Int) (v2 : Int) : Option (Int × Int) :=
  (run (array_fraction_lowest_l1) (v2, v1)).bind fun v8 =>
  if v8 = 0 then none else
  (some ((IntKind.i64.wrap (v1.tdiv v8)), (IntKind.i64.wrap (v2.tdiv v8))))

end Go.Rex

namespace Go.Rex
open Go Go.Rex
noncomputable def array_CheckOpen (v1 : (List (List Int))) (v2 : Int) (v3 : Int) (v4 : (List Int)) : Option (Int × Int × Int) :=
  (array_task_opened v1 v2 v3 v4).bind fun (v8, v9, v10, v11) =>
  (array_firstError_e6a2 v1 v2 v8 v9 v10 v11).bind fun v12 =>
  if (decide (v12 ≠ 0)) = true then
    (some (0, 0, v12))
  else
    ((array_task_gets v1 v2 v3 v4).bind fun v13 =>
    (slices_Min_int_int v13).bind fun v14 =>
    (array_fraction_lowest v14 v3).bind fun (v15, v16) =>
    some (v15, v16, 0))

end Go.Rex

namespace Go.Rex
open Go Go.Rex
noncomputable def ref07_CopyWeights (v1 : Int) (v2 : (List Int)) (v3 : (List Int)) (v4 : (List Int)) : Option (Int × (List Int) × (List Int) × (List Int)) :=
  (base_CopyInts v2).bind fun v9 =>
  (base_CopyInts v3).bind fun v10 =>
  (base_CopyInts v4).bind fun v11 =>
  some (v1, v9, v10, v11)

end Go.Rex

namespace Go.Rex
open Go Go.Rex
noncomputable def array_task_weighed (v1 : (List (List Int))) (v2 : Int) (v3 : Int) (v4 : (List Int)) (v5 : (List Int)) (v6 : (List Int)) : Option ((List (List Int)) × Int × Int × (List Int) × (List Int) × (List Int)) :=
  some (v1, v2, v3, v4, v5, v6)

end Go.Rex

namespace Go.Rex
open Go Go.Rex
noncomputable def array_task_proves_l2 (v5 : (List Int)) (v12 : Int) (v27 : (List Int)) (v28 : Int) : ((List Int) × Int) → Option (((List Int) × Int) ⊕ (((List Int)))) := fun (v29, v30) =>
  if (decide (v30 < (v27.length : Int))) = true then
    ((getI v27 v30).bind fun v35 =>
    (getI v29 v30).bind fun v36 =>
    (getI v5 v12).bind fun v37 =>
    some (.inl ((v29.set v30.toNat (IntKind.i64.wrap (v36 + (IntKind.i64.wrap ((IntKind.i64.wrap (v28 - v37)) * v35))))), (IntKind.i64.wrap (v30 + 1)))))
  else
    (some (.inr v29))
noncomputable def array_task_proves_l1 (v1 : (List (List Int))) (v4 : (List Int)) (v5 : (List Int)) : (Int × (List Int) × Int) → Option ((Int × (List Int) × Int) ⊕ ((Int × (List Int)))) := fun (v10, v11, v12) =>
  if (decide (v12 < (v1.length : Int))) = true then
    ((getI v1 v12).bind fun v27 =>
    (getI v4 v12).bind fun v28 =>
    (run (array_task_proves_l2 v5 v12 v27 v28) (v11, 0)).bind fun v38 =>
    some (.inl ((IntKind.i64.wrap (v10 - v28)), v38, (IntKind.i64.wrap (v12 + 1)))))
  else
    (some (.inr (v10, v11)))
noncomputable def array_task_proves_l3 (v6 : (List Int)) (v40 : (List Int)) : (Int) → Option ((Int) ⊕ ((Unit) ⊕ (Unit))) := fun v41 =>
  if (decide (v41 < (v40.length : Int))) = true then
    ((getI v40 v41).bind fun v44 =>
    (getI v6 v41).bind fun v45 =>
    if (decide (v45 < v44)) = true then
      (some (.inr (.inl ())))
    else
      (some (.inl (IntKind.i64.wrap (v41 + 1)))))
  else
    (some (.inr (.inr ())))
noncomputable def array_task_proves (v1 : (List (List Int))) (v2 : Int) (v3 : Int) (v4 : (List Int)) (v5 : (List Int)) (v6 : (List Int)) : Option (Bool) :=
  (array_task_columns v1 v2).bind fun v8 =>
  (mkI 8 v8 (0 : Int)).bind fun v9 =>
  (run (array_task_proves_l1 v1 v4 v5) (v3, v9, 0)).bind fun (v39, v40) =>
  (run (array_task_proves_l3 v6 v40) 0).bind fun v46 => match v46 with
  | (.inl _) =>
    some (false)
  | (.inr _) =>
    some ((decide (v39 = 0)))

end Go.Rex

namespace Go.Rex
open Go Go.Rex
noncomputable def array_task_weighed_c1_c1_be62 (v1 : (List (List Int))) (v2 : Int) (v3 : Int) (v4 : (List Int)) (v5 : (List Int)) (v6 : (List Int)) : Option (Int) :=
  (array_task_proves v1 v2 v3 v4 v5 v6).bind fun v8 =>
  (array_refuse (!v8) 20).bind fun (v9, v10) =>
  (array_refuse_c1_11f9 v9 v10).bind fun v11 =>
  some (v11)

end Go.Rex

namespace Go.Rex
open Go Go.Rex
noncomputable def array_firstError_6002 (v1 : Bool) (v2 : Int) (v3 : Bool) (v4 : Int) (v5 : Int) (v6 : (List Int)) (v7 : Int) (v8 : Int) (v9 : Int) (v10 : (List Int)) (v11 : Int) (v12 : Int) (v13 : Int) (v14 : (List Int)) (v15 : Int) (v16 : Int) (v17 : (List (List Int))) (v18 : Int) (v19 : Int) (v20 : (List Int)) (v21 : (List Int)) (v22 : (List Int)) : Option (Int) :=
  (array_refuse_c1_11f9 v1 v2).bind fun v24 =>
  if (decide (v24 ≠ 0)) = true then
    (some (v24))
  else
    ((array_refuse_c1_11f9 v3 v4).bind fun v25 =>
    if (decide (v25 ≠ 0)) = true then
      (some (v25))
    else
      ((array_each_c1_6239 v5 v6 v7 v8).bind fun v26 =>
      if (decide (v26 ≠ 0)) = true then
        (some (v26))
      else
        ((array_each_c1_6239 v9 v10 v11 v12).bind fun v27 =>
        if (decide (v27 ≠ 0)) = true then
          (some (v27))
        else
          ((array_each_c1_6239 v13 v14 v15 v16).bind fun v28 =>
          if (decide (v28 ≠ 0)) = true then
            (some (v28))
          else
            ((array_task_weighed_c1_c1_be62 v17 v18 v19 v20 v21 v22).bind fun v29 =>
            if (decide (v29 ≠ 0)) = true then
              (some (v29))
            else
              (some (0)))))))

end Go.Rex

namespace Go.Rex
open Go Go.Rex
noncomputable def array_task_weighed_c1_be62 (v1 : (List (List Int))) (v2 : Int) (v3 : Int) (v4 : (List Int)) (v5 : (List Int)) (v6 : (List Int)) : Option (Int) :=
  if (decide ((v4.length : Int) ≠ (v1.length : Int))) = true then
    ((array_within v3 1 1000000000000).bind fun (v8, v9) =>
    (array_refuse true 10).bind fun (v10, v11) =>
    (array_allWithin v4 0 1000000000000).bind fun (v12, v13, v14, v15) =>
    (array_allWithin v5 0 1000000000000).bind fun (v16, v17, v18, v19) =>
    (array_allWithin v6 0 1000000000000).bind fun (v20, v21, v22, v23) =>
    (array_firstError_6002 v8 v9 v10 v11 v12 v13 v14 v15 v16 v17 v18 v19 v20 v21 v22 v23 v1 v2 v3 v4 v5 v6).bind fun v24 =>
    some (v24))
  else
    (if (decide ((v5.length : Int) ≠ (v1.length : Int))) = true then
      ((array_within v3 1 1000000000000).bind fun (v25, v26) =>
      (array_refuse true 10).bind fun (v27, v28) =>
      (array_allWithin v4 0 1000000000000).bind fun (v29, v30, v31, v32) =>
      (array_allWithin v5 0 1000000000000).bind fun (v33, v34, v35, v36) =>
      (array_allWithin v6 0 1000000000000).bind fun (v37, v38, v39, v40) =>
      (array_firstError_6002 v25 v26 v27 v28 v29 v30 v31 v32 v33 v34 v35 v36 v37 v38 v39 v40 v1 v2 v3 v4 v5 v6).bind fun v41 =>
      some (v41))
    else
      ((array_task_columns v1 v2).bind fun v42 =>
      (array_within v3 1 1000000000000).bind fun (v43, v44) =>
      (array_refuse (decide ((v6.length : Int) ≠ v42)) 10).bind fun (v45, v46) =>
      (array_allWithin v4 0 1000000000000).bind fun (v47, v48, v49, v50) =>
      (array_allWithin v5 0 1000000000000).bind fun (v51, v52, v53, v54) =>
      (array_allWithin v6 0 1000000000000).bind fun (v55, v56, v57, v58) =>
      (array_firstError_6002 v43 v44 v45 v46 v47 v48 v49 v50 v51 v52 v53 v54 v55 v56 v57 v58 v1 v2 v3 v4 v5 v6).bind fun v59 =>
      some (v59)))

end Go.Rex

namespace Go.Rex
open Go Go.Rex
noncomputable def array_firstError_2d8a (v1 : (List (List Int))) (v2 : Int) (v3 : (List (List Int))) (v4 : Int) (v5 : Int) (v6 : (List Int)) (v7 : (List Int)) (v8 : (List Int)) : Option (Int) :=
  (array_task_check v1 v2).bind fun v10 =>
  if (decide (v10 ≠ 0)) = true then
    (some (v10))
  else
    ((array_task_weighed_c1_be62 v3 v4 v5 v6 v7 v8).bind fun v11 =>
    if (decide (v11 ≠ 0)) = true then
      (some (v11))
    else
      (some (0)))

end Go.Rex

namespace Go.Rex
open Go Go.Rex
noncomputable def array_task_bound_l1 (v2 : Int) (v5 : (List Int)) : (Int × Int) → Option ((Int × Int) ⊕ ((Int))) := fun (v9, v10) =>
  if (decide (v10 < (v5.length : Int))) = true then
    ((getI v5 v10).bind fun v13 =>
    some (.inl ((IntKind.i64.wrap (v9 + (IntKind.i64.wrap (v13 * v2)))), (IntKind.i64.wrap (v10 + 1)))))
  else
    (some (.inr v9))
noncomputable def array_task_bound_l2 (v6 : (List Int)) : (Int × Int) → Option ((Int × Int) ⊕ ((Int))) := fun (v15, v16) =>
  if (decide (v16 < (v6.length : Int))) = true then
    ((getI v6 v16).bind fun v19 =>
    some (.inl ((IntKind.i64.wrap (v15 + v19)), (IntKind.i64.wrap (v16 + 1)))))
  else
    (some (.inr v15))
noncomputable def array_task_bound (v1 : (List (List Int))) (v2 : Int) (v3 : Int) (v4 : (List Int)) (v5 : (List Int)) (v6 : (List Int)) : Option (Int × Int) :=
  (run (array_task_bound_l1 v2 v5) (0, 0)).bind fun v14 =>
  (run (array_task_bound_l2 v6) (v14, 0)).bind fun v20 =>
  some (v20, v3)

end Go.Rex

namespace Go.Rex
open Go Go.Rex
noncomputable def array_CheckWeights (v1 : (List (List Int))) (v2 : Int) (v3 : Int) (v4 : (List Int)) (v5 : (List Int)) (v6 : (List Int)) : Option (Int × Int × Int) :=
  (array_task_weighed v1 v2 v3 v4 v5 v6).bind fun (v10, v11, v12, v13, v14, v15) =>
  (array_firstError_2d8a v1 v2 v10 v11 v12 v13 v14 v15).bind fun v16 =>
  if (decide (v16 ≠ 0)) = true then
    (some (0, 0, v16))
  else
    ((array_task_bound v1 v2 v3 v4 v5 v6).bind fun (v17, v18) =>
    (array_fraction_lowest v17 v18).bind fun (v19, v20) =>
    some (v19, v20, 0))

end Go.Rex

namespace Go.Rex
open Go Go.Rex
noncomputable def array_fraction_isAtLeast (v1 : Int) (v2 : Int) (v3 : Int) : Option (Bool) :=
  some ((decide (v1 ≥ (IntKind.i64.wrap (v3 * v2)))))

end Go.Rex

namespace Go.Rex
open Go Go.Rex
noncomputable def array_CannotReach_c1_c881 (v1 : (List (List Int))) (v2 : Int) (v3 : Int) (v4 : (List Int)) (v5 : (List Int)) (v6 : (List Int)) (v7 : Int) : Option (Int) :=
  (array_task_bound v1 v2 v3 v4 v5 v6).bind fun (v9, v10) =>
  (array_fraction_isAtLeast v9 v10 v7).bind fun v11 =>
  (array_refuse v11 20).bind fun (v12, v13) =>
  (array_refuse_c1_11f9 v12 v13).bind fun v14 =>
  some (v14)

end Go.Rex

namespace Go.Rex
open Go Go.Rex
noncomputable def array_firstError_dd43 (v1 : (List (List Int))) (v2 : Int) (v3 : Bool) (v4 : Int) (v5 : (List (List Int))) (v6 : Int) (v7 : Int) (v8 : (List Int)) (v9 : (List Int)) (v10 : (List Int)) (v11 : (List (List Int))) (v12 : Int) (v13 : Int) (v14 : (List Int)) (v15 : (List Int)) (v16 : (List Int)) (v17 : Int) : Option (Int) :=
  (array_task_check v1 v2).bind fun v19 =>
  if (decide (v19 ≠ 0)) = true then
    (some (v19))
  else
    ((array_refuse_c1_11f9 v3 v4).bind fun v20 =>
    if (decide (v20 ≠ 0)) = true then
      (some (v20))
    else
      ((array_task_weighed_c1_be62 v5 v6 v7 v8 v9 v10).bind fun v21 =>
      if (decide (v21 ≠ 0)) = true then
        (some (v21))
      else
        ((array_CannotReach_c1_c881 v11 v12 v13 v14 v15 v16 v17).bind fun v22 =>
        if (decide (v22 ≠ 0)) = true then
          (some (v22))
        else
          (some (0)))))

end Go.Rex

namespace Go.Rex
open Go Go.Rex
noncomputable def array_CannotReach (v1 : (List (List Int))) (v2 : Int) (v3 : Int) (v4 : Int) (v5 : (List Int)) (v6 : (List Int)) (v7 : (List Int)) : Option (Int) :=
  (array_within v3 0 1000).bind fun (v9, v10) =>
  (array_task_weighed v1 v2 v4 v5 v6 v7).bind fun (v11, v12, v13, v14, v15, v16) =>
  (array_firstError_dd43 v1 v2 v9 v10 v11 v12 v13 v14 v15 v16 v1 v2 v4 v5 v6 v7 v3).bind fun v17 =>
  some (v17)

end Go.Rex

namespace Go.Rex
open Go Go.Rex
noncomputable def base_Within (v1 : Int) (v2 : Int) (v3 : Int) : Option (Bool) :=
  if (decide (v2 ≤ v1)) = true then
    (some ((decide (v1 ≤ v3))))
  else
    (some (false))

end Go.Rex

namespace Go.Rex
open Go Go.Rex
noncomputable def ref07_CheckTask_l2 (v14 : (List Int)) : (Int) → Option ((Int) ⊕ ((Unit) ⊕ (Unit))) := fun v15 =>
  if (decide (v15 < (v14.length : Int))) = true then
    ((getI v14 v15).bind fun v18 =>
    (base_Within v18 0 100).bind fun v19 =>
    if v19 = true then
      (some (.inl (IntKind.i64.wrap (v15 + 1))))
    else
      (some (.inr (.inl ()))))
  else
    (some (.inr (.inr ())))
noncomputable def ref07_CheckTask_l1 (v1 : (List (List Int))) (v4 : (List Int)) : (Int) → Option ((Int) ⊕ ((Int) ⊕ (Unit))) := fun v5 =>
  if (decide (v5 < (v1.length : Int))) = true then
    ((getI v1 v5).bind fun v14 =>
    if (decide ((v14.length : Int) ≠ (v4.length : Int))) = true then
      (some (.inr (.inl 10)))
    else
      ((run (ref07_CheckTask_l2 v14) 0).bind fun v20 => match v20 with
      | (.inl _) =>
        some (.inr (.inl 2))
      | (.inr _) =>
        some (.inl (IntKind.i64.wrap (v5 + 1)))))
  else
    (some (.inr (.inr ())))
noncomputable def ref07_CheckTask (v1 : (List (List Int))) (v2 : Int) : Option (Int) :=
  if (decide ((v1.length : Int) = 0)) = true then
    (some (10))
  else
    (if (decide ((v1.length : Int) > 4)) = true then
      (some (8))
    else
      ((getI v1 0).bind fun v4 =>
      if (decide ((v4.length : Int) = 0)) = true then
        (some (10))
      else
        (if (decide ((v4.length : Int) > 3)) = true then
          (some (8))
        else
          ((run (ref07_CheckTask_l1 v1 v4) 0).bind fun v21 => match v21 with
          | (.inl v22) =>
            some (v22)
          | (.inr _) =>
            (base_Within v2 0 1000).bind fun v23 =>
            if v23 = true then
              (some (0))
            else
              (some (2))))))

end Go.Rex

namespace Go.Rex
open Go Go.Rex
noncomputable def array_CheckTask (v1 : (List (List Int))) (v2 : Int) : Option (Int) :=
  (array_task_check v1 v2).bind fun v4 =>
  some (v4)

end Go.Rex

namespace Go.Rex
open Go Go.Rex
noncomputable def ref07_within_l1 (v1 : (List Int)) (v2 : Int) : (Int) → Option ((Int) ⊕ ((Unit) ⊕ (Unit))) := fun v4 =>
  if (decide (v4 < (v1.length : Int))) = true then
    ((getI v1 v4).bind fun v7 =>
    (base_Within v7 0 v2).bind fun v8 =>
    if v8 = true then
      (some (.inl (IntKind.i64.wrap (v4 + 1))))
    else
      (some (.inr (.inl ()))))
  else
    (some (.inr (.inr ())))
noncomputable def ref07_within (v1 : (List Int)) (v2 : Int) : Option (Bool) :=
  (run (ref07_within_l1 v1 v2) 0).bind fun v9 => match v9 with
  | (.inl _) =>
    some (false)
  | (.inr _) =>
    some (true)

end Go.Rex

namespace Go.Rex
open Go Go.Rex
noncomputable def base_Size (v1 : Int) : Option (Int) :=
  some ((if (IntKind.i64.wrap (0 - v1)) > v1 then (IntKind.i64.wrap (0 - v1)) else v1))

end Go.Rex

namespace Go.Rex
open Go Go.Rex
noncomputable def base_Gcd_l1 : (Int × Int) → Option ((Int × Int) ⊕ ((Int))) := fun (v4, v5) =>
  if (decide (v5 ≠ 0)) = true then
    (if v5 = 0 then none else
    (some (.inl (v5, (v4.tmod v5)))))
  else
    (some (.inr v4))
noncomputable def base_Gcd (v1 : Int) (v2 : Int) : Option (Int) :=
  (run (base_Gcd_l1) (v1, v2)).bind fun v7 =>
  (base_Size v7).bind fun v8 =>
  some (v8)

end Go.Rex

namespace Go.Rex
open Go Go.Rex
noncomputable def base_Lowest (v1 : Int) (v2 : Int) : Option (Int × Int) :=
  (base_Gcd v1 v2).bind fun v5 =>
  if (decide (v2 < 0)) = true then
    (if (IntKind.i64.wrap (0 - v5)) = 0 then none else
    (some ((IntKind.i64.wrap (v1.tdiv (IntKind.i64.wrap (0 - v5)))), (IntKind.i64.wrap (v2.tdiv (IntKind.i64.wrap (0 - v5)))))))
  else
    (if v5 = 0 then none else
    (some ((IntKind.i64.wrap (v1.tdiv v5)), (IntKind.i64.wrap (v2.tdiv v5)))))

end Go.Rex

namespace Go.Rex
open Go Go.Rex
noncomputable def ref07_two (v1 : Int) (v2 : Int) : Option (Int × Int) :=
  (base_Lowest v1 v2).bind fun (v5, v6) =>
  some (v5, v6)

end Go.Rex

namespace Go.Rex
open Go Go.Rex
noncomputable def ref07_CheckOpen_l2 (v1 : (List (List Int))) (v4 : (List Int)) (v12 : Int) : (Int × Int) → Option ((Int × Int) ⊕ ((Int))) := fun (v24, v25) =>
  if (decide (v25 < (v4.length : Int))) = true then
    ((getI v1 v12).bind fun v30 =>
    (getI v30 v25).bind fun v31 =>
    (getI v4 v25).bind fun v32 =>
    some (.inl ((IntKind.i64.wrap (v24 + (IntKind.i64.wrap (v31 * v32)))), (IntKind.i64.wrap (v25 + 1)))))
  else
    (some (.inr v24))
noncomputable def ref07_CheckOpen_l1 (v1 : (List (List Int))) (v2 : Int) (v3 : Int) (v4 : (List Int)) : (Int × Int) → Option ((Int × Int) ⊕ ((Unit) ⊕ (Int))) := fun (v11, v12) =>
  if (decide (v12 < (v1.length : Int))) = true then
    ((run (ref07_CheckOpen_l2 v1 v4 v12) (0, 0)).bind fun v33 =>
    if (decide (v33 > (IntKind.i64.wrap (v2 * v3)))) = true then
      (some (.inr (.inl ())))
    else
      (if (decide (v12 = 0)) = true then
        (some (.inl (v33, (IntKind.i64.wrap (v12 + 1)))))
      else
        (if (decide (v33 < v11)) = true then
          (some (.inl (v33, (IntKind.i64.wrap (v12 + 1)))))
        else
          (some (.inl (v11, (IntKind.i64.wrap (v12 + 1))))))))
  else
    (some (.inr (.inr v11)))
noncomputable def ref07_CheckOpen (v1 : (List (List Int))) (v2 : Int) (v3 : Int) (v4 : (List Int)) : Option (Int × Int × Int) :=
  (base_Within v3 1 1000000000000).bind fun v8 =>
  if v8 = true then
    ((getI v1 0).bind fun v9 =>
    if (decide ((v4.length : Int) ≠ (v9.length : Int))) = true then
      (some (0, 0, 10))
    else
      ((ref07_within v4 v3).bind fun v10 =>
      if v10 = true then
        ((run (ref07_CheckOpen_l1 v1 v2 v3 v4) (0, 0)).bind fun v34 => match v34 with
        | (.inl _) =>
          some (0, 0, 24)
        | (.inr v35) =>
          (ref07_two v35 v3).bind fun (v36, v37) =>
          some (v36, v37, 0))
      else
        (some (0, 0, 2))))
  else
    (some (0, 0, 2))

end Go.Rex

namespace Go.Rex
open Go Go.Rex
noncomputable def ref07_CheckWeights_l1 (v2 : Int) (v4 : (List Int)) (v5 : (List Int)) : (Int × Int × Int) → Option ((Int × Int × Int) ⊕ ((Int × Int))) := fun (v15, v16, v17) =>
  if (decide (v17 < (v4.length : Int))) = true then
    ((getI v4 v17).bind fun v22 =>
    (getI v5 v17).bind fun v23 =>
    some (.inl ((IntKind.i64.wrap (v15 + v22)), (IntKind.i64.wrap (v16 + (IntKind.i64.wrap (v23 * v2)))), (IntKind.i64.wrap (v17 + 1)))))
  else
    (some (.inr (v15, v16)))
noncomputable def ref07_CheckWeights_l3 (v1 : (List (List Int))) (v4 : (List Int)) (v5 : (List Int)) (v27 : Int) : (Int × Int) → Option ((Int × Int) ⊕ ((Int))) := fun (v42, v43) =>
  if (decide (v43 < (v4.length : Int))) = true then
    ((getI v4 v43).bind fun v49 =>
    (getI v5 v43).bind fun v50 =>
    (getI v1 v43).bind fun v51 =>
    (getI v51 v27).bind fun v52 =>
    some (.inl ((IntKind.i64.wrap (v42 + (IntKind.i64.wrap ((IntKind.i64.wrap (v49 - v50)) * v52)))), (IntKind.i64.wrap (v43 + 1)))))
  else
    (some (.inr v42))
noncomputable def ref07_CheckWeights_l2 (v1 : (List (List Int))) (v4 : (List Int)) (v5 : (List Int)) (v6 : (List Int)) : (Int × Int) → Option ((Int × Int) ⊕ ((Unit) ⊕ (Int))) := fun (v26, v27) =>
  if (decide (v27 < (v6.length : Int))) = true then
    ((run (ref07_CheckWeights_l3 v1 v4 v5 v27) (0, 0)).bind fun v53 =>
    (getI v6 v27).bind fun v54 =>
    if (decide (v54 < v53)) = true then
      (some (.inr (.inl ())))
    else
      (some (.inl ((IntKind.i64.wrap (v26 + v54)), (IntKind.i64.wrap (v27 + 1))))))
  else
    (some (.inr (.inr v26)))
noncomputable def ref07_CheckWeights (v1 : (List (List Int))) (v2 : Int) (v3 : Int) (v4 : (List Int)) (v5 : (List Int)) (v6 : (List Int)) : Option (Int × Int × Int) :=
  (base_Within v3 1 1000000000000).bind fun v10 =>
  if v10 = true then
    (if (decide ((v4.length : Int) ≠ (v1.length : Int))) = true then
      (some (0, 0, 10))
    else
      (if (decide ((v5.length : Int) ≠ (v1.length : Int))) = true then
        (some (0, 0, 10))
      else
        ((getI v1 0).bind fun v11 =>
        if (decide ((v6.length : Int) ≠ (v11.length : Int))) = true then
          (some (0, 0, 10))
        else
          ((ref07_within v4 1000000000000).bind fun v12 =>
          if v12 = true then
            ((ref07_within v5 1000000000000).bind fun v13 =>
            if v13 = true then
              ((ref07_within v6 1000000000000).bind fun v14 =>
              if v14 = true then
                ((run (ref07_CheckWeights_l1 v2 v4 v5) (0, 0, 0)).bind fun (v24, v25) =>
                if (decide (v24 ≠ v3)) = true then
                  (some (0, 0, 20))
                else
                  ((run (ref07_CheckWeights_l2 v1 v4 v5 v6) (v25, 0)).bind fun v55 => match v55 with
                  | (.inl _) =>
                    some (0, 0, 20)
                  | (.inr v56) =>
                    (ref07_two v56 v3).bind fun (v57, v58) =>
                    some (v57, v58, 0)))
              else
                (some (0, 0, 2)))
            else
              (some (0, 0, 2)))
          else
            (some (0, 0, 2))))))
  else
    (some (0, 0, 2))

end Go.Rex

namespace Go.Rex
open Go Go.Rex
noncomputable def base_Floor (v1 : Int) (v2 : Int) : Option (Int) :=
  if v2 = 0 then none else
  (if (decide ((v1.tmod v2) < 0)) = true then
    (some ((IntKind.i64.wrap ((IntKind.i64.wrap (v1.tdiv v2)) - 1))))
  else
    (some ((IntKind.i64.wrap (v1.tdiv v2)))))

end Go.Rex

namespace Go.Rex
open Go Go.Rex
noncomputable def base_Compare_l1 : (Int × Int × Int × Int) → Option ((Int × Int × Int × Int) ⊕ ((Int))) := fun (v6, v7, v8, v9) =>
  (base_Floor v6 v7).bind fun v13 =>
  (base_Floor v8 v9).bind fun v14 =>
  if (decide (v13 < v14)) = true then
    (some (.inr (-1)))
  else
    (if (decide (v13 > v14)) = true then
      (some (.inr 1))
    else
      (if (decide ((IntKind.i64.wrap (v6 - (IntKind.i64.wrap (v13 * v7)))) = 0)) = true then
        (if (decide ((IntKind.i64.wrap (v8 - (IntKind.i64.wrap (v14 * v9)))) = 0)) = true then
          (some (.inr 0))
        else
          (some (.inr (-1))))
      else
        (if (decide ((IntKind.i64.wrap (v8 - (IntKind.i64.wrap (v14 * v9)))) = 0)) = true then
          (some (.inr 1))
        else
          (some (.inl (v9, (IntKind.i64.wrap (v8 - (IntKind.i64.wrap (v14 * v9)))), v7, (IntKind.i64.wrap (v6 - (IntKind.i64.wrap (v13 * v7))))))))))
noncomputable def base_Compare (v1 : Int) (v2 : Int) (v3 : Int) (v4 : Int) : Option (Int) :=
  (run (base_Compare_l1) (v1, v2, v3, v4)).bind fun v15 =>
  some (v15)

end Go.Rex

namespace Go.Rex
open Go Go.Rex
noncomputable def law07_ArrayClaims (v1 : (List (List Int))) (v2 : Int) (v3 : Int) (v4 : (List Int)) (v5 : Int) (v6 : (List Int)) (v7 : (List Int)) (v8 : (List Int)) (v9 : Int) : Option Bool :=
  (law07_Small v1 v2).bind fun v11 =>
  if v11 = true then
    ((law07_short v3 v4 v5 v6 v7 v8).bind fun v12 =>
    if v12 = true then
      ((ref07_CopyTask v1 v2).bind fun (v13, v14) =>
      (ref07_CopyOpen v3 v4).bind fun (v15, v16) =>
      (array_CheckOpen v13 v14 v15 v16).bind fun (v17, v18, v19) =>
      (ref07_CopyTask v1 v2).bind fun (v20, v21) =>
      (ref07_CopyWeights v5 v6 v7 v8).bind fun (v22, v23, v24, v25) =>
      (array_CheckWeights v20 v21 v22 v23 v24 v25).bind fun (v26, v27, v28) =>
      (ref07_CopyTask v1 v2).bind fun (v29, v30) =>
      (ref07_CopyWeights v5 v6 v7 v8).bind fun (v31, v32, v33, v34) =>
      (array_CannotReach v29 v30 v9 v31 v32 v33 v34).bind fun v35 =>
      (ref07_CheckTask v1 v2).bind fun v36 =>
      (ref07_CopyTask v1 v2).bind fun (v37, v38) =>
      (array_CheckTask v37 v38).bind fun v39 =>
      if (decide (v39 ≠ v36)) = true then
        (some (false))
      else
        (if (decide (v36 ≠ 0)) = true then
          (if (decide (v19 = v36)) = true then
            (if (decide (v28 = v36)) = true then
              (if (decide (v35 = v36)) = true then
                (if ([v17 == 0, v18 == 0].all id) = true then
                  (some (([v26 == 0, v27 == 0].all id)))
                else
                  (some (false)))
              else
                (some (false)))
            else
              (some (false)))
          else
            (some (false)))
        else
          ((ref07_CheckOpen v1 v2 v3 v4).bind fun (v40, v41, v42) =>
          (ref07_CheckWeights v1 v2 v5 v6 v7 v8).bind fun (v43, v44, v45) =>
          if (decide (v19 ≠ v42)) = true then
            (some (false))
          else
            (if ([v17 == v40, v18 == v41].all id) = true then
              (if (decide (v28 ≠ v45)) = true then
                (some (false))
              else
                (if ([v26 == v43, v27 == v44].all id) = true then
                  ((base_Within v9 0 1000).bind fun v46 =>
                  if v46 = true then
                    (if (decide (v45 = 0)) = true then
                      ((base_Compare v43 v44 v9 1).bind fun v47 =>
                      if (decide (v47 ≥ 0)) = true then
                        (if (decide (v35 = 20)) = true then
                          (if (decide (v42 ≠ 0)) = true then
                            (some (true))
                          else
                            (if (decide (v45 ≠ 0)) = true then
                              (some (true))
                            else
                              ((base_Compare v17 v18 v26 v27).bind fun v48 =>
                              some ((decide (v48 ≤ 0))))))
                        else
                          (some (false)))
                      else
                        (if (decide (v35 = v45)) = true then
                          (if (decide (v42 ≠ 0)) = true then
                            (some (true))
                          else
                            (if (decide (v45 ≠ 0)) = true then
                              (some (true))
                            else
                              ((base_Compare v17 v18 v26 v27).bind fun v49 =>
                              some ((decide (v49 ≤ 0))))))
                        else
                          (some (false))))
                    else
                      (if (decide (v35 = v45)) = true then
                        (if (decide (v42 ≠ 0)) = true then
                          (some (true))
                        else
                          (if (decide (v45 ≠ 0)) = true then
                            (some (true))
                          else
                            ((base_Compare v17 v18 v26 v27).bind fun v50 =>
                            some ((decide (v50 ≤ 0))))))
                      else
                        (some (false))))
                  else
                    (if (decide (v35 = 2)) = true then
                      (if (decide (v42 ≠ 0)) = true then
                        (some (true))
                      else
                        (if (decide (v45 ≠ 0)) = true then
                          (some (true))
                        else
                          ((base_Compare v17 v18 v26 v27).bind fun v51 =>
                          some ((decide (v51 ≤ 0))))))
                    else
                      (some (false))))
                else
                  (some (false))))
            else
              (some (false))))))
    else
      (some (true)))
  else
    (some (true))

end Go.Rex

namespace Go.Rex
open Go Go.Rex
noncomputable def array_way_square (v1 : Int) (v2 : Int) (v3 : Int) (v4 : Int) (v5 : Int) (v6 : Int) : Option (Int) :=
  some ((IntKind.i64.wrap ((IntKind.i64.wrap ((IntKind.i64.wrap ((IntKind.i64.wrap (v4 - v1)) * (IntKind.i64.wrap (v4 - v1)))) + (IntKind.i64.wrap ((IntKind.i64.wrap (v5 - v2)) * (IntKind.i64.wrap (v5 - v2)))))) + (IntKind.i64.wrap ((IntKind.i64.wrap (v6 - v3)) * (IntKind.i64.wrap (v6 - v3)))))))

end Go.Rex

namespace Go.Rex
open Go Go.Rex
noncomputable def array_root_c1_d3d3 (v1 : Int) (v2 : Int) : Option (Bool) :=
  some ((decide ((IntKind.i64.wrap ((IntKind.i64.wrap (v1 + 1)) * (IntKind.i64.wrap (v1 + 1)))) > v2)))

end Go.Rex

namespace Go.Rex
open Go Go.Rex
noncomputable def sort_Search_2a44_l1 (v2 : Int) : (Int × Int) → Option ((Int × Int) ⊕ ((Int))) := fun (v4, v5) =>
  if (decide (v4 < v5)) = true then
    ((shI .shr .u64 (IntKind.u64.wrap (IntKind.i64.wrap (v4 + v5))) 1).bind fun v9 =>
    (array_root_c1_d3d3 (IntKind.i64.wrap v9) v2).bind fun v10 =>
    if v10 = true then
      (some (.inl (v4, (IntKind.i64.wrap v9))))
    else
      (some (.inl ((IntKind.i64.wrap ((IntKind.i64.wrap v9) + 1)), v5))))
  else
    (some (.inr v4))
noncomputable def sort_Search_2a44 (v1 : Int) (v2 : Int) : Option (Int) :=
  (run (sort_Search_2a44_l1 v2) (0, v1)).bind fun v11 =>
  some (v11)

end Go.Rex

namespace Go.Rex
open Go Go.Rex
noncomputable def array_root (v1 : Int) : Option (Int × Int) :=
  (sort_Search_2a44 2147483648 v1).bind fun v4 =>
  if (decide ((IntKind.i64.wrap (v4 * v4)) = v1)) = true then
    (some (v4, v4))
  else
    (some (v4, (IntKind.i64.wrap (v4 + 1))))

end Go.Rex

namespace Go.Rex
open Go Go.Rex
noncomputable def array_way_length (v1 : Int) (v2 : Int) (v3 : Int) (v4 : Int) (v5 : Int) (v6 : Int) : Option (Int × Int) :=
  (array_way_square v1 v2 v3 v4 v5 v6).bind fun v9 =>
  (array_root (IntKind.i64.wrap (1000000 * v9))).bind fun (v10, v11) =>
  some (v10, v11)

end Go.Rex

namespace Go.Rex
open Go Go.Rex
noncomputable def array_up (v1 : Int) (v2 : Int) : Option (Int) :=
  if v2 = 0 then none else
  (some ((IntKind.i64.wrap ((IntKind.i64.wrap ((IntKind.i64.wrap (v1 + v2)) - 1)).tdiv v2))))

end Go.Rex

namespace Go.Rex
open Go Go.Rex
noncomputable def array_scaled (v1 : Int) (v2 : Int) (v3 : Int) (v4 : Int) : Option (Int × Int) :=
  if v4 = 0 then none else
  ((array_up (IntKind.i64.wrap (v2 * v3)) v4).bind fun v7 =>
  some ((IntKind.i64.wrap ((IntKind.i64.wrap (v1 * v3)).tdiv v4)), v7))

end Go.Rex

namespace Go.Rex
open Go Go.Rex
noncomputable def array_way_numbers_c1 (v1 : Int) : Option (Int) :=
  some ((IntKind.i64.wrap ((IntKind.i64.wrap (v1 + 500)).tdiv 1000)))

end Go.Rex

namespace Go.Rex
open Go Go.Rex
noncomputable def array_way_numbers (v1 : Int) (v2 : Int) (v3 : Int) (v4 : Int) (v5 : Int) (v6 : Int) (v7 : Int) (v8 : Int) : Option (Int × Int) :=
  (array_way_length v1 v2 v3 v4 v5 v6).bind fun (v11, v12) =>
  (array_scaled v11 v12 v7 v8).bind fun (v13, v14) =>
  (array_way_numbers_c1 v13).bind fun v15 =>
  (array_way_numbers_c1 v14).bind fun v16 =>
  some (v15, v16)

end Go.Rex

namespace Go.Rex
open Go Go.Rex
noncomputable def array_way_strength (v1 : Int) (v2 : Int) (v3 : Int) (v4 : Int) (v5 : Int) (v6 : Int) : Option (Int × Int) :=
  (array_way_length v1 v2 v3 v4 v5 v6).bind fun (v9, v10) =>
  if v10 = 0 then none else
  ((array_up 1000000000 v9).bind fun v11 =>
  some ((IntKind.i64.wrap ((1000000000 : Int).tdiv v10)), v11))

end Go.Rex

namespace Go.Rex
open Go Go.Rex
noncomputable def array_way_apart (v1 : Int) (v2 : Int) (v3 : Int) (v4 : Int) (v5 : Int) (v6 : Int) : Option (Int) :=
  (array_way_square v1 v2 v3 v4 v5 v6).bind fun v8 =>
  (array_refuse (decide (v8 < 100)) 11).bind fun (v9, v10) =>
  (array_refuse_c1_11f9 v9 v10).bind fun v11 =>
  some (v11)

end Go.Rex

namespace Go.Rex
open Go Go.Rex
noncomputable def array_rig_sound (v1 : Int) (v2 : Int) (v3 : (List (Int × Int × Int × Int × Int))) : Option (Int × Int) :=
  some (v1, v2)

end Go.Rex

namespace Go.Rex
open Go Go.Rex
noncomputable def array_audible (v1 : Int) (v2 : Int) : Option (Int × Int) :=
  some (v1, v2)

end Go.Rex

namespace Go.Rex
open Go Go.Rex
noncomputable def array_audible_c1_eebc (v1 : Int) (v2 : Int) : Option (Int) :=
  (array_within v1 8000 192000).bind fun (v4, v5) =>
  (array_within v2 30000 40000).bind fun (v6, v7) =>
  (array_firstError_751b v4 v5 v6 v7).bind fun v8 =>
  some (v8)

end Go.Rex

namespace Go.Rex
open Go Go.Rex
noncomputable def array_firstError_2e50 (v1 : Int) (v2 : Int) (v3 : Int) (v4 : Int) : Option (Int) :=
  (array_audible_c1_eebc v1 v2).bind fun v6 =>
  if (decide (v6 ≠ 0)) = true then
    (some (v6))
  else
    ((array_counted_c1_b585 v3 v4).bind fun v7 =>
    if (decide (v7 ≠ 0)) = true then
      (some (v7))
    else
      (some (0)))

end Go.Rex

namespace Go.Rex
open Go Go.Rex
noncomputable def array_placed (v1 : Int) (v2 : Int) (v3 : Int) : Option (Int × (List Int) × Int × Int) :=
  (array_allWithin ([v1, v2, v3] : List Int) (-5000) 5000).bind fun (v8, v9, v10, v11) =>
  some (v8, v9, v10, v11)

end Go.Rex

namespace Go.Rex
open Go Go.Rex
noncomputable def array_adjusted (v1 : Int) (v2 : Int) : Option (Int × Int) :=
  some (v1, v2)

end Go.Rex

namespace Go.Rex
open Go Go.Rex
noncomputable def array_adjusted_c1_b585 (v1 : Int) (v2 : Int) : Option (Int) :=
  (array_within v1 0 1000).bind fun (v4, v5) =>
  (array_within v2 0 10000).bind fun (v6, v7) =>
  (array_firstError_751b v4 v5 v6 v7).bind fun v8 =>
  some (v8)

end Go.Rex

namespace Go.Rex
open Go Go.Rex
noncomputable def array_firstError_34f2 (v1 : Int) (v2 : (List Int)) (v3 : Int) (v4 : Int) (v5 : Int) (v6 : Int) : Option (Int) :=
  (array_each_c1_6239 v1 v2 v3 v4).bind fun v8 =>
  if (decide (v8 ≠ 0)) = true then
    (some (v8))
  else
    ((array_adjusted_c1_b585 v5 v6).bind fun v9 =>
    if (decide (v9 ≠ 0)) = true then
      (some (v9))
    else
      (some (0)))

end Go.Rex

namespace Go.Rex
open Go Go.Rex
noncomputable def array_CheckArray_l1 (v3 : (List (Int × Int × Int × Int × Int))) : (Int) → Option ((Int) ⊕ ((Int × Int) ⊕ (Unit))) := fun v13 =>
  if (decide (v13 < (v3.length : Int))) = true then
    ((getI v3 v13).bind fun (v28, v29, v30, v31, v32) =>
    (array_placed v28 v29 v30).bind fun (v33, v34, v35, v36) =>
    (array_adjusted v31 v32).bind fun (v37, v38) =>
    (array_firstError_34f2 v33 v34 v35 v36 v37 v38).bind fun v39 =>
    if (decide (v39 ≠ 0)) = true then
      (some (.inr (.inl (v13, v39))))
    else
      (some (.inl (IntKind.i64.wrap (v13 + 1)))))
  else
    (some (.inr (.inr ())))
noncomputable def array_CheckArray (v1 : Int) (v2 : Int) (v3 : (List (Int × Int × Int × Int × Int))) : Option (Int × Int) :=
  (array_rig_sound v1 v2 v3).bind fun (v6, v7) =>
  (array_audible v6 v7).bind fun (v8, v9) =>
  (array_counted (v3.length : Int) 8).bind fun (v10, v11) =>
  (array_firstError_2e50 v8 v9 v10 v11).bind fun v12 =>
  if (decide (v12 ≠ 0)) = true then
    (some (0, v12))
  else
    ((run (array_CheckArray_l1 v3) 0).bind fun v40 => match v40 with
    | (.inl (v41, v42)) =>
      some (v41, v42)
    | (.inr _) =>
      some (0, 0))

end Go.Rex

namespace Go.Rex
open Go Go.Rex
noncomputable def array_rig_check (v1 : Int) (v2 : Int) (v3 : (List (Int × Int × Int × Int × Int))) : Option (Int) :=
  (array_CheckArray v1 v2 v3).bind fun (v5, v6) =>
  some (v6)

end Go.Rex

namespace Go.Rex
open Go Go.Rex
noncomputable def array_each_a530 (v1 : Int) (v2 : Int) (v3 : Int) (v4 : (List (Int × Int × Int × Int × Int))) (v5 : Int) (v6 : Int) (v7 : Int) : Option (Int × Int × Int × (List (Int × Int × Int × Int × Int)) × Int × Int × Int) :=
  some (v1, v2, v3, v4, v5, v6, v7)

end Go.Rex

namespace Go.Rex
open Go Go.Rex
noncomputable def array_heard_wayFrom (v1 : Int) (v2 : Int) (v3 : (List (Int × Int × Int × Int × Int))) (v4 : Int) (v5 : Int) (v6 : Int) (v7 : Int) (v8 : Int) (v9 : Int) (v10 : Int) (v11 : Int) : Option (Int × Int × Int × Int × Int × Int) :=
  some (v7, v8, v9, v4, v5, v6)

end Go.Rex

namespace Go.Rex
open Go Go.Rex
noncomputable def array_heard_seated_c1_09d0 (v1 : Int) (v2 : Int) (v3 : Int) (v4 : (List (Int × Int × Int × Int × Int))) (v5 : Int) (v6 : Int) (v7 : Int) : Option (Int) :=
  (getI v4 v1).bind fun (v9, v10, v11, v12, v13) =>
  (array_heard_wayFrom v2 v3 v4 v5 v6 v7 v9 v10 v11 v12 v13).bind fun (v14, v15, v16, v17, v18, v19) =>
  (array_way_apart v14 v15 v16 v17 v18 v19).bind fun v20 =>
  some (v20)

end Go.Rex

namespace Go.Rex
open Go Go.Rex
noncomputable def array_each_c1_d3aa_l1 (v1 : Int) (v2 : Int) (v3 : Int) (v4 : (List (Int × Int × Int × Int × Int))) (v5 : Int) (v6 : Int) (v7 : Int) : (Int) → Option ((Int) ⊕ ((Int) ⊕ (Unit))) := fun v9 =>
  if (decide (v9 < v1)) = true then
    ((array_heard_seated_c1_09d0 v9 v2 v3 v4 v5 v6 v7).bind fun v12 =>
    if (decide (v12 ≠ 0)) = true then
      (some (.inr (.inl v12)))
    else
      (some (.inl (IntKind.i64.wrap (v9 + 1)))))
  else
    (some (.inr (.inr ())))
noncomputable def array_each_c1_d3aa (v1 : Int) (v2 : Int) (v3 : Int) (v4 : (List (Int × Int × Int × Int × Int))) (v5 : Int) (v6 : Int) (v7 : Int) : Option (Int) :=
  (run (array_each_c1_d3aa_l1 v1 v2 v3 v4 v5 v6 v7) 0).bind fun v13 => match v13 with
  | (.inl v14) =>
    some (v14)
  | (.inr _) =>
    some (0)

end Go.Rex

namespace Go.Rex
open Go Go.Rex
noncomputable def array_firstError_71a7 (v1 : Int) (v2 : (List Int)) (v3 : Int) (v4 : Int) (v5 : Int) (v6 : Int) (v7 : Int) (v8 : (List (Int × Int × Int × Int × Int))) (v9 : Int) (v10 : Int) (v11 : Int) : Option (Int) :=
  (array_each_c1_6239 v1 v2 v3 v4).bind fun v13 =>
  if (decide (v13 ≠ 0)) = true then
    (some (v13))
  else
    ((array_each_c1_d3aa v5 v6 v7 v8 v9 v10 v11).bind fun v14 =>
    if (decide (v14 ≠ 0)) = true then
      (some (v14))
    else
      (some (0)))

end Go.Rex

namespace Go.Rex
open Go Go.Rex
noncomputable def array_heard_seated (v1 : Int) (v2 : Int) (v3 : (List (Int × Int × Int × Int × Int))) (v4 : Int) (v5 : Int) (v6 : Int) : Option (Int) :=
  (array_placed v4 v5 v6).bind fun (v8, v9, v10, v11) =>
  (array_each_a530 (v3.length : Int) v1 v2 v3 v4 v5 v6).bind fun (v12, v13, v14, v15, v16, v17, v18) =>
  (array_firstError_71a7 v8 v9 v10 v11 v12 v13 v14 v15 v16 v17 v18).bind fun v19 =>
  some (v19)

end Go.Rex

namespace Go.Rex
open Go Go.Rex
noncomputable def array_firstError_05b8 (v1 : Int) (v2 : Int) (v3 : (List (Int × Int × Int × Int × Int))) (v4 : Int) (v5 : Int) (v6 : (List (Int × Int × Int × Int × Int))) (v7 : Int) (v8 : Int) (v9 : Int) : Option (Int) :=
  (array_rig_check v1 v2 v3).bind fun v11 =>
  if (decide (v11 ≠ 0)) = true then
    (some (v11))
  else
    ((array_heard_seated v4 v5 v6 v7 v8 v9).bind fun v12 =>
    if (decide (v12 ≠ 0)) = true then
      (some (v12))
    else
      (some (0)))

end Go.Rex

namespace Go.Rex
open Go Go.Rex
noncomputable def law07_few (v1 : Int) (v2 : Int) (v3 : (List (Int × Int × Int × Int × Int))) : Option (Bool) :=
  some ((decide ((v3.length : Int) ≤ 10)))

end Go.Rex

namespace Go.Rex
open Go Go.Rex
noncomputable def ref07_Copy (v1 : Int) (v2 : Int) (v3 : (List (Int × Int × Int × Int × Int))) : Option (Int × Int × (List (Int × Int × Int × Int × Int))) :=
  (appI 40 ([] : List (Int × Int × Int × Int × Int)) v3).bind fun v7 =>
  some (v1, v2, v7)

end Go.Rex

namespace Go.Rex
open Go Go.Rex
noncomputable def array_firstError_ed22 (v1 : Int) (v2 : Int) (v3 : (List (Int × Int × Int × Int × Int))) (v4 : Bool) (v5 : Int) : Option (Int) :=
  (array_rig_check v1 v2 v3).bind fun v7 =>
  if (decide (v7 ≠ 0)) = true then
    (some (v7))
  else
    ((array_refuse_c1_11f9 v4 v5).bind fun v8 =>
    if (decide (v8 ≠ 0)) = true then
      (some (v8))
    else
      (some (0)))

end Go.Rex

namespace Go.Rex
open Go Go.Rex
noncomputable def slices_Clone_api_ArraySpeaker_api_ArraySpeaker (v1 : (List (Int × Int × Int × Int × Int))) : Option ((List (Int × Int × Int × Int × Int))) :=
  nilq v1
    (some (([] : List (Int × Int × Int × Int × Int))))
    ((appI 40 ([] : List (Int × Int × Int × Int × Int)) v1).bind fun v3 =>
    some (v3))

end Go.Rex

namespace Go.Rex
open Go Go.Rex
noncomputable def array_rig_copied (v1 : Int) (v2 : Int) (v3 : (List (Int × Int × Int × Int × Int))) : Option (Int × Int × (List (Int × Int × Int × Int × Int))) :=
  (slices_Clone_api_ArraySpeaker_api_ArraySpeaker v3).bind fun v7 =>
  some (v1, v2, v7)

end Go.Rex

namespace Go.Rex
open Go Go.Rex
noncomputable def array_Muted (v1 : Int) (v2 : Int) (v3 : (List (Int × Int × Int × Int × Int))) (v4 : Int) : Option (Int × Int × (List (Int × Int × Int × Int × Int)) × Int) :=
  if (decide (0 ≤ v4)) = true then
    ((array_refuse (!(decide (v4 < (v3.length : Int)))) 6).bind fun (v9, v10) =>
    (array_firstError_ed22 v1 v2 v3 v9 v10).bind fun v11 =>
    if (decide (v11 ≠ 0)) = true then
      (some (0, 0, ([] : List (Int × Int × Int × Int × Int)), v11))
    else
      ((array_rig_copied v1 v2 v3).bind fun (v12, v13, v14) =>
      (getI v14 v4).bind fun (v15, v16, v17, v18, v19) =>
      some (v12, v13, (v14.set v4.toNat (v15, v16, v17, 0, v19)), 0)))
  else
    ((array_refuse true 6).bind fun (v20, v21) =>
    (array_firstError_ed22 v1 v2 v3 v20 v21).bind fun v22 =>
    if (decide (v22 ≠ 0)) = true then
      (some (0, 0, ([] : List (Int × Int × Int × Int × Int)), v22))
    else
      ((array_rig_copied v1 v2 v3).bind fun (v23, v24, v25) =>
      (getI v25 v4).bind fun (v26, v27, v28, v29, v30) =>
      some (v23, v24, (v25.set v4.toNat (v26, v27, v28, 0, v30)), 0)))

end Go.Rex

namespace Go.Rex
open Go Go.Rex
noncomputable def ref07_Sound (v1 : Int) (v2 : Int) (v3 : (List (Int × Int × Int × Int × Int))) : Option (Int × Int) :=
  some (v1, v2)

end Go.Rex

namespace Go.Rex
open Go Go.Rex
noncomputable def ref07_SoundErr (v1 : Int) (v2 : Int) : Option (Int) :=
  (base_Within v1 8000 192000).bind fun v4 =>
  if v4 = true then
    ((base_Within v2 30000 40000).bind fun v5 =>
    if v5 = true then
      (some (0))
    else
      (some (2)))
  else
    (some (2))

end Go.Rex

namespace Go.Rex
open Go Go.Rex
noncomputable def ref07_PlaceErr (v1 : Int) (v2 : Int) (v3 : Int) : Option (Int) :=
  (base_Within v1 (-5000) 5000).bind fun v5 =>
  if v5 = true then
    ((base_Within v2 (-5000) 5000).bind fun v6 =>
    if v6 = true then
      ((base_Within v3 (-5000) 5000).bind fun v7 =>
      if v7 = true then
        (some (0))
      else
        (some (2)))
    else
      (some (2)))
  else
    (some (2))

end Go.Rex

namespace Go.Rex
open Go Go.Rex
noncomputable def ref07_GainErr (v1 : Int) (v2 : Int) : Option (Int) :=
  (base_Within v1 0 1000).bind fun v4 =>
  if v4 = true then
    ((base_Within v2 0 10000).bind fun v5 =>
    if v5 = true then
      (some (0))
    else
      (some (2)))
  else
    (some (2))

end Go.Rex

namespace Go.Rex
open Go Go.Rex
noncomputable def ref07_CheckArray_l1 (v3 : (List (Int × Int × Int × Int × Int))) : (Int) → Option ((Int) ⊕ ((Int) ⊕ (Unit))) := fun v9 =>
  if (decide (v9 < (v3.length : Int))) = true then
    ((getI v3 v9).bind fun (v18, v19, v20, v21, v22) =>
    (ref07_PlaceErr v18 v19 v20).bind fun v23 =>
    if (decide (v23 ≠ 0)) = true then
      (some (.inr (.inl v9)))
    else
      ((ref07_GainErr v21 v22).bind fun v24 =>
      if (decide (v24 ≠ 0)) = true then
        (some (.inr (.inl v9)))
      else
        (some (.inl (IntKind.i64.wrap (v9 + 1))))))
  else
    (some (.inr (.inr ())))
noncomputable def ref07_CheckArray (v1 : Int) (v2 : Int) (v3 : (List (Int × Int × Int × Int × Int))) : Option (Int × Int) :=
  (ref07_Sound v1 v2 v3).bind fun (v6, v7) =>
  (ref07_SoundErr v6 v7).bind fun v8 =>
  if (decide (v8 ≠ 0)) = true then
    (some (0, v8))
  else
    (if (decide ((v3.length : Int) = 0)) = true then
      (some (0, 10))
    else
      (if (decide ((v3.length : Int) > 8)) = true then
        (some (0, 8))
      else
        ((run (ref07_CheckArray_l1 v3) 0).bind fun v25 => match v25 with
        | (.inl v26) =>
          some (v26, 2)
        | (.inr _) =>
          some (0, 0))))

end Go.Rex

namespace Go.Rex
open Go Go.Rex
noncomputable def ref07_Same_1134_l1 (v3 : (List (Int × Int × Int × Int × Int))) : (Unit) → Option ((Unit) ⊕ ((Unit))) := fun _ =>
  if (decide (0 < (v3.length : Int))) = true then
    ((getI v3 0).bind fun (v12, v13, v14, v15, v16) =>
    none)
  else
    (some (.inr ()))
noncomputable def ref07_Same_1134 (v1 : Int) (v2 : Int) (v3 : (List (Int × Int × Int × Int × Int))) (v4 : Int) (v5 : Int) : Option (Bool) :=
  if (decide (v1 ≠ v4)) = true then
    (some (false))
  else
    (if (decide (v2 ≠ v5)) = true then
      (some (false))
    else
      (if (decide ((v3.length : Int) ≠ 0)) = true then
        (some (false))
      else
        ((run (ref07_Same_1134_l1 v3) ()).bind fun _ =>
        some (true))))

end Go.Rex

namespace Go.Rex
open Go Go.Rex
noncomputable def ref07_Same_l1 (v3 : (List (Int × Int × Int × Int × Int))) (v6 : (List (Int × Int × Int × Int × Int))) : (Int) → Option ((Int) ⊕ ((Unit) ⊕ (Unit))) := fun v8 =>
  if (decide (v8 < (v3.length : Int))) = true then
    ((getI v3 v8).bind fun (v19, v20, v21, v22, v23) =>
    (getI v6 v8).bind fun (v24, v25, v26, v27, v28) =>
    if ([[v19 == v24, v20 == v25, v21 == v26].all id, v22 == v27, v23 == v28].all id) = true then
      (some (.inl (IntKind.i64.wrap (v8 + 1))))
    else
      (some (.inr (.inl ()))))
  else
    (some (.inr (.inr ())))
noncomputable def ref07_Same (v1 : Int) (v2 : Int) (v3 : (List (Int × Int × Int × Int × Int))) (v4 : Int) (v5 : Int) (v6 : (List (Int × Int × Int × Int × Int))) : Option (Bool) :=
  if (decide (v1 ≠ v4)) = true then
    (some (false))
  else
    (if (decide (v2 ≠ v5)) = true then
      (some (false))
    else
      (if (decide ((v3.length : Int) ≠ (v6.length : Int))) = true then
        (some (false))
      else
        ((run (ref07_Same_l1 v3 v6) 0).bind fun v29 => match v29 with
        | (.inl _) =>
          some (false)
        | (.inr _) =>
          some (true))))

end Go.Rex

namespace Go.Rex
open Go Go.Rex
noncomputable def law07_ArrayChecks (v1 : Int) (v2 : Int) (v3 : (List (Int × Int × Int × Int × Int))) (v4 : Int) : Option Bool :=
  (law07_few v1 v2 v3).bind fun v6 =>
  if v6 = true then
    ((ref07_Copy v1 v2 v3).bind fun (v7, v8, v9) =>
    (array_CheckArray v7 v8 v9).bind fun (v10, v11) =>
    (ref07_Copy v1 v2 v3).bind fun (v12, v13, v14) =>
    (array_Muted v12 v13 v14 v4).bind fun (v15, v16, v17, v18) =>
    (ref07_CheckArray v1 v2 v3).bind fun (v19, v20) =>
    if (decide (v11 ≠ v20)) = true then
      (some (false))
    else
      (if (decide (v10 ≠ v19)) = true then
        (some (false))
      else
        (if (decide (v20 = 0)) = true then
          ((base_Within v4 0 (IntKind.i64.wrap ((v3.length : Int) - 1))).bind fun v21 =>
          if v21 = true then
            (if (decide (v20 ≠ 0)) = true then
              (if (decide (v18 = v20)) = true then
                ((ref07_Same_1134 v15 v16 v17 0 0).bind fun v22 =>
                some (v22))
              else
                (some (false)))
            else
              ((ref07_Copy v1 v2 v3).bind fun (v23, v24, v25) =>
              (getI v25 v4).bind fun (v26, v27, v28, v29, v30) =>
              if (decide (v18 = 0)) = true then
                ((ref07_Same v15 v16 v17 v23 v24 (v25.set v4.toNat (v26, v27, v28, 0, v30))).bind fun v31 =>
                some (v31))
              else
                (some (false))))
          else
            (if (decide (v18 = 6)) = true then
              ((ref07_Same_1134 v15 v16 v17 0 0).bind fun v32 =>
              some (v32))
            else
              (some (false))))
        else
          (if (decide (v20 ≠ 0)) = true then
            (if (decide (v18 = v20)) = true then
              ((ref07_Same_1134 v15 v16 v17 0 0).bind fun v33 =>
              some (v33))
            else
              (some (false)))
          else
            ((ref07_Copy v1 v2 v3).bind fun (v34, v35, v36) =>
            (getI v36 v4).bind fun (v37, v38, v39, v40, v41) =>
            if (decide (v18 = 0)) = true then
              ((ref07_Same v15 v16 v17 v34 v35 (v36.set v4.toNat (v37, v38, v39, 0, v41))).bind fun v42 =>
              some (v42))
            else
              (some (false)))))))
  else
    (some (true))

end Go.Rex

namespace Go.Rex
open Go Go.Rex
noncomputable def base_Root_l1 (v1 : Int) : (Int × Int) → Option ((Int × Int) ⊕ ((Int))) := fun (v3, v4) =>
  if (decide (v4 > 0)) = true then
    (if (decide ((IntKind.i64.wrap ((IntKind.i64.wrap (v3 + v4)) * (IntKind.i64.wrap (v3 + v4)))) ≤ v1)) = true then
      (some (.inl ((IntKind.i64.wrap (v3 + v4)), (IntKind.i64.wrap (v4.tdiv 2)))))
    else
      (some (.inl (v3, (IntKind.i64.wrap (v4.tdiv 2))))))
  else
    (some (.inr v3))
noncomputable def base_Root (v1 : Int) : Option (Int) :=
  (run (base_Root_l1 v1) (0, 1073741824)).bind fun v6 =>
  some (v6)

end Go.Rex

namespace Go.Rex
open Go Go.Rex
noncomputable def base_RootUp (v1 : Int) : Option (Int) :=
  (base_Root v1).bind fun v3 =>
  if (decide ((IntKind.i64.wrap (v3 * v3)) < v1)) = true then
    (some ((IntKind.i64.wrap (v3 + 1))))
  else
    (some (v3))

end Go.Rex

namespace Go.Rex
open Go Go.Rex
noncomputable def base_Ceil (v1 : Int) (v2 : Int) : Option (Int) :=
  (base_Floor (IntKind.i64.wrap (0 - v1)) v2).bind fun v4 =>
  some ((IntKind.i64.wrap (0 - v4)))

end Go.Rex

namespace Go.Rex
open Go Go.Rex
noncomputable def array_firstError_6760 (v1 : Int) (v2 : (List Int)) (v3 : Int) (v4 : Int) (v5 : Int) (v6 : (List Int)) (v7 : Int) (v8 : Int) : Option (Int) :=
  (array_each_c1_6239 v1 v2 v3 v4).bind fun v10 =>
  if (decide (v10 ≠ 0)) = true then
    (some (v10))
  else
    ((array_each_c1_6239 v5 v6 v7 v8).bind fun v11 =>
    if (decide (v11 ≠ 0)) = true then
      (some (v11))
    else
      (some (0)))

end Go.Rex

namespace Go.Rex
open Go Go.Rex
noncomputable def array_way_check (v1 : Int) (v2 : Int) (v3 : Int) (v4 : Int) (v5 : Int) (v6 : Int) : Option (Int) :=
  (array_placed v1 v2 v3).bind fun (v8, v9, v10, v11) =>
  (array_placed v4 v5 v6).bind fun (v12, v13, v14, v15) =>
  (array_firstError_6760 v8 v9 v10 v11 v12 v13 v14 v15).bind fun v16 =>
  some (v16)

end Go.Rex

namespace Go.Rex
open Go Go.Rex
noncomputable def array_firstError_660f (v1 : Int) (v2 : Int) (v3 : Int) (v4 : Int) (v5 : Int) (v6 : Int) (v7 : Int) (v8 : Int) : Option (Int) :=
  (array_way_check v1 v2 v3 v4 v5 v6).bind fun v10 =>
  if (decide (v10 ≠ 0)) = true then
    (some (v10))
  else
    ((array_audible_c1_eebc v7 v8).bind fun v11 =>
    if (decide (v11 ≠ 0)) = true then
      (some (v11))
    else
      (some (0)))

end Go.Rex

namespace Go.Rex
open Go Go.Rex
noncomputable def array_way_travel (v1 : Int) (v2 : Int) (v3 : Int) (v4 : Int) (v5 : Int) (v6 : Int) (v7 : Int) (v8 : Int) : Option (Int × Int) :=
  (array_way_length v1 v2 v3 v4 v5 v6).bind fun (v11, v12) =>
  (array_scaled v11 v12 v7 (IntKind.i64.wrap (1000 * v8))).bind fun (v13, v14) =>
  some (v13, v14)

end Go.Rex

namespace Go.Rex
open Go Go.Rex
noncomputable def array_Travel (v1 : Int) (v2 : Int) (v3 : Int) (v4 : Int) (v5 : Int) (v6 : Int) (v7 : Int) (v8 : Int) : Option (Int × Int × Int) :=
  (array_audible v7 v8).bind fun (v12, v13) =>
  (array_firstError_660f v1 v2 v3 v4 v5 v6 v12 v13).bind fun v14 =>
  if (decide (v14 ≠ 0)) = true then
    (some (0, 0, v14))
  else
    ((array_way_travel v1 v2 v3 v4 v5 v6 v7 v8).bind fun (v15, v16) =>
    some (v15, v16, 0))

end Go.Rex

namespace Go.Rex
open Go Go.Rex
noncomputable def array_NumbersOf (v1 : Int) (v2 : Int) (v3 : Int) (v4 : Int) (v5 : Int) (v6 : Int) (v7 : Int) (v8 : Int) : Option (Int × Int × Int) :=
  (array_audible v7 v8).bind fun (v12, v13) =>
  (array_firstError_660f v1 v2 v3 v4 v5 v6 v12 v13).bind fun v14 =>
  if (decide (v14 ≠ 0)) = true then
    (some (0, 0, v14))
  else
    ((array_way_numbers v1 v2 v3 v4 v5 v6 v7 v8).bind fun (v15, v16) =>
    some (v15, v16, 0))

end Go.Rex

namespace Go.Rex
open Go Go.Rex
noncomputable def array_firstError_937b (v1 : Int) (v2 : Int) (v3 : Int) (v4 : Int) (v5 : Int) (v6 : Int) (v7 : Int) (v8 : Int) (v9 : Int) (v10 : Int) (v11 : Int) (v12 : Int) : Option (Int) :=
  (array_way_check v1 v2 v3 v4 v5 v6).bind fun v14 =>
  if (decide (v14 ≠ 0)) = true then
    (some (v14))
  else
    ((array_way_apart v7 v8 v9 v10 v11 v12).bind fun v15 =>
    if (decide (v15 ≠ 0)) = true then
      (some (v15))
    else
      (some (0)))

end Go.Rex

namespace Go.Rex
open Go Go.Rex
noncomputable def array_Strength (v1 : Int) (v2 : Int) (v3 : Int) (v4 : Int) (v5 : Int) (v6 : Int) : Option (Int × Int × Int) :=
  (array_firstError_937b v1 v2 v3 v4 v5 v6 v1 v2 v3 v4 v5 v6).bind fun v10 =>
  if (decide (v10 ≠ 0)) = true then
    (some (0, 0, v10))
  else
    ((array_way_strength v1 v2 v3 v4 v5 v6).bind fun (v11, v12) =>
    some (v11, v12, 0))

end Go.Rex

namespace Go.Rex
open Go Go.Rex
noncomputable def ref07_square (v1 : Int) (v2 : Int) (v3 : Int) (v4 : Int) (v5 : Int) (v6 : Int) : Option (Int) :=
  some ((IntKind.i64.wrap ((IntKind.i64.wrap ((IntKind.i64.wrap ((IntKind.i64.wrap (v1 - v4)) * (IntKind.i64.wrap (v1 - v4)))) + (IntKind.i64.wrap ((IntKind.i64.wrap (v2 - v5)) * (IntKind.i64.wrap (v2 - v5)))))) + (IntKind.i64.wrap ((IntKind.i64.wrap (v3 - v6)) * (IntKind.i64.wrap (v3 - v6)))))))

end Go.Rex

namespace Go.Rex
open Go Go.Rex
noncomputable def ref07_Near (v1 : Int) (v2 : Int) (v3 : Int) (v4 : Int) (v5 : Int) (v6 : Int) : Option (Bool) :=
  (ref07_square v1 v2 v3 v4 v5 v6).bind fun v8 =>
  some ((decide (v8 < 100)))

end Go.Rex

namespace Go.Rex
open Go Go.Rex
noncomputable def ref07_milli (v1 : Int) (v2 : Int) (v3 : Int) (v4 : Int) (v5 : Int) (v6 : Int) : Option (Int × Int) :=
  (ref07_square v1 v2 v3 v4 v5 v6).bind fun v9 =>
  (base_Root (IntKind.i64.wrap (1000000 * v9))).bind fun v10 =>
  (base_RootUp (IntKind.i64.wrap (1000000 * v9))).bind fun v11 =>
  some (v10, v11)

end Go.Rex

namespace Go.Rex
open Go Go.Rex
noncomputable def ref07_Travel (v1 : Int) (v2 : Int) (v3 : Int) (v4 : Int) (v5 : Int) (v6 : Int) (v7 : Int) (v8 : Int) : Option (Int × Int) :=
  (ref07_milli v1 v2 v3 v4 v5 v6).bind fun (v11, v12) =>
  (base_Floor (IntKind.i64.wrap (v11 * v7)) (IntKind.i64.wrap (1000 * v8))).bind fun v13 =>
  (base_Ceil (IntKind.i64.wrap (v12 * v7)) (IntKind.i64.wrap (1000 * v8))).bind fun v14 =>
  some (v13, v14)

end Go.Rex

namespace Go.Rex
open Go Go.Rex
noncomputable def ref07_NumbersOf (v1 : Int) (v2 : Int) (v3 : Int) (v4 : Int) (v5 : Int) (v6 : Int) (v7 : Int) (v8 : Int) : Option (Int × Int) :=
  (ref07_milli v1 v2 v3 v4 v5 v6).bind fun (v11, v12) =>
  (base_Floor (IntKind.i64.wrap (v11 * v7)) v8).bind fun v13 =>
  (base_Floor (IntKind.i64.wrap (v13 + 500)) 1000).bind fun v14 =>
  (base_Ceil (IntKind.i64.wrap (v12 * v7)) v8).bind fun v15 =>
  (base_Floor (IntKind.i64.wrap (v15 + 500)) 1000).bind fun v16 =>
  some (v14, v16)

end Go.Rex

namespace Go.Rex
open Go Go.Rex
noncomputable def ref07_Strength (v1 : Int) (v2 : Int) (v3 : Int) (v4 : Int) (v5 : Int) (v6 : Int) : Option (Int × Int) :=
  (ref07_milli v1 v2 v3 v4 v5 v6).bind fun (v9, v10) =>
  (base_Floor 1000000000 v10).bind fun v11 =>
  (base_Ceil 1000000000 v9).bind fun v12 =>
  some (v11, v12)

end Go.Rex

namespace Go.Rex
open Go Go.Rex
noncomputable def law07_ArrayWays (v1 : Int) (v2 : Int) (v3 : Int) (v4 : Int) (v5 : Int) (v6 : Int) (v7 : Int) (v8 : Int) : Option Bool :=
  (array_Travel v1 v2 v3 v4 v5 v6 v7 v8).bind fun (v10, v11, v12) =>
  (array_NumbersOf v1 v2 v3 v4 v5 v6 v7 v8).bind fun (v13, v14, v15) =>
  (array_Strength v1 v2 v3 v4 v5 v6).bind fun (v16, v17, v18) =>
  (ref07_PlaceErr v1 v2 v3).bind fun v19 =>
  if (decide (v19 = 0)) = true then
    ((ref07_PlaceErr v4 v5 v6).bind fun v20 =>
    if (decide (v20 ≠ 0)) = true then
      (if (decide (v12 = v20)) = true then
        (if (decide (v15 = v20)) = true then
          (if (decide (v18 = v20)) = true then
            (if ([v10 == 0, v11 == 0].all id) = true then
              (if ([v13 == 0, v14 == 0].all id) = true then
                (some (([v16 == 0, v17 == 0].all id)))
              else
                (some (false)))
            else
              (some (false)))
          else
            (some (false)))
        else
          (some (false)))
      else
        (some (false)))
    else
      ((ref07_Near v1 v2 v3 v4 v5 v6).bind fun v21 =>
      if v21 = true then
        (if (decide (v18 ≠ 11)) = true then
          (some (false))
        else
          (if ([v16 == 0, v17 == 0].all id) = true then
            ((ref07_SoundErr v7 v8).bind fun v22 =>
            if (decide (v22 ≠ 0)) = true then
              (if (decide (v12 = v22)) = true then
                (if (decide (v15 = v22)) = true then
                  (if ([v10 == 0, v11 == 0].all id) = true then
                    (some (([v13 == 0, v14 == 0].all id)))
                  else
                    (some (false)))
                else
                  (some (false)))
              else
                (some (false)))
            else
              ((array_Travel v4 v5 v6 v1 v2 v3 v7 v8).bind fun (v23, v24, v25) =>
              if (decide (v12 = 0)) = true then
                ((ref07_Travel v1 v2 v3 v4 v5 v6 v7 v8).bind fun (v26, v27) =>
                if ([v10 == v26, v11 == v27].all id) = true then
                  (if (decide (v15 = 0)) = true then
                    ((ref07_NumbersOf v1 v2 v3 v4 v5 v6 v7 v8).bind fun (v28, v29) =>
                    if ([v13 == v28, v14 == v29].all id) = true then
                      (if (decide (v25 = 0)) = true then
                        (some (([v23 == v10, v24 == v11].all id)))
                      else
                        (some (false)))
                    else
                      (some (false)))
                  else
                    (some (false)))
                else
                  (some (false)))
              else
                (some (false))))
          else
            (some (false))))
      else
        ((array_Strength v4 v5 v6 v1 v2 v3).bind fun (v30, v31, v32) =>
        if (decide (v18 ≠ 0)) = true then
          (some (false))
        else
          ((ref07_Strength v1 v2 v3 v4 v5 v6).bind fun (v33, v34) =>
          if ([v16 == v33, v17 == v34].all id) = true then
            (if (decide (v32 ≠ 0)) = true then
              (some (false))
            else
              (if ([v30 == v16, v31 == v17].all id) = true then
                ((ref07_SoundErr v7 v8).bind fun v35 =>
                if (decide (v35 ≠ 0)) = true then
                  (if (decide (v12 = v35)) = true then
                    (if (decide (v15 = v35)) = true then
                      (if ([v10 == 0, v11 == 0].all id) = true then
                        (some (([v13 == 0, v14 == 0].all id)))
                      else
                        (some (false)))
                    else
                      (some (false)))
                  else
                    (some (false)))
                else
                  ((array_Travel v4 v5 v6 v1 v2 v3 v7 v8).bind fun (v36, v37, v38) =>
                  if (decide (v12 = 0)) = true then
                    ((ref07_Travel v1 v2 v3 v4 v5 v6 v7 v8).bind fun (v39, v40) =>
                    if ([v10 == v39, v11 == v40].all id) = true then
                      (if (decide (v15 = 0)) = true then
                        ((ref07_NumbersOf v1 v2 v3 v4 v5 v6 v7 v8).bind fun (v41, v42) =>
                        if ([v13 == v41, v14 == v42].all id) = true then
                          (if (decide (v38 = 0)) = true then
                            (some (([v36 == v10, v37 == v11].all id)))
                          else
                            (some (false)))
                        else
                          (some (false)))
                      else
                        (some (false)))
                    else
                      (some (false)))
                  else
                    (some (false))))
              else
                (some (false))))
          else
            (some (false))))))
  else
    (if (decide (v19 ≠ 0)) = true then
      (if (decide (v12 = v19)) = true then
        (if (decide (v15 = v19)) = true then
          (if (decide (v18 = v19)) = true then
            (if ([v10 == 0, v11 == 0].all id) = true then
              (if ([v13 == 0, v14 == 0].all id) = true then
                (some (([v16 == 0, v17 == 0].all id)))
              else
                (some (false)))
            else
              (some (false)))
          else
            (some (false)))
        else
          (some (false)))
      else
        (some (false)))
    else
      ((ref07_Near v1 v2 v3 v4 v5 v6).bind fun v43 =>
      if v43 = true then
        (if (decide (v18 ≠ 11)) = true then
          (some (false))
        else
          (if ([v16 == 0, v17 == 0].all id) = true then
            ((ref07_SoundErr v7 v8).bind fun v44 =>
            if (decide (v44 ≠ 0)) = true then
              (if (decide (v12 = v44)) = true then
                (if (decide (v15 = v44)) = true then
                  (if ([v10 == 0, v11 == 0].all id) = true then
                    (some (([v13 == 0, v14 == 0].all id)))
                  else
                    (some (false)))
                else
                  (some (false)))
              else
                (some (false)))
            else
              ((array_Travel v4 v5 v6 v1 v2 v3 v7 v8).bind fun (v45, v46, v47) =>
              if (decide (v12 = 0)) = true then
                ((ref07_Travel v1 v2 v3 v4 v5 v6 v7 v8).bind fun (v48, v49) =>
                if ([v10 == v48, v11 == v49].all id) = true then
                  (if (decide (v15 = 0)) = true then
                    ((ref07_NumbersOf v1 v2 v3 v4 v5 v6 v7 v8).bind fun (v50, v51) =>
                    if ([v13 == v50, v14 == v51].all id) = true then
                      (if (decide (v47 = 0)) = true then
                        (some (([v45 == v10, v46 == v11].all id)))
                      else
                        (some (false)))
                    else
                      (some (false)))
                  else
                    (some (false)))
                else
                  (some (false)))
              else
                (some (false))))
          else
            (some (false))))
      else
        ((array_Strength v4 v5 v6 v1 v2 v3).bind fun (v52, v53, v54) =>
        if (decide (v18 ≠ 0)) = true then
          (some (false))
        else
          ((ref07_Strength v1 v2 v3 v4 v5 v6).bind fun (v55, v56) =>
          if ([v16 == v55, v17 == v56].all id) = true then
            (if (decide (v54 ≠ 0)) = true then
              (some (false))
            else
              (if ([v52 == v16, v53 == v17].all id) = true then
                ((ref07_SoundErr v7 v8).bind fun v57 =>
                if (decide (v57 ≠ 0)) = true then
                  (if (decide (v12 = v57)) = true then
                    (if (decide (v15 = v57)) = true then
                      (if ([v10 == 0, v11 == 0].all id) = true then
                        (some (([v13 == 0, v14 == 0].all id)))
                      else
                        (some (false)))
                    else
                      (some (false)))
                  else
                    (some (false)))
                else
                  ((array_Travel v4 v5 v6 v1 v2 v3 v7 v8).bind fun (v58, v59, v60) =>
                  if (decide (v12 = 0)) = true then
                    ((ref07_Travel v1 v2 v3 v4 v5 v6 v7 v8).bind fun (v61, v62) =>
                    if ([v10 == v61, v11 == v62].all id) = true then
                      (if (decide (v15 = 0)) = true then
                        ((ref07_NumbersOf v1 v2 v3 v4 v5 v6 v7 v8).bind fun (v63, v64) =>
                        if ([v13 == v63, v14 == v64].all id) = true then
                          (if (decide (v60 = 0)) = true then
                            (some (([v58 == v10, v59 == v11].all id)))
                          else
                            (some (false)))
                        else
                          (some (false)))
                      else
                        (some (false)))
                    else
                      (some (false)))
                  else
                    (some (false))))
              else
                (some (false))))
          else
            (some (false))))))

end Go.Rex

namespace Go.Rex
open Go Go.Rex
noncomputable def array_heard_parts_l1 (v1 : Int) (v2 : Int) (v3 : (List (Int × Int × Int × Int × Int))) (v4 : Int) (v5 : Int) (v6 : Int) : ((List (Int × Int × Int × Int × Int × Int × Int × Int × Int)) × Int) → Option (((List (Int × Int × Int × Int × Int × Int × Int × Int × Int)) × Int) ⊕ (((List (Int × Int × Int × Int × Int × Int × Int × Int × Int))))) := fun (v8, v9) =>
  if (decide (v9 < (v3.length : Int))) = true then
    ((getI v3 v9).bind fun (v29, v30, v31, v32, v33) =>
    (array_heard_wayFrom v1 v2 v3 v4 v5 v6 v29 v30 v31 v32 v33).bind fun (v34, v35, v36, v37, v38, v39) =>
    (array_rig_sound v1 v2 v3).bind fun (v40, v41) =>
    (array_way_numbers v34 v35 v36 v37 v38 v39 v40 v41).bind fun (v42, v43) =>
    (array_way_strength v34 v35 v36 v37 v38 v39).bind fun (v44, v45) =>
    (appI 72 v8 ([(v29, v30, v31, v32, v33, v42, v43, v44, v45)] : List (Int × Int × Int × Int × Int × Int × Int × Int × Int))).bind fun v46 =>
    some (.inl (v46, (IntKind.i64.wrap (v9 + 1)))))
  else
    (some (.inr v8))
noncomputable def array_heard_parts (v1 : Int) (v2 : Int) (v3 : (List (Int × Int × Int × Int × Int))) (v4 : Int) (v5 : Int) (v6 : Int) : Option ((List (Int × Int × Int × Int × Int × Int × Int × Int × Int))) :=
  (run (array_heard_parts_l1 v1 v2 v3 v4 v5 v6) (([] : List (Int × Int × Int × Int × Int × Int × Int × Int × Int)), 0)).bind fun v47 =>
  some (v47)

end Go.Rex

namespace Go.Rex
open Go Go.Rex
noncomputable def array_part_share (v1 : Int) (v2 : Int) (v3 : Int) (v4 : Int) (v5 : Int) (v6 : Int) (v7 : Int) (v8 : Int) (v9 : Int) (v10 : Int) (v11 : Int) : Option (Nat × Nat) :=
  (getI ([(4607182418800017408, 0), (0, 13830554455654793216), (13830554455654793216, 0), (0, 4607182418800017408)] : List (Nat × Nat)) ((IntKind.i64.wrap (v10 + v5)).tmod 4)).bind fun (v14, v15) =>
  (cmul (FloatKind.f64.nearest (IntKind.i64.wrap (v4 * v11))) 0 v14 v15).bind fun (v16, v17) =>
  some (v16, v17)

end Go.Rex

namespace Go.Rex
open Go Go.Rex
noncomputable def array_part_nominal (v1 : Int) (v2 : Int) (v3 : Int) (v4 : Int) (v5 : Int) (v6 : Int) (v7 : Int) (v8 : Int) (v9 : Int) : Option (Nat × Nat) :=
  (array_part_share v1 v2 v3 v4 v5 v6 v7 v8 v9 v6 v8).bind fun (v12, v13) =>
  some (v12, v13)

end Go.Rex

namespace Go.Rex
open Go Go.Rex
noncomputable def array_heard_pressure_l1 (v9 : (List (Int × Int × Int × Int × Int × Int × Int × Int × Int))) : (Nat × Nat × Int) → Option ((Nat × Nat × Int) ⊕ ((Nat × Nat))) := fun (v10, v11, v12) =>
  if (decide (v12 < (v9.length : Int))) = true then
    ((getI v9 v12).bind fun (v28, v29, v30, v31, v32, v33, v34, v35, v36) =>
    (array_part_nominal v28 v29 v30 v31 v32 v33 v34 v35 v36).bind fun (v37, v38) =>
    (farith .add .f64 v10 v37).bind fun v39 =>
    (farith .add .f64 v11 v38).bind fun v40 =>
    some (.inl (v39, v40, (IntKind.i64.wrap (v12 + 1)))))
  else
    (some (.inr (v10, v11)))
noncomputable def array_heard_pressure (v1 : Int) (v2 : Int) (v3 : (List (Int × Int × Int × Int × Int))) (v4 : Int) (v5 : Int) (v6 : Int) : Option (Nat × Nat) :=
  (array_heard_parts v1 v2 v3 v4 v5 v6).bind fun v9 =>
  (run (array_heard_pressure_l1 v9) (0, 0, 0)).bind fun (v41, v42) =>
  some (v41, v42)

end Go.Rex

namespace Go.Rex
open Go Go.Rex
noncomputable def array_told_complex128_eda1 (v1 : Int) (v2 : Int) (v3 : (List (Int × Int × Int × Int × Int))) (v4 : Int) (v5 : Int) (v6 : Int) : Option (Nat × Nat × Int) :=
  (array_firstError_05b8 v1 v2 v3 v1 v2 v3 v4 v5 v6).bind fun v10 =>
  if (decide (v10 ≠ 0)) = true then
    (some (0, 0, v10))
  else
    ((array_heard_pressure v1 v2 v3 v4 v5 v6).bind fun (v11, v12) =>
    some (v11, v12, 0))

end Go.Rex

namespace Go.Rex
open Go Go.Rex
noncomputable def array_PressureAt (v1 : Int) (v2 : Int) (v3 : (List (Int × Int × Int × Int × Int))) (v4 : Int) (v5 : Int) (v6 : Int) : Option (Nat × Nat × Int) :=
  (array_told_complex128_eda1 v1 v2 v3 v4 v5 v6).bind fun (v10, v11, v12) =>
  some (v10, v11, v12)

end Go.Rex

namespace Go.Rex
open Go Go.Rex
noncomputable def array_squared (v1 : Int) (v2 : Int) : Option (Int × Int) :=
  some ((IntKind.i64.wrap (v1 * v1)), (IntKind.i64.wrap (v2 * v2)))

end Go.Rex

namespace Go.Rex
open Go Go.Rex
noncomputable def array_plus (v1 : Int) (v2 : Int) (v3 : Int) (v4 : Int) : Option (Int × Int) :=
  some ((IntKind.i64.wrap (v1 + v3)), (IntKind.i64.wrap (v2 + v4)))

end Go.Rex

namespace Go.Rex
open Go Go.Rex
noncomputable def array_heard_energy_l1 (v9 : (List (Int × Int × Int × Int × Int × Int × Int × Int × Int))) : (Int × Int × Int) → Option ((Int × Int × Int) ⊕ ((Int × Int))) := fun (v10, v11, v12) =>
  if (decide (v12 < (v9.length : Int))) = true then
    ((getI v9 v12).bind fun (v30, v31, v32, v33, v34, v35, v36, v37, v38) =>
    (array_scaled v37 v38 v33 1).bind fun (v39, v40) =>
    (array_squared v39 v40).bind fun (v41, v42) =>
    (array_plus v10 v11 v41 v42).bind fun (v43, v44) =>
    some (.inl (v43, v44, (IntKind.i64.wrap (v12 + 1)))))
  else
    (some (.inr (v10, v11)))
noncomputable def array_heard_energy (v1 : Int) (v2 : Int) (v3 : (List (Int × Int × Int × Int × Int))) (v4 : Int) (v5 : Int) (v6 : Int) : Option (Int × Int) :=
  (array_heard_parts v1 v2 v3 v4 v5 v6).bind fun v9 =>
  (run (array_heard_energy_l1 v9) (0, 0, 0)).bind fun (v45, v46) =>
  some (v45, v46)

end Go.Rex

namespace Go.Rex
open Go Go.Rex
noncomputable def array_told_api_Range_d3b0 (v1 : Int) (v2 : Int) (v3 : (List (Int × Int × Int × Int × Int))) (v4 : Int) (v5 : Int) (v6 : Int) : Option (Int × Int × Int) :=
  (array_firstError_05b8 v1 v2 v3 v1 v2 v3 v4 v5 v6).bind fun v10 =>
  if (decide (v10 ≠ 0)) = true then
    (some (0, 0, v10))
  else
    ((array_heard_energy v1 v2 v3 v4 v5 v6).bind fun (v11, v12) =>
    some (v11, v12, 0))

end Go.Rex

namespace Go.Rex
open Go Go.Rex
noncomputable def array_EnergyAt (v1 : Int) (v2 : Int) (v3 : (List (Int × Int × Int × Int × Int))) (v4 : Int) (v5 : Int) (v6 : Int) : Option (Int × Int × Int) :=
  (array_told_api_Range_d3b0 v1 v2 v3 v4 v5 v6).bind fun (v10, v11, v12) =>
  some (v10, v11, v12)

end Go.Rex

namespace Go.Rex
open Go Go.Rex
noncomputable def array_heard_aligned_l1 (v10 : (List (Int × Int × Int × Int × Int × Int × Int × Int × Int))) : (Int × Int) → Option ((Int × Int) ⊕ ((Int))) := fun (v11, v12) =>
  if (decide (v12 < (v10.length : Int))) = true then
    ((getI v10 v12).bind fun (v23, v24, v25, v26, v27, v28, v29, v30, v31) =>
    some (.inl ((if v28 > v11 then v28 else v11), (IntKind.i64.wrap (v12 + 1)))))
  else
    (some (.inr v11))
noncomputable def array_heard_aligned_l2 (v10 : (List (Int × Int × Int × Int × Int × Int × Int × Int × Int))) (v32 : Int) : ((List (Int × Int × Int × Int × Int)) × Int) → Option (((List (Int × Int × Int × Int × Int)) × Int) ⊕ (((List (Int × Int × Int × Int × Int))))) := fun (v36, v37) =>
  if (decide (v37 < (v10.length : Int))) = true then
    ((getI v10 v37).bind fun (v53, v54, v55, v56, v57, v58, v59, v60, v61) =>
    (getI v36 v37).bind fun (v62, v63, v64, v65, v66) =>
    some (.inl ((v36.set v37.toNat (v62, v63, v64, v65, (IntKind.i64.wrap (v32 - v58)))), (IntKind.i64.wrap (v37 + 1)))))
  else
    (some (.inr v36))
noncomputable def array_heard_aligned (v1 : Int) (v2 : Int) (v3 : (List (Int × Int × Int × Int × Int))) (v4 : Int) (v5 : Int) (v6 : Int) : Option (Int × Int × (List (Int × Int × Int × Int × Int))) :=
  (array_heard_parts v1 v2 v3 v4 v5 v6).bind fun v10 =>
  (run (array_heard_aligned_l1 v10) (0, 0)).bind fun v32 =>
  (array_rig_copied v1 v2 v3).bind fun (v33, v34, v35) =>
  (run (array_heard_aligned_l2 v10 v32) (v35, 0)).bind fun v67 =>
  some (v33, v34, v67)

end Go.Rex

namespace Go.Rex
open Go Go.Rex
noncomputable def array_told_api_Array_0533 (v1 : Int) (v2 : Int) (v3 : (List (Int × Int × Int × Int × Int))) (v4 : Int) (v5 : Int) (v6 : Int) : Option (Int × Int × (List (Int × Int × Int × Int × Int)) × Int) :=
  (array_firstError_05b8 v1 v2 v3 v1 v2 v3 v4 v5 v6).bind fun v11 =>
  if (decide (v11 ≠ 0)) = true then
    (some (0, 0, ([] : List (Int × Int × Int × Int × Int)), v11))
  else
    ((array_heard_aligned v1 v2 v3 v4 v5 v6).bind fun (v12, v13, v14) =>
    some (v12, v13, v14, 0))

end Go.Rex

namespace Go.Rex
open Go Go.Rex
noncomputable def array_Aligned_l1 (v13 : (List (Int × Int × Int × Int × Int))) : (Int) → Option ((Int) ⊕ ((Unit) ⊕ (Unit))) := fun v15 =>
  if (decide (v15 < (v13.length : Int))) = true then
    ((getI v13 v15).bind fun (v21, v22, v23, v24, v25) =>
    if (decide (v25 > 10000)) = true then
      (some (.inr (.inl ())))
    else
      (some (.inl (IntKind.i64.wrap (v15 + 1)))))
  else
    (some (.inr (.inr ())))
noncomputable def array_Aligned (v1 : Int) (v2 : Int) (v3 : (List (Int × Int × Int × Int × Int))) (v4 : Int) (v5 : Int) (v6 : Int) : Option (Int × Int × (List (Int × Int × Int × Int × Int)) × Int) :=
  (array_told_api_Array_0533 v1 v2 v3 v4 v5 v6).bind fun (v11, v12, v13, v14) =>
  if (decide (v14 ≠ 0)) = true then
    (some (0, 0, ([] : List (Int × Int × Int × Int × Int)), v14))
  else
    ((run (array_Aligned_l1 v13) 0).bind fun v26 => match v26 with
    | (.inl _) =>
      some (0, 0, ([] : List (Int × Int × Int × Int × Int)), 8)
    | (.inr _) =>
      some (v11, v12, v13, 0))

end Go.Rex

namespace Go.Rex
open Go Go.Rex
noncomputable def ref07_SeatErr_l1 (v3 : (List (Int × Int × Int × Int × Int))) (v4 : Int) (v5 : Int) (v6 : Int) : (Int) → Option ((Int) ⊕ ((Unit) ⊕ (Unit))) := fun v9 =>
  if (decide (v9 < (v3.length : Int))) = true then
    ((getI v3 v9).bind fun (v16, v17, v18, v19, v20) =>
    (ref07_Near v16 v17 v18 v4 v5 v6).bind fun v21 =>
    if v21 = true then
      (some (.inr (.inl ())))
    else
      (some (.inl (IntKind.i64.wrap (v9 + 1)))))
  else
    (some (.inr (.inr ())))
noncomputable def ref07_SeatErr (v1 : Int) (v2 : Int) (v3 : (List (Int × Int × Int × Int × Int))) (v4 : Int) (v5 : Int) (v6 : Int) : Option (Int) :=
  (ref07_PlaceErr v4 v5 v6).bind fun v8 =>
  if (decide (v8 ≠ 0)) = true then
    (some (v8))
  else
    ((run (ref07_SeatErr_l1 v3 v4 v5 v6) 0).bind fun v22 => match v22 with
    | (.inl _) =>
      some (11)
    | (.inr _) =>
      some (0))

end Go.Rex

namespace Go.Rex
open Go Go.Rex
noncomputable def law07_arrayErr (v1 : Int) (v2 : Int) (v3 : (List (Int × Int × Int × Int × Int))) (v4 : Int) (v5 : Int) (v6 : Int) : Option (Int) :=
  (ref07_CheckArray v1 v2 v3).bind fun (v8, v9) =>
  if (decide (v9 ≠ 0)) = true then
    (some (v9))
  else
    ((ref07_SeatErr v1 v2 v3 v4 v5 v6).bind fun v10 =>
    some (v10))

end Go.Rex

namespace Go.Rex
open Go Go.Rex
noncomputable def array_part_ends_l2 (v1 : Int) (v2 : Int) (v3 : Int) (v4 : Int) (v5 : Int) (v6 : Int) (v7 : Int) (v8 : Int) (v9 : Int) (v16 : Int) : ((List Int) × (List Int) × Int) → Option (((List Int) × (List Int) × Int) ⊕ (((List Int) × (List Int)))) := fun (v40, v41, v42) =>
  if (decide (v42 < 2)) = true then
    ((getI ([v8, v9] : List Int) v42).bind fun v52 =>
    (array_part_share v1 v2 v3 v4 v5 v6 v7 v8 v9 v16 v52).bind fun (v53, v54) =>
    (f2i .f64 v53 .i64).bind fun v55 =>
    (appI 8 v40 ([v55] : List Int)).bind fun v56 =>
    (f2i .f64 v54 .i64).bind fun v57 =>
    (appI 8 v41 ([v57] : List Int)).bind fun v58 =>
    some (.inl (v56, v58, (IntKind.i64.wrap (v42 + 1)))))
  else
    (some (.inr (v40, v41)))
noncomputable def array_part_ends_l1 (v1 : Int) (v2 : Int) (v3 : Int) (v4 : Int) (v5 : Int) (v6 : Int) (v7 : Int) (v8 : Int) (v9 : Int) : ((List Int) × (List Int) × Int) → Option (((List Int) × (List Int) × Int) ⊕ (((List Int) × (List Int)))) := fun (v14, v15, v16) =>
  if (decide (v16 ≤ v7)) = true then
    ((run (array_part_ends_l2 v1 v2 v3 v4 v5 v6 v7 v8 v9 v16) (v14, v15, 0)).bind fun (v59, v60) =>
    some (.inl (v59, v60, (IntKind.i64.wrap (v16 + 1)))))
  else
    (some (.inr (v14, v15)))
noncomputable def array_part_ends (v1 : Int) (v2 : Int) (v3 : Int) (v4 : Int) (v5 : Int) (v6 : Int) (v7 : Int) (v8 : Int) (v9 : Int) : Option (Int × Int × Int × Int) :=
  (run (array_part_ends_l1 v1 v2 v3 v4 v5 v6 v7 v8 v9) (([] : List Int), ([] : List Int), v6)).bind fun (v61, v62) =>
  (slices_Min_int_int v61).bind fun v63 =>
  (slices_Max_int_int v61).bind fun v64 =>
  (slices_Min_int_int v62).bind fun v65 =>
  (slices_Max_int_int v62).bind fun v66 =>
  some (v63, v64, v65, v66)

end Go.Rex

namespace Go.Rex
open Go Go.Rex
noncomputable def array_heard_ends_l2 : (Unit) → Option ((Unit) ⊕ ((Unit))) := fun _ =>
  some (.inr ())
noncomputable def array_heard_ends_l1 (v11 : (List (Int × Int × Int × Int × Int × Int × Int × Int × Int))) : (Int × Int × Int × Int × Int) → Option ((Int × Int × Int × Int × Int) ⊕ ((Int × Int × Int × Int))) := fun (v12, v13, v14, v15, v16) =>
  if (decide (v16 < (v11.length : Int))) = true then
    ((getI v11 v16).bind fun (v38, v39, v40, v41, v42, v43, v44, v45, v46) =>
    (array_part_ends v38 v39 v40 v41 v42 v43 v44 v45 v46).bind fun (v47, v48, v49, v50) =>
    (array_plus v12 v13 v47 v48).bind fun (v51, v52) =>
    (array_plus v14 v15 v49 v50).bind fun (v53, v54) =>
    (run (array_heard_ends_l2) ()).bind fun _ =>
    some (.inl (v51, v52, v53, v54, (IntKind.i64.wrap (v16 + 1)))))
  else
    (some (.inr (v12, v13, v14, v15)))
noncomputable def array_heard_ends (v1 : Int) (v2 : Int) (v3 : (List (Int × Int × Int × Int × Int))) (v4 : Int) (v5 : Int) (v6 : Int) : Option (Int × Int × Int × Int) :=
  (array_heard_parts v1 v2 v3 v4 v5 v6).bind fun v11 =>
  (run (array_heard_ends_l1 v11) (0, 0, 0, 0, 0)).bind fun (v55, v56, v57, v58) =>
  some (v55, v56, v57, v58)

end Go.Rex

namespace Go.Rex
open Go Go.Rex
noncomputable def array_told_2_api_Range_89a9 (v1 : Int) (v2 : Int) (v3 : (List (Int × Int × Int × Int × Int))) (v4 : Int) (v5 : Int) (v6 : Int) : Option (Int × Int × Int × Int × Int) :=
  (array_firstError_05b8 v1 v2 v3 v1 v2 v3 v4 v5 v6).bind fun v12 =>
  if (decide (v12 ≠ 0)) = true then
    (some (0, 0, 0, 0, v12))
  else
    ((array_heard_ends v1 v2 v3 v4 v5 v6).bind fun (v13, v14, v15, v16) =>
    some (v13, v14, v15, v16, 0))

end Go.Rex

namespace Go.Rex
open Go Go.Rex
noncomputable def array_EndsAt (v1 : Int) (v2 : Int) (v3 : (List (Int × Int × Int × Int × Int))) (v4 : Int) (v5 : Int) (v6 : Int) : Option (Int × Int × Int × Int × Int) :=
  (array_told_2_api_Range_89a9 v1 v2 v3 v4 v5 v6).bind fun (v12, v13, v14, v15, v16) =>
  some (v12, v13, v14, v15, v16)

end Go.Rex

namespace Go.Rex
open Go Go.Rex
noncomputable def array_sizes (v1 : Int) (v2 : Int) : Option (Int × Int) :=
  some ((if 0 > (if (IntKind.i64.wrap (0 - v2)) > v1 then (IntKind.i64.wrap (0 - v2)) else v1) then 0 else (if (IntKind.i64.wrap (0 - v2)) > v1 then (IntKind.i64.wrap (0 - v2)) else v1)), (if (IntKind.i64.wrap (0 - v1)) > v2 then (IntKind.i64.wrap (0 - v1)) else v2))

end Go.Rex

namespace Go.Rex
open Go Go.Rex
noncomputable def array_heard_size (v1 : Int) (v2 : Int) (v3 : (List (Int × Int × Int × Int × Int))) (v4 : Int) (v5 : Int) (v6 : Int) : Option (Int × Int) :=
  (array_heard_ends v1 v2 v3 v4 v5 v6).bind fun (v9, v10, v11, v12) =>
  (array_sizes v9 v10).bind fun (v13, v14) =>
  (array_squared v13 v14).bind fun (v15, v16) =>
  (array_sizes v11 v12).bind fun (v17, v18) =>
  (array_squared v17 v18).bind fun (v19, v20) =>
  (array_plus v15 v16 v19 v20).bind fun (v21, v22) =>
  (array_root v21).bind fun (v23, v24) =>
  (array_root v22).bind fun (v25, v26) =>
  some (v23, v26)

end Go.Rex

namespace Go.Rex
open Go Go.Rex
noncomputable def array_told_api_Range_9658 (v1 : Int) (v2 : Int) (v3 : (List (Int × Int × Int × Int × Int))) (v4 : Int) (v5 : Int) (v6 : Int) : Option (Int × Int × Int) :=
  (array_firstError_05b8 v1 v2 v3 v1 v2 v3 v4 v5 v6).bind fun v10 =>
  if (decide (v10 ≠ 0)) = true then
    (some (0, 0, v10))
  else
    ((array_heard_size v1 v2 v3 v4 v5 v6).bind fun (v11, v12) =>
    some (v11, v12, 0))

end Go.Rex

namespace Go.Rex
open Go Go.Rex
noncomputable def array_SizeAt (v1 : Int) (v2 : Int) (v3 : (List (Int × Int × Int × Int × Int))) (v4 : Int) (v5 : Int) (v6 : Int) : Option (Int × Int × Int) :=
  (array_told_api_Range_9658 v1 v2 v3 v4 v5 v6).bind fun (v10, v11, v12) =>
  some (v10, v11, v12)

end Go.Rex

namespace Go.Rex
open Go Go.Rex
noncomputable def base_SameBits (v1 : Nat) (v2 : Nat) (v3 : Nat) (v4 : Nat) : Option (Bool) :=
  if (decide (((v1 : Nat) : Int) = ((v3 : Nat) : Int))) = true then
    (some ((decide (((v2 : Nat) : Int) = ((v4 : Nat) : Int)))))
  else
    (some (false))

end Go.Rex

namespace Go.Rex
open Go Go.Rex
noncomputable def base_Mod (v1 : Int) (v2 : Int) : Option (Int) :=
  if v2 = 0 then none else
  (if (decide ((v1.tmod v2) < 0)) = true then
    (some ((IntKind.i64.wrap ((v1.tmod v2) + v2))))
  else
    (some ((v1.tmod v2))))

end Go.Rex

namespace Go.Rex
open Go Go.Rex
noncomputable def ref07_turned (v1 : Int) (v2 : Int) : Option (Int × Int) :=
  (base_Mod v2 4).bind fun v5 =>
  if (decide (v5 = 0)) = true then
    (some (v1, 0))
  else
    (if (decide (v5 = 1)) = true then
      (some (0, (IntKind.i64.wrap (0 - v1))))
    else
      (if (decide (v5 = 2)) = true then
        (some ((IntKind.i64.wrap (0 - v1)), 0))
      else
        (some (0, v1))))

end Go.Rex

namespace Go.Rex
open Go Go.Rex
noncomputable def ref07_PressureAt_l1 (v1 : Int) (v2 : Int) (v3 : (List (Int × Int × Int × Int × Int))) (v4 : Int) (v5 : Int) (v6 : Int) : (Int × Int × Int) → Option ((Int × Int × Int) ⊕ ((Int × Int))) := fun (v9, v10, v11) =>
  if (decide (v11 < (v3.length : Int))) = true then
    ((getI v3 v11).bind fun (v27, v28, v29, v30, v31) =>
    (ref07_Strength v27 v28 v29 v4 v5 v6).bind fun (v32, v33) =>
    (ref07_Sound v1 v2 v3).bind fun (v34, v35) =>
    (ref07_NumbersOf v27 v28 v29 v4 v5 v6 v34 v35).bind fun (v36, v37) =>
    (ref07_turned (IntKind.i64.wrap (v30 * v32)) (IntKind.i64.wrap (v36 + v31))).bind fun (v38, v39) =>
    some (.inl ((IntKind.i64.wrap (v9 + v38)), (IntKind.i64.wrap (v10 + v39)), (IntKind.i64.wrap (v11 + 1)))))
  else
    (some (.inr (v9, v10)))
noncomputable def ref07_PressureAt (v1 : Int) (v2 : Int) (v3 : (List (Int × Int × Int × Int × Int))) (v4 : Int) (v5 : Int) (v6 : Int) : Option (Int × Int) :=
  (run (ref07_PressureAt_l1 v1 v2 v3 v4 v5 v6) (0, 0, 0)).bind fun (v40, v41) =>
  some (v40, v41)

end Go.Rex

namespace Go.Rex
open Go Go.Rex
noncomputable def base_Num (v1 : Int) (v2 : Int) : Option (Nat × Nat) :=
  some ((FloatKind.f64.nearest v1), (FloatKind.f64.nearest v2))

end Go.Rex

namespace Go.Rex
open Go Go.Rex
noncomputable def ref07_EndsAt_l3 (v89 : Int) (v90 : Int) (v91 : Int) (v92 : Int) (v95 : Int) (v101 : Int) : (Int × Int × Int × Int × Int) → Option ((Int × Int × Int × Int × Int) ⊕ ((Int × Int × Int × Int))) := fun (v127, v128, v129, v130, v131) =>
  if (decide (v131 < 2)) = true then
    (if (decide (v131 = 1)) = true then
      ((ref07_turned (IntKind.i64.wrap (v89 * v92)) (IntKind.i64.wrap (v101 + v90))).bind fun (v140, v141) =>
      if (decide (v101 = v95)) = true then
        (if (decide (v131 = 0)) = true then
          (some (.inl ((if v140 < v140 then v140 else v140), (if v140 > v140 then v140 else v140), (if v141 < v141 then v141 else v141), (if v141 > v141 then v141 else v141), (IntKind.i64.wrap (v131 + 1)))))
        else
          (some (.inl ((if v140 < v127 then v140 else v127), (if v140 > v128 then v140 else v128), (if v141 < v129 then v141 else v129), (if v141 > v130 then v141 else v130), (IntKind.i64.wrap (v131 + 1))))))
      else
        (some (.inl ((if v140 < v127 then v140 else v127), (if v140 > v128 then v140 else v128), (if v141 < v129 then v141 else v129), (if v141 > v130 then v141 else v130), (IntKind.i64.wrap (v131 + 1))))))
    else
      ((ref07_turned (IntKind.i64.wrap (v89 * v91)) (IntKind.i64.wrap (v101 + v90))).bind fun (v142, v143) =>
      if (decide (v101 = v95)) = true then
        (if (decide (v131 = 0)) = true then
          (some (.inl ((if v142 < v142 then v142 else v142), (if v142 > v142 then v142 else v142), (if v143 < v143 then v143 else v143), (if v143 > v143 then v143 else v143), (IntKind.i64.wrap (v131 + 1)))))
        else
          (some (.inl ((if v142 < v127 then v142 else v127), (if v142 > v128 then v142 else v128), (if v143 < v129 then v143 else v129), (if v143 > v130 then v143 else v130), (IntKind.i64.wrap (v131 + 1))))))
      else
        (some (.inl ((if v142 < v127 then v142 else v127), (if v142 > v128 then v142 else v128), (if v143 < v129 then v143 else v129), (if v143 > v130 then v143 else v130), (IntKind.i64.wrap (v131 + 1)))))))
  else
    (some (.inr (v127, v128, v129, v130)))
noncomputable def ref07_EndsAt_l2 (v89 : Int) (v90 : Int) (v91 : Int) (v92 : Int) (v95 : Int) (v96 : Int) : (Int × Int × Int × Int × Int) → Option ((Int × Int × Int × Int × Int) ⊕ ((Int × Int × Int × Int))) := fun (v97, v98, v99, v100, v101) =>
  if (decide (v101 ≤ v96)) = true then
    ((run (ref07_EndsAt_l3 v89 v90 v91 v92 v95 v101) (v97, v98, v99, v100, 0)).bind fun (v144, v145, v146, v147) =>
    some (.inl (v144, v145, v146, v147, (IntKind.i64.wrap (v101 + 1)))))
  else
    (some (.inr (v97, v98, v99, v100)))
noncomputable def ref07_EndsAt_l4 : (Unit) → Option ((Unit) ⊕ ((Unit))) := fun _ =>
  some (.inr ())
noncomputable def ref07_EndsAt_l1 (v1 : Int) (v2 : Int) (v3 : (List (Int × Int × Int × Int × Int))) (v4 : Int) (v5 : Int) (v6 : Int) : (Int × Int × Int × Int × Int) → Option ((Int × Int × Int × Int × Int) ⊕ ((Int × Int × Int × Int))) := fun (v11, v12, v13, v14, v15) =>
  if (decide (v15 < (v3.length : Int))) = true then
    ((getI v3 v15).bind fun (v86, v87, v88, v89, v90) =>
    (ref07_Strength v86 v87 v88 v4 v5 v6).bind fun (v91, v92) =>
    (ref07_Sound v1 v2 v3).bind fun (v93, v94) =>
    (ref07_NumbersOf v86 v87 v88 v4 v5 v6 v93 v94).bind fun (v95, v96) =>
    (run (ref07_EndsAt_l2 v89 v90 v91 v92 v95 v96) (0, 0, 0, 0, v95)).bind fun (v148, v149, v150, v151) =>
    (run (ref07_EndsAt_l4) ()).bind fun _ =>
    some (.inl ((IntKind.i64.wrap (v11 + v148)), (IntKind.i64.wrap (v12 + v149)), (IntKind.i64.wrap (v13 + v150)), (IntKind.i64.wrap (v14 + v151)), (IntKind.i64.wrap (v15 + 1)))))
  else
    (some (.inr (v11, v12, v13, v14)))
noncomputable def ref07_EndsAt (v1 : Int) (v2 : Int) (v3 : (List (Int × Int × Int × Int × Int))) (v4 : Int) (v5 : Int) (v6 : Int) : Option (Int × Int × Int × Int) :=
  (run (ref07_EndsAt_l1 v1 v2 v3 v4 v5 v6) (0, 0, 0, 0, 0)).bind fun (v152, v153, v154, v155) =>
  some (v152, v153, v154, v155)

end Go.Rex

namespace Go.Rex
open Go Go.Rex
noncomputable def ref07_squares (v1 : Int) (v2 : Int) : Option (Int × Int) :=
  if (decide (v1 ≤ 0)) = true then
    (if (decide (v2 ≥ 0)) = true then
      (some (0, (if (IntKind.i64.wrap (v2 * v2)) > (IntKind.i64.wrap (v1 * v1)) then (IntKind.i64.wrap (v2 * v2)) else (IntKind.i64.wrap (v1 * v1)))))
    else
      (some ((if (IntKind.i64.wrap (v2 * v2)) < (IntKind.i64.wrap (v1 * v1)) then (IntKind.i64.wrap (v2 * v2)) else (IntKind.i64.wrap (v1 * v1))), (if (IntKind.i64.wrap (v2 * v2)) > (IntKind.i64.wrap (v1 * v1)) then (IntKind.i64.wrap (v2 * v2)) else (IntKind.i64.wrap (v1 * v1))))))
  else
    (some ((if (IntKind.i64.wrap (v2 * v2)) < (IntKind.i64.wrap (v1 * v1)) then (IntKind.i64.wrap (v2 * v2)) else (IntKind.i64.wrap (v1 * v1))), (if (IntKind.i64.wrap (v2 * v2)) > (IntKind.i64.wrap (v1 * v1)) then (IntKind.i64.wrap (v2 * v2)) else (IntKind.i64.wrap (v1 * v1)))))

end Go.Rex

namespace Go.Rex
open Go Go.Rex
noncomputable def ref07_SizeAt (v1 : Int) (v2 : Int) (v3 : (List (Int × Int × Int × Int × Int))) (v4 : Int) (v5 : Int) (v6 : Int) : Option (Int × Int) :=
  (ref07_EndsAt v1 v2 v3 v4 v5 v6).bind fun (v9, v10, v11, v12) =>
  (ref07_squares v9 v10).bind fun (v13, v14) =>
  (ref07_squares v11 v12).bind fun (v15, v16) =>
  (base_Root (IntKind.i64.wrap (v13 + v15))).bind fun v17 =>
  (base_RootUp (IntKind.i64.wrap (v14 + v16))).bind fun v18 =>
  some (v17, v18)

end Go.Rex

namespace Go.Rex
open Go Go.Rex
noncomputable def ref07_EnergyAt_l1 (v3 : (List (Int × Int × Int × Int × Int))) (v4 : Int) (v5 : Int) (v6 : Int) : (Int × Int × Int) → Option ((Int × Int × Int) ⊕ ((Int × Int))) := fun (v9, v10, v11) =>
  if (decide (v11 < (v3.length : Int))) = true then
    ((getI v3 v11).bind fun (v21, v22, v23, v24, v25) =>
    (ref07_Strength v21 v22 v23 v4 v5 v6).bind fun (v26, v27) =>
    some (.inl ((IntKind.i64.wrap (v9 + (IntKind.i64.wrap ((IntKind.i64.wrap ((IntKind.i64.wrap (v24 * v26)) * v24)) * v26)))), (IntKind.i64.wrap (v10 + (IntKind.i64.wrap ((IntKind.i64.wrap ((IntKind.i64.wrap (v24 * v27)) * v24)) * v27)))), (IntKind.i64.wrap (v11 + 1)))))
  else
    (some (.inr (v9, v10)))
noncomputable def ref07_EnergyAt (v1 : Int) (v2 : Int) (v3 : (List (Int × Int × Int × Int × Int))) (v4 : Int) (v5 : Int) (v6 : Int) : Option (Int × Int) :=
  (run (ref07_EnergyAt_l1 v3 v4 v5 v6) (0, 0, 0)).bind fun (v28, v29) =>
  some (v28, v29)

end Go.Rex

namespace Go.Rex
open Go Go.Rex
noncomputable def law07_ArrayPressures (v1 : Int) (v2 : Int) (v3 : (List (Int × Int × Int × Int × Int))) (v4 : Int) (v5 : Int) (v6 : Int) : Option Bool :=
  (law07_few v1 v2 v3).bind fun v8 =>
  if v8 = true then
    ((ref07_Copy v1 v2 v3).bind fun (v9, v10, v11) =>
    (array_PressureAt v9 v10 v11 v4 v5 v6).bind fun (v12, v13, v14) =>
    (ref07_Copy v1 v2 v3).bind fun (v15, v16, v17) =>
    (array_EndsAt v15 v16 v17 v4 v5 v6).bind fun (v18, v19, v20, v21, v22) =>
    (ref07_Copy v1 v2 v3).bind fun (v23, v24, v25) =>
    (array_SizeAt v23 v24 v25 v4 v5 v6).bind fun (v26, v27, v28) =>
    (ref07_Copy v1 v2 v3).bind fun (v29, v30, v31) =>
    (array_EnergyAt v29 v30 v31 v4 v5 v6).bind fun (v32, v33, v34) =>
    (law07_arrayErr v1 v2 v3 v4 v5 v6).bind fun v35 =>
    if (decide (v35 ≠ 0)) = true then
      (if (decide (v14 = v35)) = true then
        (if (decide (v22 = v35)) = true then
          (if (decide (v28 = v35)) = true then
            (if (decide (v34 = v35)) = true then
              ((base_SameBits v12 v13 0 0).bind fun v36 =>
              if v36 = true then
                (if ([[v18 == 0, v19 == 0].all id, [v20 == 0, v21 == 0].all id].all id) = true then
                  (if ([v26 == 0, v27 == 0].all id) = true then
                    (some (([v32 == 0, v33 == 0].all id)))
                  else
                    (some (false)))
                else
                  (some (false)))
              else
                (some (false)))
            else
              (some (false)))
          else
            (some (false)))
        else
          (some (false)))
      else
        (some (false)))
    else
      ((ref07_PressureAt v1 v2 v3 v4 v5 v6).bind fun (v37, v38) =>
      if (decide (v14 = 0)) = true then
        ((base_Num v37 v38).bind fun (v39, v40) =>
        (base_SameBits v12 v13 v39 v40).bind fun v41 =>
        if v41 = true then
          (if (decide (v22 = 0)) = true then
            ((ref07_EndsAt v1 v2 v3 v4 v5 v6).bind fun (v42, v43, v44, v45) =>
            if ([[v18 == v42, v19 == v43].all id, [v20 == v44, v21 == v45].all id].all id) = true then
              (if (decide (v28 = 0)) = true then
                ((ref07_SizeAt v1 v2 v3 v4 v5 v6).bind fun (v46, v47) =>
                if ([v26 == v46, v27 == v47].all id) = true then
                  (if (decide (v34 = 0)) = true then
                    ((ref07_EnergyAt v1 v2 v3 v4 v5 v6).bind fun (v48, v49) =>
                    some (([v32 == v48, v33 == v49].all id)))
                  else
                    (some (false)))
                else
                  (some (false)))
              else
                (some (false)))
            else
              (some (false)))
          else
            (some (false)))
        else
          (some (false)))
      else
        (some (false))))
  else
    (some (true))

end Go.Rex

namespace Go.Rex
open Go Go.Rex
noncomputable def base_IsWhole (v1 : Nat) : Option (Bool) :=
  if (fcmp .neq .f64 v1 v1) = true then
    (some (false))
  else
    ((farith .sub .f64 v1 v1).bind fun v3 =>
    if (fcmp .neq .f64 v3 0) = true then
      (some (false))
    else
      (if (fcmp .geq .f64 v1 14069741636278059008) = true then
        (if (fcmp .leq .f64 v1 4846369599423283200) = true then
          ((f2i .f64 v1 .i64).bind fun v4 =>
          some ((fcmp .eql .f64 (FloatKind.f64.nearest v4) v1)))
        else
          (some (true)))
      else
        (some (true))))

end Go.Rex

namespace Go.Rex
open Go Go.Rex
noncomputable def base_Parts (v1 : Nat) (v2 : Nat) : Option (Int × Int) :=
  (f2i .f64 v1 .i64).bind fun v5 =>
  (f2i .f64 v2 .i64).bind fun v6 =>
  some (v5, v6)

end Go.Rex

namespace Go.Rex
open Go Go.Rex
noncomputable def law07_parts (v1 : Nat) (v2 : Nat) : Option (Int × Int × Bool) :=
  (base_IsWhole v1).bind fun v6 =>
  if v6 = true then
    ((base_IsWhole v2).bind fun v7 =>
    if v7 = true then
      (if (fcmp .gtr .f64 v1 4786511204640096256) = true then
        (some (0, 0, false))
      else
        (if (fcmp .lss .f64 v1 14009883241494872064) = true then
          (some (0, 0, false))
        else
          (if (fcmp .gtr .f64 v2 4786511204640096256) = true then
            (some (0, 0, false))
          else
            (if (fcmp .lss .f64 v2 14009883241494872064) = true then
              (some (0, 0, false))
            else
              ((base_Parts v1 v2).bind fun (v8, v9) =>
              some (v8, v9, true))))))
    else
      (some (0, 0, false)))
  else
    (some (0, 0, false))

end Go.Rex

namespace Go.Rex
open Go Go.Rex
noncomputable def law07_ArrayWithin_l1 (v3 : (List (Int × Int × Int × Int × Int))) : ((List (Int × Int × Int × Int × Int)) × (List (Int × Int × Int × Int × Int)) × Int) → Option (((List (Int × Int × Int × Int × Int)) × (List (Int × Int × Int × Int × Int)) × Int) ⊕ (((List (Int × Int × Int × Int × Int)) × (List (Int × Int × Int × Int × Int))))) := fun (v41, v42, v43) =>
  if (decide (v43 < (v3.length : Int))) = true then
    ((getI v41 v43).bind fun (v56, v57, v58, v59, v60) =>
    (getI v42 v43).bind fun (v61, v62, v63, v64, v65) =>
    some (.inl ((v41.set v43.toNat (v56, v57, v58, v59, (IntKind.i64.wrap (v60 + 1)))), (v42.set v43.toNat (v61, v62, v63, 0, v65)), (IntKind.i64.wrap (v43 + 1)))))
  else
    (some (.inr (v41, v42)))
noncomputable def law07_ArrayWithin (v1 : Int) (v2 : Int) (v3 : (List (Int × Int × Int × Int × Int))) (v4 : Int) (v5 : Int) (v6 : Int) : Option Bool :=
  if (decide ((v3.length : Int) > 8)) = true then
    (some (true))
  else
    ((ref07_Copy v1 v2 v3).bind fun (v8, v9, v10) =>
    (array_PressureAt v8 v9 v10 v4 v5 v6).bind fun (v11, v12, v13) =>
    if (decide (v13 ≠ 0)) = true then
      ((base_SameBits v11 v12 0 0).bind fun v14 =>
      some (v14))
    else
      ((ref07_Copy v1 v2 v3).bind fun (v15, v16, v17) =>
      (array_EndsAt v15 v16 v17 v4 v5 v6).bind fun (v18, v19, v20, v21, v22) =>
      (ref07_Copy v1 v2 v3).bind fun (v23, v24, v25) =>
      (array_SizeAt v23 v24 v25 v4 v5 v6).bind fun (v26, v27, v28) =>
      (law07_parts v11 v12).bind fun (v29, v30, v31) =>
      if (decide (v22 ≠ 0)) = true then
        (some (false))
      else
        (if (decide (v28 ≠ 0)) = true then
          (some (false))
        else
          (if v31 = true then
            ((base_Within v29 v18 v19).bind fun v32 =>
            if v32 = true then
              ((base_Within v30 v20 v21).bind fun v33 =>
              if v33 = true then
                ((base_Within v26 0 v27).bind fun v34 =>
                if v34 = true then
                  (if (decide (v27 > 2000000000)) = true then
                    (some (false))
                  else
                    (if (decide ((IntKind.i64.wrap ((IntKind.i64.wrap (v29 * v29)) + (IntKind.i64.wrap (v30 * v30)))) < (IntKind.i64.wrap (v26 * v26)))) = true then
                      (some (false))
                    else
                      (if (decide ((IntKind.i64.wrap ((IntKind.i64.wrap (v29 * v29)) + (IntKind.i64.wrap (v30 * v30)))) > (IntKind.i64.wrap (v27 * v27)))) = true then
                        (some (false))
                      else
                        ((ref07_Copy v1 v2 v3).bind fun (v35, v36, v37) =>
                        (ref07_Copy v1 v2 v3).bind fun (v38, v39, v40) =>
                        (run (law07_ArrayWithin_l1 v3) (v37, v40, 0)).bind fun (v66, v67) =>
                        (array_PressureAt v35 v36 v66 v4 v5 v6).bind fun (v68, v69, v70) =>
                        (array_PressureAt v38 v39 v67 v4 v5 v6).bind fun (v71, v72, v73) =>
                        if (decide (v73 ≠ 0)) = true then
                          (some (false))
                        else
                          ((base_SameBits v71 v72 0 0).bind fun v74 =>
                          if v74 = true then
                            (if (decide (v70 = 2)) = true then
                              (some (true))
                            else
                              (if (decide (v70 = 0)) = true then
                                ((base_Num v30 (IntKind.i64.wrap (0 - v29))).bind fun (v75, v76) =>
                                (base_SameBits v68 v69 v75 v76).bind fun v77 =>
                                some (v77))
                              else
                                (some (false))))
                          else
                            (some (false)))))))
                else
                  (some (false)))
              else
                (some (false)))
            else
              (some (false)))
          else
            (some (false))))))

end Go.Rex

namespace Go.Rex
open Go Go.Rex
noncomputable def ref07_Aligned_l1 (v1 : Int) (v2 : Int) (v3 : (List (Int × Int × Int × Int × Int))) (v4 : Int) (v5 : Int) (v6 : Int) : (Int × Int) → Option ((Int × Int) ⊕ ((Int))) := fun (v11, v12) =>
  if (decide (v12 < (v3.length : Int))) = true then
    ((getI v3 v12).bind fun (v23, v24, v25, v26, v27) =>
    (ref07_Sound v1 v2 v3).bind fun (v28, v29) =>
    (ref07_NumbersOf v23 v24 v25 v4 v5 v6 v28 v29).bind fun (v30, v31) =>
    some (.inl ((if v30 > v11 then v30 else v11), (IntKind.i64.wrap (v12 + 1)))))
  else
    (some (.inr v11))
noncomputable def ref07_Aligned_l2 (v1 : Int) (v2 : Int) (v3 : (List (Int × Int × Int × Int × Int))) (v4 : Int) (v5 : Int) (v6 : Int) (v32 : Int) : ((List (Int × Int × Int × Int × Int)) × Int) → Option (((List (Int × Int × Int × Int × Int)) × Int) ⊕ ((Unit) ⊕ ((List (Int × Int × Int × Int × Int))))) := fun (v36, v37) =>
  if (decide (v37 < (v36.length : Int))) = true then
    ((getI v3 v37).bind fun (v53, v54, v55, v56, v57) =>
    (ref07_Sound v1 v2 v3).bind fun (v58, v59) =>
    (ref07_NumbersOf v53 v54 v55 v4 v5 v6 v58 v59).bind fun (v60, v61) =>
    if (decide ((IntKind.i64.wrap (v32 - v60)) > 10000)) = true then
      (some (.inr (.inl ())))
    else
      ((getI v36 v37).bind fun (v62, v63, v64, v65, v66) =>
      some (.inl ((v36.set v37.toNat (v62, v63, v64, v65, (IntKind.i64.wrap (v32 - v60)))), (IntKind.i64.wrap (v37 + 1))))))
  else
    (some (.inr (.inr v36)))
noncomputable def ref07_Aligned (v1 : Int) (v2 : Int) (v3 : (List (Int × Int × Int × Int × Int))) (v4 : Int) (v5 : Int) (v6 : Int) : Option (Int × Int × (List (Int × Int × Int × Int × Int)) × Int) :=
  (run (ref07_Aligned_l1 v1 v2 v3 v4 v5 v6) (0, 0)).bind fun v32 =>
  (ref07_Copy v1 v2 v3).bind fun (v33, v34, v35) =>
  (run (ref07_Aligned_l2 v1 v2 v3 v4 v5 v6 v32) (v35, 0)).bind fun v67 => match v67 with
  | (.inl _) =>
    some (0, 0, ([] : List (Int × Int × Int × Int × Int)), 8)
  | (.inr v68) =>
    some (v33, v34, v68, 0)

end Go.Rex

namespace Go.Rex
open Go Go.Rex
noncomputable def law07_ArrayAligns (v1 : Int) (v2 : Int) (v3 : (List (Int × Int × Int × Int × Int))) (v4 : Int) (v5 : Int) (v6 : Int) : Option Bool :=
  (law07_few v1 v2 v3).bind fun v8 =>
  if v8 = true then
    ((ref07_Copy v1 v2 v3).bind fun (v9, v10, v11) =>
    (array_Aligned v9 v10 v11 v4 v5 v6).bind fun (v12, v13, v14, v15) =>
    (law07_arrayErr v1 v2 v3 v4 v5 v6).bind fun v16 =>
    if (decide (v16 = 0)) = true then
      ((ref07_Aligned v1 v2 v3 v4 v5 v6).bind fun (v17, v18, v19, v20) =>
      if (decide (v15 ≠ v20)) = true then
        (some (false))
      else
        ((ref07_Same v12 v13 v14 v17 v18 v19).bind fun v21 =>
        if v21 = true then
          (if (decide (v20 ≠ 0)) = true then
            (some (true))
          else
            ((ref07_Copy v12 v13 v14).bind fun (v22, v23, v24) =>
            (array_Aligned v22 v23 v24 v4 v5 v6).bind fun (v25, v26, v27, v28) =>
            (ref07_Copy v1 v2 v3).bind fun (v29, v30, v31) =>
            (array_PressureAt v29 v30 v31 v4 v5 v6).bind fun (v32, v33, v34) =>
            (ref07_Copy v12 v13 v14).bind fun (v35, v36, v37) =>
            (array_PressureAt v35 v36 v37 v4 v5 v6).bind fun (v38, v39, v40) =>
            (law07_parts v32 v33).bind fun (v41, v42, v43) =>
            (law07_parts v38 v39).bind fun (v44, v45, v46) =>
            if (decide (v28 ≠ 0)) = true then
              (some (false))
            else
              ((ref07_Same v25 v26 v27 v12 v13 v14).bind fun v47 =>
              if v47 = true then
                (if (decide (v34 ≠ 0)) = true then
                  (some (false))
                else
                  (if (decide (v40 ≠ 0)) = true then
                    (some (false))
                  else
                    (if v43 = true then
                      (if v46 = true then
                        ((base_Within v41 (-1000000000) 1000000000).bind fun v48 =>
                        if v48 = true then
                          ((base_Within v42 (-1000000000) 1000000000).bind fun v49 =>
                          if v49 = true then
                            ((base_Within v44 (-1000000000) 1000000000).bind fun v50 =>
                            if v50 = true then
                              ((base_Within v45 (-1000000000) 1000000000).bind fun v51 =>
                              if v51 = true then
                                (if (decide (v44 = 0)) = true then
                                  (some ((decide ((IntKind.i64.wrap ((IntKind.i64.wrap (v44 * v44)) + (IntKind.i64.wrap (v45 * v45)))) ≥ (IntKind.i64.wrap ((IntKind.i64.wrap (v41 * v41)) + (IntKind.i64.wrap (v42 * v42))))))))
                                else
                                  (if (decide (v45 = 0)) = true then
                                    (some ((decide ((IntKind.i64.wrap ((IntKind.i64.wrap (v44 * v44)) + (IntKind.i64.wrap (v45 * v45)))) ≥ (IntKind.i64.wrap ((IntKind.i64.wrap (v41 * v41)) + (IntKind.i64.wrap (v42 * v42))))))))
                                  else
                                    (some (false))))
                              else
                                (some (false)))
                            else
                              (some (false)))
                          else
                            (some (false)))
                        else
                          (some (false)))
                      else
                        (some (false)))
                    else
                      (some (false)))))
              else
                (some (false)))))
        else
          (some (false))))
    else
      (if (decide (v15 ≠ v16)) = true then
        (some (false))
      else
        ((ref07_Same_1134 v12 v13 v14 0 0).bind fun v52 =>
        if v52 = true then
          (if (decide (v16 ≠ 0)) = true then
            (some (true))
          else
            ((ref07_Copy v12 v13 v14).bind fun (v53, v54, v55) =>
            (array_Aligned v53 v54 v55 v4 v5 v6).bind fun (v56, v57, v58, v59) =>
            (ref07_Copy v1 v2 v3).bind fun (v60, v61, v62) =>
            (array_PressureAt v60 v61 v62 v4 v5 v6).bind fun (v63, v64, v65) =>
            (ref07_Copy v12 v13 v14).bind fun (v66, v67, v68) =>
            (array_PressureAt v66 v67 v68 v4 v5 v6).bind fun (v69, v70, v71) =>
            (law07_parts v63 v64).bind fun (v72, v73, v74) =>
            (law07_parts v69 v70).bind fun (v75, v76, v77) =>
            if (decide (v59 ≠ 0)) = true then
              (some (false))
            else
              ((ref07_Same v56 v57 v58 v12 v13 v14).bind fun v78 =>
              if v78 = true then
                (if (decide (v65 ≠ 0)) = true then
                  (some (false))
                else
                  (if (decide (v71 ≠ 0)) = true then
                    (some (false))
                  else
                    (if v74 = true then
                      (if v77 = true then
                        ((base_Within v72 (-1000000000) 1000000000).bind fun v79 =>
                        if v79 = true then
                          ((base_Within v73 (-1000000000) 1000000000).bind fun v80 =>
                          if v80 = true then
                            ((base_Within v75 (-1000000000) 1000000000).bind fun v81 =>
                            if v81 = true then
                              ((base_Within v76 (-1000000000) 1000000000).bind fun v82 =>
                              if v82 = true then
                                (if (decide (v75 = 0)) = true then
                                  (some ((decide ((IntKind.i64.wrap ((IntKind.i64.wrap (v75 * v75)) + (IntKind.i64.wrap (v76 * v76)))) ≥ (IntKind.i64.wrap ((IntKind.i64.wrap (v72 * v72)) + (IntKind.i64.wrap (v73 * v73))))))))
                                else
                                  (if (decide (v76 = 0)) = true then
                                    (some ((decide ((IntKind.i64.wrap ((IntKind.i64.wrap (v75 * v75)) + (IntKind.i64.wrap (v76 * v76)))) ≥ (IntKind.i64.wrap ((IntKind.i64.wrap (v72 * v72)) + (IntKind.i64.wrap (v73 * v73))))))))
                                  else
                                    (some (false))))
                              else
                                (some (false)))
                            else
                              (some (false)))
                          else
                            (some (false)))
                        else
                          (some (false)))
                      else
                        (some (false)))
                    else
                      (some (false)))))
              else
                (some (false)))))
        else
          (some (false)))))
  else
    (some (true))

end Go.Rex
