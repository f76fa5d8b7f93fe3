/- The functions of the program and of the reference, as functions of lists and numbers. -/
import Derived.Test.YtpcjgdfcefidlaaRexG7
set_option linter.unusedSimpArgs false
set_option linter.unusedVariables false
set_option linter.defProp false
namespace Go.Rex
open Go Go.Rex
def e_iiiii (x : (Int × Int × Int × Int × Int)) : List TV := [.v (.int .i64 x.1), .v (.int .i64 x.2.1), .v (.int .i64 x.2.2.1), .v (.int .i64 x.2.2.2.1), .v (.int .i64 x.2.2.2.2)]
def e_i (x : Int) : List TV := [.v (.int .i64 x)]
def e_iiiiiiiii (x : (Int × Int × Int × Int × Int × Int × Int × Int × Int)) : List TV := [.v (.int .i64 x.1), .v (.int .i64 x.2.1), .v (.int .i64 x.2.2.1), .v (.int .i64 x.2.2.2.1), .v (.int .i64 x.2.2.2.2.1), .v (.int .i64 x.2.2.2.2.2.1), .v (.int .i64 x.2.2.2.2.2.2.1), .v (.int .i64 x.2.2.2.2.2.2.2.1), .v (.int .i64 x.2.2.2.2.2.2.2.2)]
def e_z (x : (Nat × Nat)) : List TV := [.v (.complex .f64 x.1 x.2)]
def e_d (x : Nat) : List TV := [.v (.float .f64 x)]

end Go.Rex

namespace Go.Rex
open Go Go.Rex
noncomputable def ref07_Copy (v1 : Int) (v2 : Int) (v3 : (List (Int × Int × Int × Int × Int))) : Option (Int × Int × (List (Int × Int × Int × Int × Int))) :=
  (appI 40 ([] : List (Int × Int × Int × Int × Int)) v3).bind fun v7 =>
  some (v1, v2, v7)

end Go.Rex

namespace Go.Rex
open Go Go.Rex
noncomputable def array_rig_sound (v1 : Int) (v2 : Int) (v3 : (List (Int × Int × Int × Int × Int))) : Option (Int × Int) :=
  some (v1, v2)

end Go.Rex

namespace Go.Rex
open Go Go.Rex
noncomputable def array_audible (v1 : Int) (v2 : Int) : Option (Int × Int) :=
  some (v1, v2)

end Go.Rex

namespace Go.Rex
open Go Go.Rex
noncomputable def array_counted (v1 : Int) (v2 : Int) : Option (Int × Int) :=
  some (v1, v2)

end Go.Rex

namespace Go.Rex
open Go Go.Rex
noncomputable def array_refuse (v1 : Bool) (v2 : Int) : Option (Bool × Int) :=
  some (v1, v2)

end Go.Rex

namespace Go.Rex
open Go Go.Rex
noncomputable def array_within (v1 : Int) (v2 : Int) (v3 : Int) : Option (Bool × Int) :=
  if (decide (v1 < v2)) = true then
    ((array_refuse true 2).bind fun (v6, v7) =>
    some (v6, v7))
  else
    ((array_refuse (decide (v1 > v3)) 2).bind fun (v8, v9) =>
    some (v8, v9))

end Go.Rex

namespace Go.Rex
open Go Go.Rex
noncomputable def array_refuse_c1_11f9 (v1 : Bool) (v2 : Int) : Option (Int) :=
  if v1 = true then
    (some (v2))
  else
    (some (0))

end Go.Rex

namespace Go.Rex
open Go Go.Rex
noncomputable def array_firstError_751b (v1 : Bool) (v2 : Int) (v3 : Bool) (v4 : Int) : Option (Int) :=
  (array_refuse_c1_11f9 v1 v2).bind fun v6 =>
  if (decide (v6 ≠ 0)) = true then
    (some (v6))
  else
    ((array_refuse_c1_11f9 v3 v4).bind fun v7 =>
    if (decide (v7 ≠ 0)) = true then
      (some (v7))
    else
      (some (0)))

end Go.Rex

namespace Go.Rex
open Go Go.Rex
noncomputable def array_audible_c1_eebc (v1 : Int) (v2 : Int) : Option (Int) :=
  (array_within v1 8000 192000).bind fun (v4, v5) =>
  (array_within v2 30000 40000).bind fun (v6, v7) =>
  (array_firstError_751b v4 v5 v6 v7).bind fun v8 =>
  some (v8)

end Go.Rex

namespace Go.Rex
open Go Go.Rex
noncomputable def array_counted_c1_b585 (v1 : Int) (v2 : Int) : Option (Int) :=
  (array_refuse (decide (v1 = 0)) 10).bind fun (v4, v5) =>
  (array_refuse (decide (v1 > v2)) 8).bind fun (v6, v7) =>
  (array_firstError_751b v4 v5 v6 v7).bind fun v8 =>
  some (v8)

end Go.Rex

namespace Go.Rex
open Go Go.Rex
noncomputable def array_firstError_2e50 (v1 : Int) (v2 : Int) (v3 : Int) (v4 : Int) : Option (Int) :=
  (array_audible_c1_eebc v1 v2).bind fun v6 =>
  if (decide (v6 ≠ 0)) = true then
    (some (v6))
  else
    ((array_counted_c1_b585 v3 v4).bind fun v7 =>
    if (decide (v7 ≠ 0)) = true then
      (some (v7))
    else
      (some (0)))

end Go.Rex

namespace Go.Rex
open Go Go.Rex
noncomputable def array_each_aa71 (v1 : Int) (v2 : (List Int)) (v3 : Int) (v4 : Int) : Option (Int × (List Int) × Int × Int) :=
  some (v1, v2, v3, v4)

end Go.Rex

namespace Go.Rex
open Go Go.Rex
noncomputable def array_allWithin (v1 : (List Int)) (v2 : Int) (v3 : Int) : Option (Int × (List Int) × Int × Int) :=
  (array_each_aa71 (v1.length : Int) v1 v2 v3).bind fun (v8, v9, v10, v11) =>
  some (v8, v9, v10, v11)

end Go.Rex

namespace Go.Rex
open Go Go.Rex
noncomputable def array_placed (v1 : Int) (v2 : Int) (v3 : Int) : Option (Int × (List Int) × Int × Int) :=
  (array_allWithin ([v1, v2, v3] : List Int) (-5000) 5000).bind fun (v8, v9, v10, v11) =>
  some (v8, v9, v10, v11)

end Go.Rex

namespace Go.Rex
open Go Go.Rex
noncomputable def array_adjusted (v1 : Int) (v2 : Int) : Option (Int × Int) :=
  some (v1, v2)

end Go.Rex

namespace Go.Rex
open Go Go.Rex
noncomputable def array_allWithin_c1_ea58 (v1 : Int) (v2 : (List Int)) (v3 : Int) (v4 : Int) : Option (Int) :=
  (getI v2 v1).bind fun v6 =>
  (array_within v6 v3 v4).bind fun (v7, v8) =>
  (array_refuse_c1_11f9 v7 v8).bind fun v9 =>
  some (v9)

end Go.Rex

namespace Go.Rex
open Go Go.Rex
noncomputable def array_each_c1_6239_l1 (v1 : Int) (v2 : (List Int)) (v3 : Int) (v4 : Int) : (Int) → Option ((Int) ⊕ ((Int) ⊕ (Unit))) := fun v6 =>
  if (decide (v6 < v1)) = true then
    ((array_allWithin_c1_ea58 v6 v2 v3 v4).bind fun v9 =>
    if (decide (v9 ≠ 0)) = true then
      (some (.inr (.inl v9)))
    else
      (some (.inl (IntKind.i64.wrap (v6 + 1)))))
  else
    (some (.inr (.inr ())))
noncomputable def array_each_c1_6239 (v1 : Int) (v2 : (List Int)) (v3 : Int) (v4 : Int) : Option (Int) :=
  (run (array_each_c1_6239_l1 v1 v2 v3 v4) 0).bind fun v10 => match v10 with
  | (.inl v11) =>
    some (v11)
  | (.inr _) =>
    some (0)

end Go.Rex

namespace Go.Rex
open Go Go.Rex
noncomputable def array_adjusted_c1_b585 (v1 : Int) (v2 : Int) : Option (Int) :=
  (array_within v1 0 1000).bind fun (v4, v5) =>
  (array_within v2 0 10000).bind fun (v6, v7) =>
  (array_firstError_751b v4 v5 v6 v7).bind fun v8 =>
  some (v8)

end Go.Rex

namespace Go.Rex
open Go Go.Rex
noncomputable def array_firstError_34f2 (v1 : Int) (v2 : (List Int)) (v3 : Int) (v4 : Int) (v5 : Int) (v6 : Int) : Option (Int) :=
  (array_each_c1_6239 v1 v2 v3 v4).bind fun v8 =>
  if (decide (v8 ≠ 0)) = true then
    (some (v8))
  else
    ((array_adjusted_c1_b585 v5 v6).bind fun v9 =>
    if (decide (v9 ≠ 0)) = true then
      (some (v9))
    else
      (some (0)))

end Go.Rex

namespace Go.Rex
open Go Go.Rex
noncomputable def array_CheckArray_l1 (v3 : (List (Int × Int × Int × Int × Int))) : (Int) → Option ((Int) ⊕ ((Int × Int) ⊕ (Unit))) := fun v13 =>
  if (decide (v13 < (v3.length : Int))) = true then
    ((getI v3 v13).bind fun (v28, v29, v30, v31, v32) =>
    (array_placed v28 v29 v30).bind fun (v33, v34, v35, v36) =>
    (array_adjusted v31 v32).bind fun (v37, v38) =>
    (array_firstError_34f2 v33 v34 v35 v36 v37 v38).bind fun v39 =>
    if (decide (v39 ≠ 0)) = true then
      (some (.inr (.inl (v13, v39))))
    else
      (some (.inl (IntKind.i64.wrap (v13 + 1)))))
  else
    (some (.inr (.inr ())))
noncomputable def array_CheckArray (v1 : Int) (v2 : Int) (v3 : (List (Int × Int × Int × Int × Int))) : Option (Int × Int) :=
  (array_rig_sound v1 v2 v3).bind fun (v6, v7) =>
  (array_audible v6 v7).bind fun (v8, v9) =>
  (array_counted (v3.length : Int) 8).bind fun (v10, v11) =>
  (array_firstError_2e50 v8 v9 v10 v11).bind fun v12 =>
  if (decide (v12 ≠ 0)) = true then
    (some (0, v12))
  else
    ((run (array_CheckArray_l1 v3) 0).bind fun v40 => match v40 with
    | (.inl (v41, v42)) =>
      some (v41, v42)
    | (.inr _) =>
      some (0, 0))

end Go.Rex

namespace Go.Rex
open Go Go.Rex
noncomputable def array_rig_check (v1 : Int) (v2 : Int) (v3 : (List (Int × Int × Int × Int × Int))) : Option (Int) :=
  (array_CheckArray v1 v2 v3).bind fun (v5, v6) =>
  some (v6)

end Go.Rex

namespace Go.Rex
open Go Go.Rex
noncomputable def array_each_a530 (v1 : Int) (v2 : Int) (v3 : Int) (v4 : (List (Int × Int × Int × Int × Int))) (v5 : Int) (v6 : Int) (v7 : Int) : Option (Int × Int × Int × (List (Int × Int × Int × Int × Int)) × Int × Int × Int) :=
  some (v1, v2, v3, v4, v5, v6, v7)

end Go.Rex

namespace Go.Rex
open Go Go.Rex
noncomputable def array_heard_wayFrom (v1 : Int) (v2 : Int) (v3 : (List (Int × Int × Int × Int × Int))) (v4 : Int) (v5 : Int) (v6 : Int) (v7 : Int) (v8 : Int) (v9 : Int) (v10 : Int) (v11 : Int) : Option (Int × Int × Int × Int × Int × Int) :=
  some (v7, v8, v9, v4, v5, v6)

end Go.Rex

namespace Go.Rex
open Go Go.Rex
noncomputable def array_way_square (v1 : Int) (v2 : Int) (v3 : Int) (v4 : Int) (v5 : Int) (v6 : Int) : Option (Int) :=
  some ((IntKind.i64.wrap ((IntKind.i64.wrap ((IntKind.i64.wrap ((IntKind.i64.wrap (v4 - v1)) * (IntKind.i64.wrap (v4 - v1)))) + (IntKind.i64.wrap ((IntKind.i64.wrap (v5 - v2)) * (IntKind.i64.wrap (v5 - v2)))))) + (IntKind.i64.wrap ((IntKind.i64.wrap (v6 - v3)) * (IntKind.i64.wrap (v6 - v3)))))))

end Go.Rex

namespace Go.Rex
open Go Go.Rex
noncomputable def array_way_apart (v1 : Int) (v2 : Int) (v3 : Int) (v4 : Int) (v5 : Int) (v6 : Int) : Option (Int) :=
  (array_way_square v1 v2 v3 v4 v5 v6).bind fun v8 =>
  (array_refuse (decide (v8 < 100)) 11).bind fun (v9, v10) =>
  (array_refuse_c1_11f9 v9 v10).bind fun v11 =>
  some (v11)

end Go.Rex

namespace Go.Rex
open Go Go.Rex
noncomputable def array_heard_seated_c1_09d0 (v1 : Int) (v2 : Int) (v3 : Int) (v4 : (List (Int × Int × Int × Int × Int))) (v5 : Int) (v6 : Int) (v7 : Int) : Option (Int) :=
  (getI v4 v1).bind fun (v9, v10, v11, v12, v13) =>
  (array_heard_wayFrom v2 v3 v4 v5 v6 v7 v9 v10 v11 v12 v13).bind fun (v14, v15, v16, v17, v18, v19) =>
  (array_way_apart v14 v15 v16 v17 v18 v19).bind fun v20 =>
  some (v20)

end Go.Rex

namespace Go.Rex
open Go Go.Rex
noncomputable def array_each_c1_d3aa_l1 (v1 : Int) (v2 : Int) (v3 : Int) (v4 : (List (Int × Int × Int × Int × Int))) (v5 : Int) (v6 : Int) (v7 : Int) : (Int) → Option ((Int) ⊕ ((Int) ⊕ (Unit))) := fun v9 =>
  if (decide (v9 < v1)) = true then
    ((array_heard_seated_c1_09d0 v9 v2 v3 v4 v5 v6 v7).bind fun v12 =>
    if (decide (v12 ≠ 0)) = true then
      (some (.inr (.inl v12)))
    else
      (some (.inl (IntKind.i64.wrap (v9 + 1)))))
  else
    (some (.inr (.inr ())))
noncomputable def array_each_c1_d3aa (v1 : Int) (v2 : Int) (v3 : Int) (v4 : (List (Int × Int × Int × Int × Int))) (v5 : Int) (v6 : Int) (v7 : Int) : Option (Int) :=
  (run (array_each_c1_d3aa_l1 v1 v2 v3 v4 v5 v6 v7) 0).bind fun v13 => match v13 with
  | (.inl v14) =>
    some (v14)
  | (.inr _) =>
    some (0)

end Go.Rex

namespace Go.Rex
open Go Go.Rex
noncomputable def array_firstError_71a7 (v1 : Int) (v2 : (List Int)) (v3 : Int) (v4 : Int) (v5 : Int) (v6 : Int) (v7 : Int) (v8 : (List (Int × Int × Int × Int × Int))) (v9 : Int) (v10 : Int) (v11 : Int) : Option (Int) :=
  (array_each_c1_6239 v1 v2 v3 v4).bind fun v13 =>
  if (decide (v13 ≠ 0)) = true then
    (some (v13))
  else
    ((array_each_c1_d3aa v5 v6 v7 v8 v9 v10 v11).bind fun v14 =>
    if (decide (v14 ≠ 0)) = true then
      (some (v14))
    else
      (some (0)))

end Go.Rex

namespace Go.Rex
open Go Go.Rex
noncomputable def array_heard_seated (v1 : Int) (v2 : Int) (v3 : (List (Int × Int × Int × Int × Int))) (v4 : Int) (v5 : Int) (v6 : Int) : Option (Int) :=
  (array_placed v4 v5 v6).bind fun (v8, v9, v10, v11) =>
  (array_each_a530 (v3.length : Int) v1 v2 v3 v4 v5 v6).bind fun (v12, v13, v14, v15, v16, v17, v18) =>
  (array_firstError_71a7 v8 v9 v10 v11 v12 v13 v14 v15 v16 v17 v18).bind fun v19 =>
  some (v19)

end Go.Rex

namespace Go.Rex
open Go Go.Rex
noncomputable def array_firstError_05b8 (v1 : Int) (v2 : Int) (v3 : (List (Int × Int × Int × Int × Int))) (v4 : Int) (v5 : Int) (v6 : (List (Int × Int × Int × Int × Int))) (v7 : Int) (v8 : Int) (v9 : Int) : Option (Int) :=
  (array_rig_check v1 v2 v3).bind fun v11 =>
  if (decide (v11 ≠ 0)) = true then
    (some (v11))
  else
    ((array_heard_seated v4 v5 v6 v7 v8 v9).bind fun v12 =>
    if (decide (v12 ≠ 0)) = true then
      (some (v12))
    else
      (some (0)))

end Go.Rex

namespace Go.Rex
open Go Go.Rex
noncomputable def array_root_c1_d3d3 (v1 : Int) (v2 : Int) : Option (Bool) :=
  some ((decide ((IntKind.i64.wrap ((IntKind.i64.wrap (v1 + 1)) * (IntKind.i64.wrap (v1 + 1)))) > v2)))

end Go.Rex

namespace Go.Rex
open Go Go.Rex
noncomputable def sort_Search_2a44_l1 (v2 : Int) : (Int × Int) → Option ((Int × Int) ⊕ ((Int))) := fun (v4, v5) =>
  if (decide (v4 < v5)) = true then
    ((shI .shr .u64 (IntKind.u64.wrap (IntKind.i64.wrap (v4 + v5))) 1).bind fun v9 =>
    (array_root_c1_d3d3 (IntKind.i64.wrap v9) v2).bind fun v10 =>
    if v10 = true then
      (some (.inl (v4, (IntKind.i64.wrap v9))))
    else
      (some (.inl ((IntKind.i64.wrap ((IntKind.i64.wrap v9) + 1)), v5))))
  else
    (some (.inr v4))
noncomputable def sort_Search_2a44 (v1 : Int) (v2 : Int) : Option (Int) :=
  (run (sort_Search_2a44_l1 v2) (0, v1)).bind fun v11 =>
  some (v11)

end Go.Rex

namespace Go.Rex
open Go Go.Rex
noncomputable def array_root (v1 : Int) : Option (Int × Int) :=
  (sort_Search_2a44 2147483648 v1).bind fun v4 =>
  if (decide ((IntKind.i64.wrap (v4 * v4)) = v1)) = true then
    (some (v4, v4))
  else
    (some (v4, (IntKind.i64.wrap (v4 + 1))))

end Go.Rex

namespace Go.Rex
open Go Go.Rex
noncomputable def array_way_length (v1 : Int) (v2 : Int) (v3 : Int) (v4 : Int) (v5 : Int) (v6 : Int) : Option (Int × Int) :=
  (array_way_square v1 v2 v3 v4 v5 v6).bind fun v9 =>
  (array_root (IntKind.i64.wrap (1000000 * v9))).bind fun (v10, v11) =>
  some (v10, v11)

end Go.Rex

namespace Go.Rex
open Go Go.Rex
noncomputable def array_up (v1 : Int) (v2 : Int) : Option (Int) :=
  if v2 = 0 then none else
  (some ((IntKind.i64.wrap ((IntKind.i64.wrap ((IntKind.i64.wrap (v1 + v2)) - 1)).tdiv v2))))

end Go.Rex

namespace Go.Rex
open Go Go.Rex
noncomputable def array_scaled (v1 : Int) (v2 : Int) (v3 : Int) (v4 : Int) : Option (Int × Int) :=
  if v4 = 0 then none else
  ((array_up (IntKind.i64.wrap (v2 * v3)) v4).bind fun v7 =>
  some ((IntKind.i64.wrap ((IntKind.i64.wrap (v1 * v3)).tdiv v4)), v7))

end Go.Rex

namespace Go.Rex
open Go Go.Rex
noncomputable def array_way_numbers_c1 (v1 : Int) : Option (Int) :=
  some ((IntKind.i64.wrap ((IntKind.i64.wrap (v1 + 500)).tdiv 1000)))

end Go.Rex

namespace Go.Rex
open Go Go.Rex
noncomputable def array_way_numbers (v1 : Int) (v2 : Int) (v3 : Int) (v4 : Int) (v5 : Int) (v6 : Int) (v7 : Int) (v8 : Int) : Option (Int × Int) :=
  (array_way_length v1 v2 v3 v4 v5 v6).bind fun (v11, v12) =>
  (array_scaled v11 v12 v7 v8).bind fun (v13, v14) =>
  (array_way_numbers_c1 v13).bind fun v15 =>
  (array_way_numbers_c1 v14).bind fun v16 =>
  some (v15, v16)

end Go.Rex

namespace Go.Rex
open Go Go.Rex
noncomputable def array_way_strength (v1 : Int) (v2 : Int) (v3 : Int) (v4 : Int) (v5 : Int) (v6 : Int) : Option (Int × Int) :=
  (array_way_length v1 v2 v3 v4 v5 v6).bind fun (v9, v10) =>
  if v10 = 0 then none else
  ((array_up 1000000000 v9).bind fun v11 =>
  some ((IntKind.i64.wrap ((1000000000 : Int).tdiv v10)), v11))

end Go.Rex

namespace Go.Rex
open Go Go.Rex
noncomputable def array_heard_parts_l1 (v1 : Int) (v2 : Int) (v3 : (List (Int × Int × Int × Int × Int))) (v4 : Int) (v5 : Int) (v6 : Int) : ((List (Int × Int × Int × Int × Int × Int × Int × Int × Int)) × Int) → Option (((List (Int × Int × Int × Int × Int × Int × Int × Int × Int)) × Int) ⊕ (((List (Int × Int × Int × Int × Int × Int × Int × Int × Int))))) := fun (v8, v9) =>
  if (decide (v9 < (v3.length : Int))) = true then
    ((getI v3 v9).bind fun (v29, v30, v31, v32, v33) =>
    (array_heard_wayFrom v1 v2 v3 v4 v5 v6 v29 v30 v31 v32 v33).bind fun (v34, v35, v36, v37, v38, v39) =>
    (array_rig_sound v1 v2 v3).bind fun (v40, v41) =>
    (array_way_numbers v34 v35 v36 v37 v38 v39 v40 v41).bind fun (v42, v43) =>
    (array_way_strength v34 v35 v36 v37 v38 v39).bind fun (v44, v45) =>
    (appI 72 v8 ([(v29, v30, v31, v32, v33, v42, v43, v44, v45)] : List (Int × Int × Int × Int × Int × Int × Int × Int × Int))).bind fun v46 =>
    some (.inl (v46, (IntKind.i64.wrap (v9 + 1)))))
  else
    (some (.inr v8))
noncomputable def array_heard_parts (v1 : Int) (v2 : Int) (v3 : (List (Int × Int × Int × Int × Int))) (v4 : Int) (v5 : Int) (v6 : Int) : Option ((List (Int × Int × Int × Int × Int × Int × Int × Int × Int))) :=
  (run (array_heard_parts_l1 v1 v2 v3 v4 v5 v6) (([] : List (Int × Int × Int × Int × Int × Int × Int × Int × Int)), 0)).bind fun v47 =>
  some (v47)

end Go.Rex

namespace Go.Rex
open Go Go.Rex
noncomputable def slices_Clone_api_ArraySpeaker_api_ArraySpeaker (v1 : (List (Int × Int × Int × Int × Int))) : Option ((List (Int × Int × Int × Int × Int))) :=
  nilq v1
    (some (([] : List (Int × Int × Int × Int × Int))))
    ((appI 40 ([] : List (Int × Int × Int × Int × Int)) v1).bind fun v3 =>
    some (v3))

end Go.Rex

namespace Go.Rex
open Go Go.Rex
noncomputable def array_rig_copied (v1 : Int) (v2 : Int) (v3 : (List (Int × Int × Int × Int × Int))) : Option (Int × Int × (List (Int × Int × Int × Int × Int))) :=
  (slices_Clone_api_ArraySpeaker_api_ArraySpeaker v3).bind fun v7 =>
  some (v1, v2, v7)

end Go.Rex

namespace Go.Rex
open Go Go.Rex
noncomputable def array_heard_aligned_l1 (v10 : (List (Int × Int × Int × Int × Int × Int × Int × Int × Int))) : (Int × Int) → Option ((Int × Int) ⊕ ((Int))) := fun (v11, v12) =>
  if (decide (v12 < (v10.length : Int))) = true then
    ((getI v10 v12).bind fun (v23, v24, v25, v26, v27, v28, v29, v30, v31) =>
    some (.inl ((if v28 > v11 then v28 else v11), (IntKind.i64.wrap (v12 + 1)))))
  else
    (some (.inr v11))
noncomputable def array_heard_aligned_l2 (v10 : (List (Int × Int × Int × Int × Int × Int × Int × Int × Int))) (v32 : Int) : ((List (Int × Int × Int × Int × Int)) × Int) → Option (((List (Int × Int × Int × Int × Int)) × Int) ⊕ (((List (Int × Int × Int × Int × Int))))) := fun (v36, v37) =>
  if (decide (v37 < (v10.length : Int))) = true then
    ((getI v10 v37).bind fun (v53, v54, v55, v56, v57, v58, v59, v60, v61) =>
    (getI v36 v37).bind fun (v62, v63, v64, v65, v66) =>
    some (.inl ((v36.set v37.toNat (v62, v63, v64, v65, (IntKind.i64.wrap (v32 - v58)))), (IntKind.i64.wrap (v37 + 1)))))
  else
    (some (.inr v36))
noncomputable def array_heard_aligned (v1 : Int) (v2 : Int) (v3 : (List (Int × Int × Int × Int × Int))) (v4 : Int) (v5 : Int) (v6 : Int) : Option (Int × Int × (List (Int × Int × Int × Int × Int))) :=
  (array_heard_parts v1 v2 v3 v4 v5 v6).bind fun v10 =>
  (run (array_heard_aligned_l1 v10) (0, 0)).bind fun v32 =>
  (array_rig_copied v1 v2 v3).bind fun (v33, v34, v35) =>
  (run (array_heard_aligned_l2 v10 v32) (v35, 0)).bind fun v67 =>
  some (v33, v34, v67)

end Go.Rex

namespace Go.Rex
open Go Go.Rex
noncomputable def array_told_api_Array_0533 (v1 : Int) (v2 : Int) (v3 : (List (Int × Int × Int × Int × Int))) (v4 : Int) (v5 : Int) (v6 : Int) : Option (Int × Int × (List (Int × Int × Int × Int × Int)) × Int) :=
  (array_firstError_05b8 v1 v2 v3 v1 v2 v3 v4 v5 v6).bind fun v11 =>
  if (decide (v11 ≠ 0)) = true then
    (some (0, 0, ([] : List (Int × Int × Int × Int × Int)), v11))
  else
    ((array_heard_aligned v1 v2 v3 v4 v5 v6).bind fun (v12, v13, v14) =>
    some (v12, v13, v14, 0))

end Go.Rex

namespace Go.Rex
open Go Go.Rex
noncomputable def array_Aligned_l1 (v13 : (List (Int × Int × Int × Int × Int))) : (Int) → Option ((Int) ⊕ ((Unit) ⊕ (Unit))) := fun v15 =>
  if (decide (v15 < (v13.length : Int))) = true then
    ((getI v13 v15).bind fun (v21, v22, v23, v24, v25) =>
    if (decide (v25 > 10000)) = true then
      (some (.inr (.inl ())))
    else
      (some (.inl (IntKind.i64.wrap (v15 + 1)))))
  else
    (some (.inr (.inr ())))
noncomputable def array_Aligned (v1 : Int) (v2 : Int) (v3 : (List (Int × Int × Int × Int × Int))) (v4 : Int) (v5 : Int) (v6 : Int) : Option (Int × Int × (List (Int × Int × Int × Int × Int)) × Int) :=
  (array_told_api_Array_0533 v1 v2 v3 v4 v5 v6).bind fun (v11, v12, v13, v14) =>
  if (decide (v14 ≠ 0)) = true then
    (some (0, 0, ([] : List (Int × Int × Int × Int × Int)), v14))
  else
    ((run (array_Aligned_l1 v13) 0).bind fun v26 => match v26 with
    | (.inl _) =>
      some (0, 0, ([] : List (Int × Int × Int × Int × Int)), 8)
    | (.inr _) =>
      some (v11, v12, v13, 0))

end Go.Rex

namespace Go.Rex
open Go Go.Rex
noncomputable def base_Mod (v1 : Int) (v2 : Int) : Option (Int) :=
  if v2 = 0 then none else
  (if (decide ((v1.tmod v2) < 0)) = true then
    (some ((IntKind.i64.wrap ((v1.tmod v2) + v2))))
  else
    (some ((v1.tmod v2))))

end Go.Rex

namespace Go.Rex
open Go Go.Rex
noncomputable def array_part_share (v1 : Int) (v2 : Int) (v3 : Int) (v4 : Int) (v5 : Int) (v6 : Int) (v7 : Int) (v8 : Int) (v9 : Int) (v10 : Int) (v11 : Int) : Option (Nat × Nat) :=
  (getI ([(4607182418800017408, 0), (0, 13830554455654793216), (13830554455654793216, 0), (0, 4607182418800017408)] : List (Nat × Nat)) ((IntKind.i64.wrap (v10 + v5)).tmod 4)).bind fun (v14, v15) =>
  (cmul (FloatKind.f64.nearest (IntKind.i64.wrap (v4 * v11))) 0 v14 v15).bind fun (v16, v17) =>
  some (v16, v17)

end Go.Rex

namespace Go.Rex
open Go Go.Rex
noncomputable def array_part_nominal (v1 : Int) (v2 : Int) (v3 : Int) (v4 : Int) (v5 : Int) (v6 : Int) (v7 : Int) (v8 : Int) (v9 : Int) : Option (Nat × Nat) :=
  (array_part_share v1 v2 v3 v4 v5 v6 v7 v8 v9 v6 v8).bind fun (v12, v13) =>
  some (v12, v13)

end Go.Rex

namespace Go.Rex
open Go Go.Rex
noncomputable def array_heard_pressure_l1 (v9 : (List (Int × Int × Int × Int × Int × Int × Int × Int × Int))) : (Nat × Nat × Int) → Option ((Nat × Nat × Int) ⊕ ((Nat × Nat))) := fun (v10, v11, v12) =>
  if (decide (v12 < (v9.length : Int))) = true then
    ((getI v9 v12).bind fun (v28, v29, v30, v31, v32, v33, v34, v35, v36) =>
    (array_part_nominal v28 v29 v30 v31 v32 v33 v34 v35 v36).bind fun (v37, v38) =>
    (farith .add .f64 v10 v37).bind fun v39 =>
    (farith .add .f64 v11 v38).bind fun v40 =>
    some (.inl (v39, v40, (IntKind.i64.wrap (v12 + 1)))))
  else
    (some (.inr (v10, v11)))
noncomputable def array_heard_pressure (v1 : Int) (v2 : Int) (v3 : (List (Int × Int × Int × Int × Int))) (v4 : Int) (v5 : Int) (v6 : Int) : Option (Nat × Nat) :=
  (array_heard_parts v1 v2 v3 v4 v5 v6).bind fun v9 =>
  (run (array_heard_pressure_l1 v9) (0, 0, 0)).bind fun (v41, v42) =>
  some (v41, v42)

end Go.Rex

namespace Go.Rex
open Go Go.Rex
noncomputable def array_told_complex128_eda1 (v1 : Int) (v2 : Int) (v3 : (List (Int × Int × Int × Int × Int))) (v4 : Int) (v5 : Int) (v6 : Int) : Option (Nat × Nat × Int) :=
  (array_firstError_05b8 v1 v2 v3 v1 v2 v3 v4 v5 v6).bind fun v10 =>
  if (decide (v10 ≠ 0)) = true then
    (some (0, 0, v10))
  else
    ((array_heard_pressure v1 v2 v3 v4 v5 v6).bind fun (v11, v12) =>
    some (v11, v12, 0))

end Go.Rex

namespace Go.Rex
open Go Go.Rex
noncomputable def array_PressureAt (v1 : Int) (v2 : Int) (v3 : (List (Int × Int × Int × Int × Int))) (v4 : Int) (v5 : Int) (v6 : Int) : Option (Nat × Nat × Int) :=
  (array_told_complex128_eda1 v1 v2 v3 v4 v5 v6).bind fun (v10, v11, v12) =>
  some (v10, v11, v12)

end Go.Rex

namespace Go.Rex
open Go Go.Rex
noncomputable def array_squared (v1 : Int) (v2 : Int) : Option (Int × Int) :=
  some ((IntKind.i64.wrap (v1 * v1)), (IntKind.i64.wrap (v2 * v2)))

end Go.Rex

namespace Go.Rex
open Go Go.Rex
noncomputable def array_plus (v1 : Int) (v2 : Int) (v3 : Int) (v4 : Int) : Option (Int × Int) :=
  some ((IntKind.i64.wrap (v1 + v3)), (IntKind.i64.wrap (v2 + v4)))

end Go.Rex

namespace Go.Rex
open Go Go.Rex
noncomputable def array_heard_energy_l1 (v9 : (List (Int × Int × Int × Int × Int × Int × Int × Int × Int))) : (Int × Int × Int) → Option ((Int × Int × Int) ⊕ ((Int × Int))) := fun (v10, v11, v12) =>
  if (decide (v12 < (v9.length : Int))) = true then
    ((getI v9 v12).bind fun (v30, v31, v32, v33, v34, v35, v36, v37, v38) =>
    (array_scaled v37 v38 v33 1).bind fun (v39, v40) =>
    (array_squared v39 v40).bind fun (v41, v42) =>
    (array_plus v10 v11 v41 v42).bind fun (v43, v44) =>
    some (.inl (v43, v44, (IntKind.i64.wrap (v12 + 1)))))
  else
    (some (.inr (v10, v11)))
noncomputable def array_heard_energy (v1 : Int) (v2 : Int) (v3 : (List (Int × Int × Int × Int × Int))) (v4 : Int) (v5 : Int) (v6 : Int) : Option (Int × Int) :=
  (array_heard_parts v1 v2 v3 v4 v5 v6).bind fun v9 =>
  (run (array_heard_energy_l1 v9) (0, 0, 0)).bind fun (v45, v46) =>
  some (v45, v46)

end Go.Rex

namespace Go.Rex
open Go Go.Rex
noncomputable def array_told_api_Range_d3b0 (v1 : Int) (v2 : Int) (v3 : (List (Int × Int × Int × Int × Int))) (v4 : Int) (v5 : Int) (v6 : Int) : Option (Int × Int × Int) :=
  (array_firstError_05b8 v1 v2 v3 v1 v2 v3 v4 v5 v6).bind fun v10 =>
  if (decide (v10 ≠ 0)) = true then
    (some (0, 0, v10))
  else
    ((array_heard_energy v1 v2 v3 v4 v5 v6).bind fun (v11, v12) =>
    some (v11, v12, 0))

end Go.Rex

namespace Go.Rex
open Go Go.Rex
noncomputable def array_EnergyAt (v1 : Int) (v2 : Int) (v3 : (List (Int × Int × Int × Int × Int))) (v4 : Int) (v5 : Int) (v6 : Int) : Option (Int × Int × Int) :=
  (array_told_api_Range_d3b0 v1 v2 v3 v4 v5 v6).bind fun (v10, v11, v12) =>
  some (v10, v11, v12)

end Go.Rex

namespace Go.Rex
open Go Go.Rex
noncomputable def base_IsWhole (v1 : Nat) : Option (Bool) :=
  if (fcmp .neq .f64 v1 v1) = true then
    (some (false))
  else
    ((farith .sub .f64 v1 v1).bind fun v3 =>
    if (fcmp .neq .f64 v3 0) = true then
      (some (false))
    else
      (if (fcmp .geq .f64 v1 14069741636278059008) = true then
        (if (fcmp .leq .f64 v1 4846369599423283200) = true then
          ((f2i .f64 v1 .i64).bind fun v4 =>
          some ((fcmp .eql .f64 (FloatKind.f64.nearest v4) v1)))
        else
          (some (true)))
      else
        (some (true))))

end Go.Rex

namespace Go.Rex
open Go Go.Rex
noncomputable def top_TopAlignedLouder_l1 (v7 : (List Int)) : ((List (Int × Int × Int × Int × Int)) × Int) → Option (((List (Int × Int × Int × Int × Int)) × Int) ⊕ (((List (Int × Int × Int × Int × Int))))) := fun (v19, v20) =>
  if (decide (v20 < (v7.length : Int))) = true then
    (if (decide (v20 < (v19.length : Int))) = true then
      ((getI v7 v20).bind fun v29 =>
      (base_Mod v29 20).bind fun v30 =>
      (getI v19 v20).bind fun (v31, v32, v33, v34, v35) =>
      some (.inl ((v19.set v20.toNat (v31, v32, v33, v34, v30)), (IntKind.i64.wrap (v20 + 1)))))
    else
      (some (.inr v19)))
  else
    (some (.inr v19))
noncomputable def top_TopAlignedLouder_l2 (v40 : Nat) (v41 : Nat) (v43 : Nat) (v44 : Nat) : (Int × Int × Int × Int × Int) → Option ((Int × Int × Int × Int × Int) ⊕ ((Unit) ⊕ (Int × Int × Int × Int))) := fun (v49, v50, v51, v52, v53) =>
  if (decide (v53 < 4)) = true then
    ((getI ([v40, v41, v43, v44] : List Nat) v53).bind fun v62 =>
    (base_IsWhole v62).bind fun v63 =>
    if v63 = true then
      (if (fcmp .gtr .f64 v62 4741671816366391296) = true then
        (some (.inr (.inl ())))
      else
        (if (fcmp .lss .f64 v62 13965043853221167104) = true then
          (some (.inr (.inl ())))
        else
          ((f2i .f64 v62 .i64).bind fun v64 =>
          (getI ([v49, v50, v51, v52] : List Int) v53).bind fun v65 =>
          some (.inl ((if v53 = 0 then v64 else v49), (if v53 = 1 then v64 else v50), (if v53 = 2 then v64 else v51), (if v53 = 3 then v64 else v52), (IntKind.i64.wrap (v53 + 1)))))))
    else
      (some (.inr (.inl ()))))
  else
    (some (.inr (.inr (v49, v50, v51, v52))))
noncomputable def top_TopAlignedLouder (v1 : Int) (v2 : Int) (v3 : (List (Int × Int × Int × Int × Int))) (v4 : Int) (v5 : Int) (v6 : Int) (v7 : (List Int)) : Option Bool :=
  if (decide ((v3.length : Int) > 8)) = true then
    (some (true))
  else
    (if (decide ((v7.length : Int) > 8)) = true then
      (some (true))
    else
      ((ref07_Copy v1 v2 v3).bind fun (v9, v10, v11) =>
      (array_Aligned v9 v10 v11 v4 v5 v6).bind fun (v12, v13, v14, v15) =>
      if (decide (v15 ≠ 0)) = true then
        (some ((decide ((v14.length : Int) = 0))))
      else
        ((ref07_Copy v1 v2 v3).bind fun (v16, v17, v18) =>
        (run (top_TopAlignedLouder_l1 v7) (v18, 0)).bind fun v36 =>
        (ref07_Copy v12 v13 v14).bind fun (v37, v38, v39) =>
        (array_PressureAt v37 v38 v39 v4 v5 v6).bind fun (v40, v41, v42) =>
        (array_PressureAt v16 v17 v36 v4 v5 v6).bind fun (v43, v44, v45) =>
        (array_EnergyAt v12 v13 v14 v4 v5 v6).bind fun (v46, v47, v48) =>
        if (decide (v42 ≠ 0)) = true then
          (some (false))
        else
          (if (decide (v45 ≠ 0)) = true then
            (some (false))
          else
            (if (decide (v48 ≠ 0)) = true then
              (some (false))
            else
              ((run (top_TopAlignedLouder_l2 v40 v41 v43 v44) (0, 0, 0, 0, 0)).bind fun v66 => match v66 with
              | (.inl _) =>
                some (false)
              | (.inr (v67, v68, v69, v70)) =>
                if (decide ((IntKind.i64.wrap ((IntKind.i64.wrap (v67 * v67)) + (IntKind.i64.wrap (v68 * v68)))) ≥ (IntKind.i64.wrap ((IntKind.i64.wrap (v69 * v69)) + (IntKind.i64.wrap (v70 * v70)))))) = true then
                  (some ((decide ((IntKind.i64.wrap ((IntKind.i64.wrap (v67 * v67)) + (IntKind.i64.wrap (v68 * v68)))) ≥ v46))))
                else
                  (some (false))))))))

end Go.Rex
