/- The functions of the program and of the reference, as functions of lists and numbers. -/
import Derived.Test.YtllnpjkkpebplaaRexG9
set_option linter.unusedSimpArgs false
set_option linter.unusedVariables false
set_option linter.defProp false
namespace Go.Rex
open Go Go.Rex
def txt_c95356 : ByteArray := ⟨#[0, 1, 2, 2, 3, 3, 3, 3, 4, 4, 4, 4, 4, 4, 4, 4, 5, 5, 5, 5, 5, 5, 5, 5, 5, 5, 5, 5, 5, 5, 5, 5, 6, 6, 6, 6, 6, 6, 6, 6, 6, 6, 6, 6, 6, 6, 6, 6, 6, 6, 6, 6, 6, 6, 6, 6, 6, 6, 6, 6, 6, 6, 6, 6, 7, 7, 7, 7, 7, 7, 7, 7, 7, 7, 7, 7, 7, 7, 7, 7, 7, 7, 7, 7, 7, 7, 7, 7, 7, 7, 7, 7, 7, 7, 7, 7, 7, 7, 7, 7, 7, 7, 7, 7, 7, 7, 7, 7, 7, 7, 7, 7, 7, 7, 7, 7, 7, 7, 7, 7, 7, 7, 7, 7, 7, 7, 7, 7, 8, 8, 8, 8, 8, 8, 8, 8, 8, 8, 8, 8, 8, 8, 8, 8, 8, 8, 8, 8, 8, 8, 8, 8, 8, 8, 8, 8, 8, 8, 8, 8, 8, 8, 8, 8, 8, 8, 8, 8, 8, 8, 8, 8, 8, 8, 8, 8, 8, 8, 8, 8, 8, 8, 8, 8, 8, 8, 8, 8, 8, 8, 8, 8, 8, 8, 8, 8, 8, 8, 8, 8, 8, 8, 8, 8, 8, 8, 8, 8, 8, 8, 8, 8, 8, 8, 8, 8, 8, 8, 8, 8, 8, 8, 8, 8, 8, 8, 8, 8, 8, 8, 8, 8, 8, 8, 8, 8, 8, 8, 8, 8, 8, 8, 8, 8, 8, 8, 8, 8, 8, 8, 8, 8, 8, 8, 8, 8]⟩
def e_ii (x : (Int × Int)) : List TV := [.v (.int .i64 x.1), .v (.int .i64 x.2)]
def e_i (x : Int) : List TV := [.v (.int .i64 x)]
def e_Li_ (x : (List Int)) : List TV := [.list 1 (x.map e_i)]

end Go.Rex

namespace Go.Rex
open Go Go.Rex
noncomputable def base_Within (v1 : Int) (v2 : Int) (v3 : Int) : Option (Bool) :=
  if (decide (v2 ≤ v1)) = true then
    (some ((decide (v1 ≤ v3))))
  else
    (some (false))

end Go.Rex

namespace Go.Rex
open Go Go.Rex
noncomputable def loop_direction_turned (v1 : Int) (v2 : Int) : Option (Int × Int) :=
  some ((IntKind.i64.wrap (0 - v2)), v1)

end Go.Rex

namespace Go.Rex
open Go Go.Rex
noncomputable def math_bits_Len64 (v1 : Int) : Option (Int) :=
  if (decide (v1 ≥ 4294967296)) = true then
    ((shI .shr .u64 v1 32).bind fun v3 =>
    if (decide (v3 ≥ 65536)) = true then
      ((shI .shr .u64 v3 16).bind fun v4 =>
      if (decide (v4 ≥ 256)) = true then
        ((shI .shr .u64 v4 8).bind fun v5 =>
        (strI txt_c95356 (IntKind.u8.wrap v5)).bind fun v6 =>
        some ((IntKind.i64.wrap (56 + (IntKind.i64.wrap v6)))))
      else
        ((strI txt_c95356 (IntKind.u8.wrap v4)).bind fun v7 =>
        some ((IntKind.i64.wrap (48 + (IntKind.i64.wrap v7))))))
    else
      (if (decide (v3 ≥ 256)) = true then
        ((shI .shr .u64 v3 8).bind fun v8 =>
        (strI txt_c95356 (IntKind.u8.wrap v8)).bind fun v9 =>
        some ((IntKind.i64.wrap (40 + (IntKind.i64.wrap v9)))))
      else
        ((strI txt_c95356 (IntKind.u8.wrap v3)).bind fun v10 =>
        some ((IntKind.i64.wrap (32 + (IntKind.i64.wrap v10)))))))
  else
    (if (decide (v1 ≥ 65536)) = true then
      ((shI .shr .u64 v1 16).bind fun v11 =>
      if (decide (v11 ≥ 256)) = true then
        ((shI .shr .u64 v11 8).bind fun v12 =>
        (strI txt_c95356 (IntKind.u8.wrap v12)).bind fun v13 =>
        some ((IntKind.i64.wrap (24 + (IntKind.i64.wrap v13)))))
      else
        ((strI txt_c95356 (IntKind.u8.wrap v11)).bind fun v14 =>
        some ((IntKind.i64.wrap (16 + (IntKind.i64.wrap v14))))))
    else
      (if (decide (v1 ≥ 256)) = true then
        ((shI .shr .u64 v1 8).bind fun v15 =>
        (strI txt_c95356 (IntKind.u8.wrap v15)).bind fun v16 =>
        some ((IntKind.i64.wrap (8 + (IntKind.i64.wrap v16)))))
      else
        ((strI txt_c95356 (IntKind.u8.wrap v1)).bind fun v17 =>
        some ((IntKind.i64.wrap (0 + (IntKind.i64.wrap v17)))))))

end Go.Rex

namespace Go.Rex
open Go Go.Rex
noncomputable def math_bits_Len (v1 : Int) : Option (Int) :=
  (math_bits_Len64 v1).bind fun v3 =>
  some (v3)

end Go.Rex

namespace Go.Rex
open Go Go.Rex
noncomputable def loop_root_l1 (v1 : Int) : (Int) → Option ((Int) ⊕ ((Int))) := fun v5 =>
  if v5 = 0 then none else
  (if (decide ((IntKind.i64.wrap ((IntKind.i64.wrap (v5 + (IntKind.i64.wrap (v1.tdiv v5)))).tdiv 2)) ≥ v5)) = true then
    (some (.inr v5))
  else
    (some (.inl (IntKind.i64.wrap ((IntKind.i64.wrap (v5 + (IntKind.i64.wrap (v1.tdiv v5)))).tdiv 2)))))
noncomputable def loop_root (v1 : Int) : Option (Int) :=
  (math_bits_Len (IntKind.u64.wrap v1)).bind fun v3 =>
  (shI .shl .i64 1 (IntKind.i64.wrap ((IntKind.i64.wrap (v3 + 1)).tdiv 2))).bind fun v4 =>
  (run (loop_root_l1 v1) v4).bind fun v7 =>
  some (v7)

end Go.Rex

namespace Go.Rex
open Go Go.Rex
noncomputable def loop_modulo (v1 : Int) (v2 : Int) : Option (Int) :=
  if v2 = 0 then none else
  (some (((IntKind.i64.wrap ((v1.tmod v2) + v2)).tmod v2)))

end Go.Rex

namespace Go.Rex
open Go Go.Rex
noncomputable def loop_floor (v1 : Int) (v2 : Int) : Option (Int) :=
  (loop_modulo v1 v2).bind fun v4 =>
  if v2 = 0 then none else
  (some ((IntKind.i64.wrap ((IntKind.i64.wrap (v1 - v4)).tdiv v2))))

end Go.Rex

namespace Go.Rex
open Go Go.Rex
noncomputable def loop_nearest (v1 : Int) (v2 : Int) : Option (Int) :=
  (loop_floor (IntKind.i64.wrap (v1 + (IntKind.i64.wrap (v2.tdiv 2)))) v2).bind fun v4 =>
  some (v4)

end Go.Rex

namespace Go.Rex
open Go Go.Rex
noncomputable def loop_middle (v1 : Int) (v2 : Int) (v3 : Int) (v4 : Int) : Option (Int × Int) :=
  (loop_root (IntKind.i64.wrap ((IntKind.i64.wrap ((IntKind.i64.wrap (v1 + v3)) * (IntKind.i64.wrap (v1 + v3)))) + (IntKind.i64.wrap ((IntKind.i64.wrap (v2 + v4)) * (IntKind.i64.wrap (v2 + v4))))))).bind fun v7 =>
  (loop_nearest (IntKind.i64.wrap ((IntKind.i64.wrap (v1 + v3)) * 67108864)) v7).bind fun v8 =>
  (loop_nearest (IntKind.i64.wrap ((IntKind.i64.wrap (v2 + v4)) * 67108864)) v7).bind fun v9 =>
  some (v8, v9)

end Go.Rex

namespace Go.Rex
open Go Go.Rex
noncomputable def loop_newCircle_l2 (v14 : Int) : ((List (Int × Int)) × Int) → Option (((List (Int × Int)) × Int) ⊕ (((List (Int × Int))))) := fun (v36, v37) =>
  if (decide (v37 < 1024)) = true then
    ((getI v36 (IntKind.i64.wrap (v37 - v14))).bind fun (v47, v48) =>
    (getI v36 (IntKind.i64.wrap (v37 + v14))).bind fun (v49, v50) =>
    (loop_middle v47 v48 v49 v50).bind fun (v51, v52) =>
    (getI v36 v37).bind fun (v53, v54) =>
    some (.inl ((v36.set v37.toNat (v51, v52)), (IntKind.i64.wrap (v37 + (IntKind.i64.wrap (2 * v14)))))))
  else
    (some (.inr v36))
noncomputable def loop_newCircle_l1 : ((List (Int × Int)) × Int) → Option (((List (Int × Int)) × Int) ⊕ (((List (Int × Int))))) := fun (v13, v14) =>
  if (decide (v14 > 0)) = true then
    ((run (loop_newCircle_l2 v14) (v13, v14)).bind fun v55 =>
    some (.inl (v55, (IntKind.i64.wrap (v14.tdiv 2)))))
  else
    (some (.inr v13))
noncomputable def loop_newCircle : Option ((List (Int × Int))) :=
  (mkI 16 1025 ((0, 0) : (Int × Int))).bind fun v2 =>
  (getI v2 0).bind fun (v3, v4) =>
  (getI (v2.set (0 : Int).toNat (67108864, 0)) 512).bind fun (v5, v6) =>
  (getI ((v2.set (0 : Int).toNat (67108864, 0)).set (512 : Int).toNat (47453132, 47453132)) 0).bind fun (v7, v8) =>
  (loop_direction_turned v7 v8).bind fun (v9, v10) =>
  (getI ((v2.set (0 : Int).toNat (67108864, 0)).set (512 : Int).toNat (47453132, 47453132)) 1024).bind fun (v11, v12) =>
  (run (loop_newCircle_l1) ((((v2.set (0 : Int).toNat (67108864, 0)).set (512 : Int).toNat (47453132, 47453132)).set (1024 : Int).toNat (v9, v10)), 256)).bind fun v56 =>
  some (v56)

end Go.Rex

namespace Go.Rex
open Go Go.Rex
noncomputable def loop_circle_direction_l1 (v5 : Int) : (Int × Int × Int) → Option ((Int × Int × Int) ⊕ ((Int × Int))) := fun (v8, v9, v10) =>
  if (decide (v10 < (IntKind.i64.wrap (v5.tdiv 1024)))) = true then
    ((loop_direction_turned v8 v9).bind fun (v15, v16) =>
    some (.inl (v15, v16, (IntKind.i64.wrap (v10 + 1)))))
  else
    (some (.inr (v8, v9)))
noncomputable def loop_circle_direction (v1 : (List (Int × Int))) (v2 : Int) : Option (Int × Int) :=
  (loop_modulo v2 4096).bind fun v5 =>
  (getI v1 (v5.tmod 1024)).bind fun (v6, v7) =>
  (run (loop_circle_direction_l1 v5) (v6, v7, 0)).bind fun (v17, v18) =>
  some (v17, v18)

end Go.Rex

namespace Go.Rex
open Go Go.Rex
noncomputable def loop_circle_unit (v1 : (List (Int × Int))) (v2 : Int) : Option (Int × Int × Int) :=
  (loop_circle_direction v1 v2).bind fun (v6, v7) =>
  (loop_nearest v6 64).bind fun v8 =>
  (loop_nearest v7 64).bind fun v9 =>
  if (decide ((v2.tmod 1024) = 0)) = true then
    (some (v8, v9, 0))
  else
    (some (v8, v9, 2))

end Go.Rex

namespace Go.Rex
open Go Go.Rex
noncomputable def loop_UnitOf (v1 : Int) : Option (Int × Int × Int) :=
  (loop_newCircle).bind fun v5 =>
  (loop_circle_unit v5 v1).bind fun (v6, v7, v8) =>
  some (v6, v7, v8)

end Go.Rex

namespace Go.Rex
open Go Go.Rex
noncomputable def base_Root_l1 (v1 : Int) : (Int × Int) → Option ((Int × Int) ⊕ ((Int))) := fun (v3, v4) =>
  if (decide (v4 > 0)) = true then
    (if (decide ((IntKind.i64.wrap ((IntKind.i64.wrap (v3 + v4)) * (IntKind.i64.wrap (v3 + v4)))) ≤ v1)) = true then
      (some (.inl ((IntKind.i64.wrap (v3 + v4)), (IntKind.i64.wrap (v4.tdiv 2)))))
    else
      (some (.inl (v3, (IntKind.i64.wrap (v4.tdiv 2))))))
  else
    (some (.inr v3))
noncomputable def base_Root (v1 : Int) : Option (Int) :=
  (run (base_Root_l1 v1) (0, 1073741824)).bind fun v6 =>
  some (v6)

end Go.Rex

namespace Go.Rex
open Go Go.Rex
noncomputable def base_Floor (v1 : Int) (v2 : Int) : Option (Int) :=
  if v2 = 0 then none else
  (if (decide ((v1.tmod v2) < 0)) = true then
    (some ((IntKind.i64.wrap ((IntKind.i64.wrap (v1.tdiv v2)) - 1))))
  else
    (some ((IntKind.i64.wrap (v1.tdiv v2)))))

end Go.Rex

namespace Go.Rex
open Go Go.Rex
noncomputable def ref08_middle (v1 : Int) (v2 : Int) (v3 : Int) (v4 : Int) : Option (Int × Int) :=
  (base_Root (IntKind.i64.wrap ((IntKind.i64.wrap ((IntKind.i64.wrap (v1 + v3)) * (IntKind.i64.wrap (v1 + v3)))) + (IntKind.i64.wrap ((IntKind.i64.wrap (v2 + v4)) * (IntKind.i64.wrap (v2 + v4))))))).bind fun v7 =>
  (base_Floor (IntKind.i64.wrap ((IntKind.i64.wrap ((IntKind.i64.wrap (2 * (IntKind.i64.wrap (v1 + v3)))) * 67108864)) + v7)) (IntKind.i64.wrap (2 * v7))).bind fun v8 =>
  (base_Floor (IntKind.i64.wrap ((IntKind.i64.wrap ((IntKind.i64.wrap (2 * (IntKind.i64.wrap (v2 + v4)))) * 67108864)) + v7)) (IntKind.i64.wrap (2 * v7))).bind fun v9 =>
  some (v8, v9)

end Go.Rex

namespace Go.Rex
open Go Go.Rex
noncomputable def ref08_Table_l2 (v10 : Int) : ((List (Int × Int)) × Int) → Option (((List (Int × Int)) × Int) ⊕ (((List (Int × Int))))) := fun (v32, v33) =>
  if (decide (v33 < 1024)) = true then
    ((getI v32 (IntKind.i64.wrap (v33 - v10))).bind fun (v43, v44) =>
    (getI v32 (IntKind.i64.wrap (v33 + v10))).bind fun (v45, v46) =>
    (ref08_middle v43 v44 v45 v46).bind fun (v47, v48) =>
    (getI v32 v33).bind fun (v49, v50) =>
    some (.inl ((v32.set v33.toNat (v47, v48)), (IntKind.i64.wrap (v33 + (IntKind.i64.wrap (2 * v10)))))))
  else
    (some (.inr v32))
noncomputable def ref08_Table_l1 : ((List (Int × Int)) × Int) → Option (((List (Int × Int)) × Int) ⊕ (((List (Int × Int))))) := fun (v9, v10) =>
  if (decide (v10 ≥ 1)) = true then
    ((run (ref08_Table_l2 v10) (v9, v10)).bind fun v51 =>
    some (.inl (v51, (IntKind.i64.wrap (v10.tdiv 2)))))
  else
    (some (.inr v9))
noncomputable def ref08_Table : Option ((List (Int × Int))) :=
  (mkI 16 1025 ((0, 0) : (Int × Int))).bind fun v2 =>
  (getI v2 0).bind fun (v3, v4) =>
  (getI (v2.set (0 : Int).toNat (67108864, 0)) 512).bind fun (v5, v6) =>
  (getI ((v2.set (0 : Int).toNat (67108864, 0)).set (512 : Int).toNat (47453132, 47453132)) 1024).bind fun (v7, v8) =>
  (run (ref08_Table_l1) ((((v2.set (0 : Int).toNat (67108864, 0)).set (512 : Int).toNat (47453132, 47453132)).set (1024 : Int).toNat (0, 67108864)), 256)).bind fun v52 =>
  some (v52)

end Go.Rex

namespace Go.Rex
open Go Go.Rex
noncomputable def base_Mod (v1 : Int) (v2 : Int) : Option (Int) :=
  if v2 = 0 then none else
  (if (decide ((v1.tmod v2) < 0)) = true then
    (some ((IntKind.i64.wrap ((v1.tmod v2) + v2))))
  else
    (some ((v1.tmod v2))))

end Go.Rex

namespace Go.Rex
open Go Go.Rex
noncomputable def ref08_round (v1 : Int) (v2 : Int) : Option (Int) :=
  (base_Floor (IntKind.i64.wrap (v1 + (IntKind.i64.wrap (v2.tdiv 2)))) v2).bind fun v4 =>
  some (v4)

end Go.Rex

namespace Go.Rex
open Go Go.Rex
noncomputable def ref08_Unit_l1 (v6 : Int) : (Int × Int × Int) → Option ((Int × Int × Int) ⊕ ((Int × Int))) := fun (v9, v10, v11) =>
  if (decide (v11 < (IntKind.i64.wrap (v6.tdiv 1024)))) = true then
    (some (.inl ((IntKind.i64.wrap (0 - v10)), v9, (IntKind.i64.wrap (v11 + 1)))))
  else
    (some (.inr (v9, v10)))
noncomputable def ref08_Unit (v1 : (List (Int × Int))) (v2 : Int) : Option (Int × Int × Int) :=
  (base_Mod v2 4096).bind fun v6 =>
  (getI v1 (v6.tmod 1024)).bind fun (v7, v8) =>
  (run (ref08_Unit_l1 v6) (v7, v8, 0)).bind fun (v14, v15) =>
  if (decide ((v6.tmod 1024) = 0)) = true then
    ((ref08_round v14 64).bind fun v16 =>
    (ref08_round v15 64).bind fun v17 =>
    some (v16, v17, 0))
  else
    ((ref08_round v14 64).bind fun v18 =>
    (ref08_round v15 64).bind fun v19 =>
    some (v18, v19, 2))

end Go.Rex

namespace Go.Rex
open Go Go.Rex
noncomputable def law08_LoopUnits (v1 : Int) : Option Bool :=
  (base_Within v1 (-1000000000) 1000000000).bind fun v3 =>
  if v3 = true then
    ((loop_UnitOf v1).bind fun (v4, v5, v6) =>
    (loop_UnitOf (IntKind.i64.wrap (v1 + 4096))).bind fun (v7, v8, v9) =>
    (ref08_Table).bind fun v10 =>
    (ref08_Unit v10 v1).bind fun (v11, v12, v13) =>
    if ([v4 == v11, v5 == v12, v6 == v13].all id) = true then
      (if ([v7 == v4, v8 == v5, v9 == v6].all id) = true then
        (if (decide ((IntKind.i64.wrap ((IntKind.i64.wrap (v4 * v4)) + (IntKind.i64.wrap (v5 * v5)))) ≥ (IntKind.i64.wrap ((IntKind.i64.wrap (1048576 - v6)) * (IntKind.i64.wrap (1048576 - v6)))))) = true then
          (some ((decide ((IntKind.i64.wrap ((IntKind.i64.wrap (v4 * v4)) + (IntKind.i64.wrap (v5 * v5)))) ≤ (IntKind.i64.wrap ((IntKind.i64.wrap (1048576 + v6)) * (IntKind.i64.wrap (1048576 + v6))))))))
        else
          (some (false)))
      else
        (some (false)))
    else
      (some (false)))
  else
    (some (true))

end Go.Rex

namespace Go.Rex
open Go Go.Rex
noncomputable def loop_ceiling (v1 : Int) (v2 : Int) : Option (Int) :=
  (loop_floor (IntKind.i64.wrap (0 - v1)) v2).bind fun v4 =>
  some ((IntKind.i64.wrap (0 - v4)))

end Go.Rex

namespace Go.Rex
open Go Go.Rex
noncomputable def loop_size (v1 : Int) : Option (Int) :=
  some ((if (IntKind.i64.wrap (0 - v1)) > v1 then (IntKind.i64.wrap (0 - v1)) else v1))

end Go.Rex

namespace Go.Rex
open Go Go.Rex
noncomputable def base_Ceil (v1 : Int) (v2 : Int) : Option (Int) :=
  (base_Floor (IntKind.i64.wrap (0 - v1)) v2).bind fun v4 =>
  some ((IntKind.i64.wrap (0 - v4)))

end Go.Rex

namespace Go.Rex
open Go Go.Rex
noncomputable def base_Size (v1 : Int) : Option (Int) :=
  some ((if (IntKind.i64.wrap (0 - v1)) > v1 then (IntKind.i64.wrap (0 - v1)) else v1))

end Go.Rex
