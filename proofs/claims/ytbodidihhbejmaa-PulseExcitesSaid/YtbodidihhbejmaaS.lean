/- The functions of the program and of the reference, as functions of lists and numbers. -/
import Derived.Test.YtbodidihhbejmaaRexG11
set_option linter.unusedSimpArgs false
set_option linter.unusedVariables false
set_option linter.defProp false
namespace Go.Rex
open Go Go.Rex
def e_ff (x : (Nat × Nat)) : List TV := [.v (.float .f32 x.1), .v (.float .f32 x.2)]
def e_c (x : (Nat × Nat)) : List TV := [.v (.complex .f32 x.1 x.2)]
def e_ii (x : (Int × Int)) : List TV := [.v (.int .i64 x.1), .v (.int .i64 x.2)]
def e_i (x : Int) : List TV := [.v (.int .i64 x)]
def e_Lc_ (x : (List (Nat × Nat))) : List TV := [.list 1 (x.map e_c)]
def e_f (x : Nat) : List TV := [.v (.float .f32 x)]
def e_Lff_ (x : (List (Nat × Nat))) : List TV := [.list 2 (x.map e_ff)]

end Go.Rex

namespace Go.Rex
open Go Go.Rex
noncomputable def law04_Few (v1 : (List (Nat × Nat))) : Option (Bool) :=
  if (decide ((v1.length : Int) ≤ 40)) = true then
    (some (true))
  else
    (if (decide ((v1.length : Int) > 1024)) = true then
      (some ((decide ((v1.length : Int) ≤ 1026))))
    else
      (some (false)))

end Go.Rex

namespace Go.Rex
open Go Go.Rex
noncomputable def law04_List_l1 (v1 : (List (Nat × Nat))) : ((List (Nat × Nat)) × Int) → Option (((List (Nat × Nat)) × Int) ⊕ (((List (Nat × Nat))))) := fun (v3, v4) =>
  if (decide (v4 < (v1.length : Int))) = true then
    ((getI v1 v4).bind fun (v9, v10) =>
    (appI 8 v3 ([(v9, v10)] : List (Nat × Nat))).bind fun v11 =>
    some (.inl (v11, (IntKind.i64.wrap (v4 + 1)))))
  else
    (some (.inr v3))
noncomputable def law04_List (v1 : (List (Nat × Nat))) : Option ((List (Nat × Nat))) :=
  (run (law04_List_l1 v1) (([] : List (Nat × Nat)), 0)).bind fun v12 =>
  some (v12)

end Go.Rex

namespace Go.Rex
open Go Go.Rex
noncomputable def pulse_listed (v1 : (List (Nat × Nat))) : Option ((List (Nat × Nat))) :=
  some (v1)

end Go.Rex

namespace Go.Rex
open Go Go.Rex
noncomputable def pulse_refuse (v1 : Bool) (v2 : Int) : Option (Bool × Int) :=
  some (v1, v2)

end Go.Rex

namespace Go.Rex
open Go Go.Rex
noncomputable def pulse_within (v1 : Int) (v2 : Int) (v3 : Int) : Option (Bool × Int) :=
  if (decide (v1 < v2)) = true then
    ((pulse_refuse true 2).bind fun (v6, v7) =>
    some (v6, v7))
  else
    ((pulse_refuse (decide (v1 > v3)) 2).bind fun (v8, v9) =>
    some (v8, v9))

end Go.Rex

namespace Go.Rex
open Go Go.Rex
noncomputable def pulse_each_e848 (v1 : Int) (v2 : (List (Nat × Nat))) : Option (Int × (List (Nat × Nat))) :=
  some (v1, v2)

end Go.Rex

namespace Go.Rex
open Go Go.Rex
noncomputable def pulse_refuse_c1_11f9 (v1 : Bool) (v2 : Int) : Option (Int) :=
  if v1 = true then
    (some (v2))
  else
    (some (0))

end Go.Rex

namespace Go.Rex
open Go Go.Rex
noncomputable def math_Trunc (v1 : Nat) : Option (Nat) :=
  (trI .zero v1).bind fun v3 =>
  some (v3)

end Go.Rex

namespace Go.Rex
open Go Go.Rex
noncomputable def math_Abs (v1 : Nat) : Option (Nat) :=
  (fbits .f64 v1).bind fun v3 =>
  some (((bitI .andNot .u64 v3 9223372036854775808)).toNat)

end Go.Rex

namespace Go.Rex
open Go Go.Rex
noncomputable def math_IsInf (v1 : Nat) (v2 : Int) : Option (Bool) :=
  if (decide (v2 = 0)) = true then
    ((math_Abs v1).bind fun v4 =>
    some ((fcmp .gtr .f64 v4 9218868437227405311)))
  else
    (if (decide (v2 < 0)) = true then
      (some ((fcmp .gtr .f64 (Op.negFloat .f64 v1) 9218868437227405311)))
    else
      (some ((fcmp .gtr .f64 v1 9218868437227405311))))

end Go.Rex

namespace Go.Rex
open Go Go.Rex
noncomputable def pulse_isWhole (v1 : Nat) : Option (Bool) :=
  (f2f .f32 v1 .f64).bind fun v3 =>
  (math_Trunc v3).bind fun v4 =>
  if (fcmp .eql .f64 v3 v4) = true then
    ((math_IsInf v3 0).bind fun v5 =>
    some ((!v5)))
  else
    (some (false))

end Go.Rex

namespace Go.Rex
open Go Go.Rex
noncomputable def pulse_isSmall_float32 (v1 : Nat) (v2 : Nat) : Option (Bool) :=
  if (fcmp .leq .f32 (Op.negFloat .f32 v2) v1) = true then
    (some ((fcmp .leq .f32 v1 v2)))
  else
    (some (false))

end Go.Rex

namespace Go.Rex
open Go Go.Rex
noncomputable def pulse_firstError_9abe (v1 : Bool) (v2 : Int) (v3 : Bool) (v4 : Int) : Option (Int) :=
  (pulse_refuse_c1_11f9 v1 v2).bind fun v6 =>
  if (decide (v6 ≠ 0)) = true then
    (some (v6))
  else
    ((pulse_refuse_c1_11f9 v3 v4).bind fun v7 =>
    if (decide (v7 ≠ 0)) = true then
      (some (v7))
    else
      (some (0)))

end Go.Rex

namespace Go.Rex
open Go Go.Rex
noncomputable def pulse_errorOf (v1 : Nat) (v2 : Nat) : Option (Int) :=
  (pulse_isWhole v1).bind fun v4 =>
  if v4 = true then
    ((pulse_isWhole v2).bind fun v5 =>
    (pulse_refuse (!v5) 27).bind fun (v6, v7) =>
    (pulse_isSmall_float32 v1 1266679808).bind fun v8 =>
    if v8 = true then
      ((pulse_isSmall_float32 v2 1266679808).bind fun v9 =>
      (pulse_refuse (!v9) 2).bind fun (v10, v11) =>
      (pulse_firstError_9abe v6 v7 v10 v11).bind fun v12 =>
      some (v12))
    else
      ((pulse_refuse true 2).bind fun (v13, v14) =>
      (pulse_firstError_9abe v6 v7 v13 v14).bind fun v15 =>
      some (v15)))
  else
    ((pulse_refuse true 27).bind fun (v16, v17) =>
    (pulse_isSmall_float32 v1 1266679808).bind fun v18 =>
    if v18 = true then
      ((pulse_isSmall_float32 v2 1266679808).bind fun v19 =>
      (pulse_refuse (!v19) 2).bind fun (v20, v21) =>
      (pulse_firstError_9abe v16 v17 v20 v21).bind fun v22 =>
      some (v22))
    else
      ((pulse_refuse true 2).bind fun (v23, v24) =>
      (pulse_firstError_9abe v16 v17 v23 v24).bind fun v25 =>
      some (v25)))

end Go.Rex

namespace Go.Rex
open Go Go.Rex
noncomputable def pulse_listed_c1_c1_06f5 (v1 : Int) (v2 : (List (Nat × Nat))) : Option (Int) :=
  (getI v2 v1).bind fun (v4, v5) =>
  (pulse_errorOf v4 v5).bind fun v6 =>
  some (v6)

end Go.Rex

namespace Go.Rex
open Go Go.Rex
noncomputable def pulse_each_c1_b362_l1 (v1 : Int) (v2 : (List (Nat × Nat))) : (Int) → Option ((Int) ⊕ ((Int) ⊕ (Unit))) := fun v4 =>
  if (decide (v4 < v1)) = true then
    ((pulse_listed_c1_c1_06f5 v4 v2).bind fun v7 =>
    if (decide (v7 ≠ 0)) = true then
      (some (.inr (.inl v7)))
    else
      (some (.inl (IntKind.i64.wrap (v4 + 1)))))
  else
    (some (.inr (.inr ())))
noncomputable def pulse_each_c1_b362 (v1 : Int) (v2 : (List (Nat × Nat))) : Option (Int) :=
  (run (pulse_each_c1_b362_l1 v1 v2) 0).bind fun v8 => match v8 with
  | (.inl v9) =>
    some (v9)
  | (.inr _) =>
    some (0)

end Go.Rex

namespace Go.Rex
open Go Go.Rex
noncomputable def pulse_firstError_046d (v1 : Bool) (v2 : Int) (v3 : Bool) (v4 : Int) (v5 : Int) (v6 : (List (Nat × Nat))) : Option (Int) :=
  (pulse_refuse_c1_11f9 v1 v2).bind fun v8 =>
  if (decide (v8 ≠ 0)) = true then
    (some (v8))
  else
    ((pulse_refuse_c1_11f9 v3 v4).bind fun v9 =>
    if (decide (v9 ≠ 0)) = true then
      (some (v9))
    else
      ((pulse_each_c1_b362 v5 v6).bind fun v10 =>
      if (decide (v10 ≠ 0)) = true then
        (some (v10))
      else
        (some (0))))

end Go.Rex

namespace Go.Rex
open Go Go.Rex
noncomputable def pulse_listed_c1_f1d2 (v1 : (List (Nat × Nat))) : Option (Int) :=
  (pulse_refuse (decide ((v1.length : Int) = 0)) 10).bind fun (v3, v4) =>
  (pulse_refuse (decide ((v1.length : Int) > 1024)) 8).bind fun (v5, v6) =>
  (pulse_each_e848 (v1.length : Int) v1).bind fun (v7, v8) =>
  (pulse_firstError_046d v3 v4 v5 v6 v7 v8).bind fun v9 =>
  some (v9)

end Go.Rex

namespace Go.Rex
open Go Go.Rex
noncomputable def pulse_firstError_c7bf (v1 : (List (Nat × Nat))) (v2 : Bool) (v3 : Int) : Option (Int) :=
  (pulse_listed_c1_f1d2 v1).bind fun v5 =>
  if (decide (v5 ≠ 0)) = true then
    (some (v5))
  else
    ((pulse_refuse_c1_11f9 v2 v3).bind fun v6 =>
    if (decide (v6 ≠ 0)) = true then
      (some (v6))
    else
      (some (0)))

end Go.Rex

namespace Go.Rex
open Go Go.Rex
noncomputable def pulse_numberOf (v1 : Nat) (v2 : Nat) : Option (Int × Int) :=
  (f2i .f32 v1 .i64).bind fun v5 =>
  (f2i .f32 v2 .i64).bind fun v6 =>
  some (v5, v6)

end Go.Rex

namespace Go.Rex
open Go Go.Rex
noncomputable def pulse_numbersOf_l1 (v1 : (List (Nat × Nat))) : ((List (Int × Int)) × Int) → Option (((List (Int × Int)) × Int) ⊕ (((List (Int × Int))))) := fun (v3, v4) =>
  if (decide (v4 < (v1.length : Int))) = true then
    ((getI v1 v4).bind fun (v11, v12) =>
    (pulse_numberOf v11 v12).bind fun (v13, v14) =>
    (appI 16 v3 ([(v13, v14)] : List (Int × Int))).bind fun v15 =>
    some (.inl (v15, (IntKind.i64.wrap (v4 + 1)))))
  else
    (some (.inr v3))
noncomputable def pulse_numbersOf (v1 : (List (Nat × Nat))) : Option ((List (Int × Int))) :=
  (run (pulse_numbersOf_l1 v1) (([] : List (Int × Int)), 0)).bind fun v16 =>
  some (v16)

end Go.Rex

namespace Go.Rex
open Go Go.Rex
noncomputable def pulse_number_plus (v1 : Int) (v2 : Int) (v3 : Int) (v4 : Int) : Option (Int × Int) :=
  some ((IntKind.i64.wrap (v1 + v3)), (IntKind.i64.wrap (v2 + v4)))

end Go.Rex

namespace Go.Rex
open Go Go.Rex
noncomputable def pulse_foldedTo_l1 (v1 : (List (Int × Int))) (v2 : Int) : ((List (Int × Int)) × Int) → Option (((List (Int × Int)) × Int) ⊕ (((List (Int × Int))))) := fun (v5, v6) =>
  if (decide (v6 < (v1.length : Int))) = true then
    ((getI v1 v6).bind fun (v14, v15) =>
    if v2 = 0 then none else
    ((getI v5 (v6.tmod v2)).bind fun (v16, v17) =>
    (pulse_number_plus v16 v17 v14 v15).bind fun (v18, v19) =>
    some (.inl ((v5.set ((v6.tmod v2)).toNat (v18, v19)), (IntKind.i64.wrap (v6 + 1))))))
  else
    (some (.inr v5))
noncomputable def pulse_foldedTo (v1 : (List (Int × Int))) (v2 : Int) : Option ((List (Int × Int))) :=
  (mkI 16 v2 ((0, 0) : (Int × Int))).bind fun v4 =>
  (run (pulse_foldedTo_l1 v1 v2) (v4, 0)).bind fun v20 =>
  some (v20)

end Go.Rex

namespace Go.Rex
open Go Go.Rex
noncomputable def pulse_each_3571 (v1 : Int) (v2 : (List (Int × Int))) : Option (Int × (List (Int × Int))) :=
  some (v1, v2)

end Go.Rex

namespace Go.Rex
open Go Go.Rex
noncomputable def pulse_isSmall_int (v1 : Int) (v2 : Int) : Option (Bool) :=
  if (decide ((IntKind.i64.wrap (0 - v2)) ≤ v1)) = true then
    (some ((decide (v1 ≤ v2))))
  else
    (some (false))

end Go.Rex

namespace Go.Rex
open Go Go.Rex
noncomputable def pulse_number_small (v1 : Int) (v2 : Int) (v3 : Int) : Option (Bool × Int) :=
  (pulse_isSmall_int v1 v3).bind fun v6 =>
  if v6 = true then
    ((pulse_isSmall_int v2 v3).bind fun v7 =>
    (pulse_refuse (!v7) 8).bind fun (v8, v9) =>
    some (v8, v9))
  else
    ((pulse_refuse true 8).bind fun (v10, v11) =>
    some (v10, v11))

end Go.Rex

namespace Go.Rex
open Go Go.Rex
noncomputable def pulse_recorded_c1_cff2 (v1 : Int) (v2 : (List (Int × Int))) : Option (Int) :=
  (getI v2 v1).bind fun (v4, v5) =>
  (pulse_number_small v4 v5 16777216).bind fun (v6, v7) =>
  (pulse_refuse_c1_11f9 v6 v7).bind fun v8 =>
  some (v8)

end Go.Rex

namespace Go.Rex
open Go Go.Rex
noncomputable def pulse_each_c1_82ab_l1 (v1 : Int) (v2 : (List (Int × Int))) : (Int) → Option ((Int) ⊕ ((Int) ⊕ (Unit))) := fun v4 =>
  if (decide (v4 < v1)) = true then
    ((pulse_recorded_c1_cff2 v4 v2).bind fun v7 =>
    if (decide (v7 ≠ 0)) = true then
      (some (.inr (.inl v7)))
    else
      (some (.inl (IntKind.i64.wrap (v4 + 1)))))
  else
    (some (.inr (.inr ())))
noncomputable def pulse_each_c1_82ab (v1 : Int) (v2 : (List (Int × Int))) : Option (Int) :=
  (run (pulse_each_c1_82ab_l1 v1 v2) 0).bind fun v8 => match v8 with
  | (.inl v9) =>
    some (v9)
  | (.inr _) =>
    some (0)

end Go.Rex

namespace Go.Rex
open Go Go.Rex
noncomputable def pulse_recorded_l1 (v1 : (List (Int × Int))) : ((List (Nat × Nat)) × Int) → Option (((List (Nat × Nat)) × Int) ⊕ (((List (Nat × Nat))))) := fun (v7, v8) =>
  if (decide (v8 < (v1.length : Int))) = true then
    ((getI v1 v8).bind fun (v13, v14) =>
    (appI 8 v7 ([((FloatKind.f32.nearest v13), (FloatKind.f32.nearest v14))] : List (Nat × Nat))).bind fun v15 =>
    some (.inl (v15, (IntKind.i64.wrap (v8 + 1)))))
  else
    (some (.inr v7))
noncomputable def pulse_recorded (v1 : (List (Int × Int))) : Option ((List (Nat × Nat)) × Int) :=
  (pulse_each_3571 (v1.length : Int) v1).bind fun (v4, v5) =>
  (pulse_each_c1_82ab v4 v5).bind fun v6 =>
  if (decide (v6 ≠ 0)) = true then
    (some (([] : List (Nat × Nat)), v6))
  else
    ((run (pulse_recorded_l1 v1) (([] : List (Nat × Nat)), 0)).bind fun v16 =>
    some (v16, 0))

end Go.Rex

namespace Go.Rex
open Go Go.Rex
noncomputable def pulse_Folded (v1 : (List (Nat × Nat))) (v2 : Int) : Option ((List (Nat × Nat)) × Int) :=
  (pulse_listed v1).bind fun v5 =>
  (pulse_within v2 1 1024).bind fun (v6, v7) =>
  (pulse_firstError_c7bf v5 v6 v7).bind fun v8 =>
  if (decide (v8 ≠ 0)) = true then
    (some (([] : List (Nat × Nat)), v8))
  else
    ((pulse_numbersOf v1).bind fun v9 =>
    (pulse_foldedTo v9 v2).bind fun v10 =>
    (pulse_recorded v10).bind fun (v11, v12) =>
    some (v11, v12))

end Go.Rex

namespace Go.Rex
open Go Go.Rex
noncomputable def base_CopyInts (v1 : (List Int)) : Option ((List Int)) :=
  (appI 8 ([] : List Int) v1).bind fun v3 =>
  some (v3)

end Go.Rex

namespace Go.Rex
open Go Go.Rex
noncomputable def ref04_Copy (v1 : Int) (v2 : (List Int)) : Option (Int × (List Int)) :=
  (base_CopyInts v2).bind fun v5 =>
  some (v1, v5)

end Go.Rex

namespace Go.Rex
open Go Go.Rex
noncomputable def pulse_generator_startsAt (v1 : Int) (v2 : (List Int)) (v3 : Int) : Option (Int × Int × (List Int)) :=
  some (v3, v1, v2)

end Go.Rex

namespace Go.Rex
open Go Go.Rex
noncomputable def pulse_each_e53c (v1 : Int) (v2 : (List Int)) (v3 : Int) (v4 : Int) : Option (Int × (List Int) × Int × Int) :=
  some (v1, v2, v3, v4)

end Go.Rex

namespace Go.Rex
open Go Go.Rex
noncomputable def pulse_ascending (v1 : (List Int)) (v2 : Int) (v3 : Int) : Option (Int × (List Int) × Int × Int) :=
  (pulse_each_e53c (v1.length : Int) v1 v2 v3).bind fun (v8, v9, v10, v11) =>
  some (v8, v9, v10, v11)

end Go.Rex

namespace Go.Rex
open Go Go.Rex
noncomputable def slices_Index_int_int_l1 (v1 : (List Int)) (v2 : Int) : (Int) → Option ((Int) ⊕ ((Int) ⊕ (Unit))) := fun v4 =>
  if (decide (v4 < (v1.length : Int))) = true then
    ((getI v1 v4).bind fun v7 =>
    if (decide (v2 = v7)) = true then
      (some (.inr (.inl v4)))
    else
      (some (.inl (IntKind.i64.wrap (v4 + 1)))))
  else
    (some (.inr (.inr ())))
noncomputable def slices_Index_int_int (v1 : (List Int)) (v2 : Int) : Option (Int) :=
  (run (slices_Index_int_int_l1 v1 v2) 0).bind fun v8 => match v8 with
  | (.inl v9) =>
    some (v9)
  | (.inr _) =>
    some ((-1))

end Go.Rex

namespace Go.Rex
open Go Go.Rex
noncomputable def slices_Contains_int_int (v1 : (List Int)) (v2 : Int) : Option (Bool) :=
  (slices_Index_int_int v1 v2).bind fun v4 =>
  some ((decide (v4 ≥ 0)))

end Go.Rex

namespace Go.Rex
open Go Go.Rex
noncomputable def pulse_ascending_c1_ea58 (v1 : Int) (v2 : (List Int)) (v3 : Int) (v4 : Int) : Option (Int) :=
  (getI v2 v1).bind fun v6 =>
  (pulse_within v6 v3 v4).bind fun (v7, v8) =>
  if (decide (v1 > 0)) = true then
    ((getI v2 (IntKind.i64.wrap (v1 - 1))).bind fun v9 =>
    (pulse_refuse (decide (v6 ≤ v9)) 9).bind fun (v10, v11) =>
    (pulse_firstError_9abe v7 v8 v10 v11).bind fun v12 =>
    some (v12))
  else
    ((pulse_refuse false 9).bind fun (v13, v14) =>
    (pulse_firstError_9abe v7 v8 v13 v14).bind fun v15 =>
    some (v15))

end Go.Rex

namespace Go.Rex
open Go Go.Rex
noncomputable def pulse_each_c1_4fde_l1 (v1 : Int) (v2 : (List Int)) (v3 : Int) (v4 : Int) : (Int) → Option ((Int) ⊕ ((Int) ⊕ (Unit))) := fun v6 =>
  if (decide (v6 < v1)) = true then
    ((pulse_ascending_c1_ea58 v6 v2 v3 v4).bind fun v9 =>
    if (decide (v9 ≠ 0)) = true then
      (some (.inr (.inl v9)))
    else
      (some (.inl (IntKind.i64.wrap (v6 + 1)))))
  else
    (some (.inr (.inr ())))
noncomputable def pulse_each_c1_4fde (v1 : Int) (v2 : (List Int)) (v3 : Int) (v4 : Int) : Option (Int) :=
  (run (pulse_each_c1_4fde_l1 v1 v2 v3 v4) 0).bind fun v10 => match v10 with
  | (.inl v11) =>
    some (v11)
  | (.inr _) =>
    some (0)

end Go.Rex

namespace Go.Rex
open Go Go.Rex
noncomputable def pulse_firstError_6869 (v1 : Bool) (v2 : Int) (v3 : Bool) (v4 : Int) (v5 : Int) (v6 : (List Int)) (v7 : Int) (v8 : Int) (v9 : Bool) (v10 : Int) : Option (Int) :=
  (pulse_refuse_c1_11f9 v1 v2).bind fun v12 =>
  if (decide (v12 ≠ 0)) = true then
    (some (v12))
  else
    ((pulse_refuse_c1_11f9 v3 v4).bind fun v13 =>
    if (decide (v13 ≠ 0)) = true then
      (some (v13))
    else
      ((pulse_each_c1_4fde v5 v6 v7 v8).bind fun v14 =>
      if (decide (v14 ≠ 0)) = true then
        (some (v14))
      else
        ((pulse_refuse_c1_11f9 v9 v10).bind fun v15 =>
        if (decide (v15 ≠ 0)) = true then
          (some (v15))
        else
          (some (0)))))

end Go.Rex

namespace Go.Rex
open Go Go.Rex
noncomputable def pulse_CheckRegister (v1 : Int) (v2 : (List Int)) : Option (Int) :=
  (pulse_within v1 2 8).bind fun (v4, v5) =>
  (pulse_refuse (decide ((v2.length : Int) = 0)) 10).bind fun (v6, v7) =>
  (pulse_ascending v2 1 v1).bind fun (v8, v9, v10, v11) =>
  (slices_Contains_int_int v2 v1).bind fun v12 =>
  (pulse_refuse (!v12) 6).bind fun (v13, v14) =>
  (pulse_firstError_6869 v4 v5 v6 v7 v8 v9 v10 v11 v13 v14).bind fun v15 =>
  some (v15)

end Go.Rex

namespace Go.Rex
open Go Go.Rex
noncomputable def pulse_generator_check (v1 : Int) (v2 : (List Int)) : Option (Int) :=
  (pulse_CheckRegister v1 v2).bind fun v4 =>
  some (v4)

end Go.Rex

namespace Go.Rex
open Go Go.Rex
noncomputable def pulse_generator_fullPeriod (v1 : Int) (v2 : (List Int)) : Option (Int) :=
  (shI .shl .i64 1 v1).bind fun v4 =>
  some ((IntKind.i64.wrap (v4 - 1)))

end Go.Rex

namespace Go.Rex
open Go Go.Rex
noncomputable def pulse_generator_startsAt_c1_63b1 (v1 : Int) (v2 : Int) (v3 : (List Int)) : Option (Int) :=
  (pulse_generator_fullPeriod v2 v3).bind fun v5 =>
  (pulse_within v1 1 v5).bind fun (v6, v7) =>
  (pulse_refuse_c1_11f9 v6 v7).bind fun v8 =>
  some (v8)

end Go.Rex

namespace Go.Rex
open Go Go.Rex
noncomputable def pulse_firstError_cdf6 (v1 : (List (Nat × Nat))) (v2 : Int) (v3 : (List Int)) (v4 : Int) (v5 : Int) (v6 : (List Int)) : Option (Int) :=
  (pulse_listed_c1_f1d2 v1).bind fun v8 =>
  if (decide (v8 ≠ 0)) = true then
    (some (v8))
  else
    ((pulse_generator_check v2 v3).bind fun v9 =>
    if (decide (v9 ≠ 0)) = true then
      (some (v9))
    else
      ((pulse_generator_startsAt_c1_63b1 v4 v5 v6).bind fun v10 =>
      if (decide (v10 ≠ 0)) = true then
        (some (v10))
      else
        (some (0))))

end Go.Rex

namespace Go.Rex
open Go Go.Rex
noncomputable def pulse_generator_states (v1 : Int) (v2 : (List Int)) (v3 : Int) : Option (Int × Int × (List Int)) :=
  some (v3, v1, v2)

end Go.Rex

namespace Go.Rex
open Go Go.Rex
noncomputable def pulse_generator_next_l1 (v1 : Int) (v2 : (List Int)) (v3 : Int) : (Int × Int) → Option ((Int × Int) ⊕ ((Int))) := fun (v5, v6) =>
  if (decide (v6 < (v2.length : Int))) = true then
    ((getI v2 v6).bind fun v10 =>
    (shI .shr .i64 v3 (IntKind.i64.wrap (v1 - v10))).bind fun v11 =>
    some (.inl ((bitI .xor .i64 v5 (bitI .and .i64 v11 1)), (IntKind.i64.wrap (v6 + 1)))))
  else
    (some (.inr v5))
noncomputable def pulse_generator_next (v1 : Int) (v2 : (List Int)) (v3 : Int) : Option (Int) :=
  (run (pulse_generator_next_l1 v1 v2 v3) (0, 0)).bind fun v12 =>
  (shI .shr .i64 v3 1).bind fun v13 =>
  (shI .shl .i64 v12 (IntKind.i64.wrap (v1 - 1))).bind fun v14 =>
  some ((bitI .or .i64 v13 v14))

end Go.Rex

namespace Go.Rex
open Go Go.Rex
noncomputable def pulse_generator_states_c1_3283_l1 {X : Type} (H : (Int) → X → Option (Bool × X)) (v2 : Int) (v3 : (List Int)) : (Int × X) → Option ((Int × X) ⊕ ((X))) := fun (v5, v6) =>
  (H v5 v6).bind fun (v11, v12) =>
  if v11 = true then
    ((pulse_generator_next v2 v3 v5).bind fun v13 =>
    some (.inl (v13, v12)))
  else
    (some (.inr v12))
noncomputable def pulse_generator_states_c1_3283_it (v1 : Int) (v2 : Int) (v3 : (List Int)) {X : Type} (H : (Int) → X → Option (Bool × X)) (v4 : X) : Option X :=
  (run (pulse_generator_states_c1_3283_l1 H v2 v3) (v1, v4)).bind fun v14 =>
  some v14

end Go.Rex

namespace Go.Rex
open Go Go.Rex
noncomputable def pulse_generator_bits_l1 (v4 : Int) : ((Int)) → ((List Int)) → Option (((List Int)) ⊕ (((List Int)))) := fun v13 v9 =>
  if (decide ((v9.length : Int) = v4)) = true then
    (some (.inr v9))
  else
    ((appI 8 v9 ([(bitI .and .i64 v13 1)] : List Int)).bind fun v14 =>
    some (.inl v14))
noncomputable def pulse_generator_bits (v1 : Int) (v2 : (List Int)) (v3 : Int) (v4 : Int) : Option ((List Int)) :=
  (pulse_generator_states v1 v2 v3).bind fun (v6, v7, v8) =>
  (pulse_generator_states_c1_3283_it v6 v7 v8 (hand (pulse_generator_bits_l1 v4)) (.inl ([] : List Int))).bind fun v15 => match v15 with
  | .inl v16 =>
    some (v16)
  | .inr v17 =>
    some (v17)

end Go.Rex

namespace Go.Rex
open Go Go.Rex
noncomputable def pulse_generator_signs_l1 (v6 : (List Int)) : ((List Int) × Int) → Option (((List Int) × Int) ⊕ (((List Int)))) := fun (v7, v8) =>
  if (decide (v8 < (v6.length : Int))) = true then
    ((getI v7 v8).bind fun v11 =>
    some (.inl ((v7.set v8.toNat (IntKind.i64.wrap (1 - (IntKind.i64.wrap (2 * v11))))), (IntKind.i64.wrap (v8 + 1)))))
  else
    (some (.inr v7))
noncomputable def pulse_generator_signs (v1 : Int) (v2 : (List Int)) (v3 : Int) : Option ((List Int)) :=
  (pulse_generator_fullPeriod v1 v2).bind fun v5 =>
  (pulse_generator_bits v1 v2 v3 v5).bind fun v6 =>
  (run (pulse_generator_signs_l1 v6) (v6, 0)).bind fun v12 =>
  some (v12)

end Go.Rex

namespace Go.Rex
open Go Go.Rex
noncomputable def pulse_generator_signAt (v1 : Int) (v2 : (List Int)) (v3 : Int) : Option ((List Int)) :=
  (pulse_generator_signs v1 v2 v3).bind fun v5 =>
  some (v5)

end Go.Rex

namespace Go.Rex
open Go Go.Rex
noncomputable def pulse_modulo (v1 : Int) (v2 : Int) : Option (Int) :=
  if v2 = 0 then none else
  (some (((IntKind.i64.wrap ((v1.tmod v2) + v2)).tmod v2)))

end Go.Rex

namespace Go.Rex
open Go Go.Rex
noncomputable def pulse_generator_signAt_c1_9a9e (v1 : Int) (v2 : (List Int)) : Option (Int) :=
  (pulse_modulo v1 (v2.length : Int)).bind fun v4 =>
  (getI v2 v4).bind fun v5 =>
  some (v5)

end Go.Rex

namespace Go.Rex
open Go Go.Rex
noncomputable def pulse_Excited_c1_4504 (v1 : Int) (v2 : Int) (v3 : (List Int)) : Option (Int) :=
  (pulse_generator_signAt_c1_9a9e (IntKind.i64.wrap (v1 - v2)) v3).bind fun v5 =>
  some (v5)

end Go.Rex

namespace Go.Rex
open Go Go.Rex
noncomputable def pulse_number_stretched (v1 : Int) (v2 : Int) (v3 : Int) : Option (Int × Int) :=
  some ((IntKind.i64.wrap (v1 * v3)), (IntKind.i64.wrap (v2 * v3)))

end Go.Rex

namespace Go.Rex
open Go Go.Rex
noncomputable def pulse_weighed_2d1e_l2 (v1 : (List (Int × Int))) (v2 : (List Int)) (v6 : Int) : ((List (Int × Int)) × Int) → Option (((List (Int × Int)) × Int) ⊕ (((List (Int × Int))))) := fun (v30, v31) =>
  if (decide (v31 < (v1.length : Int))) = true then
    ((getI v1 v31).bind fun (v42, v43) =>
    (getI v30 v6).bind fun (v44, v45) =>
    (pulse_Excited_c1_4504 v6 v31 v2).bind fun v46 =>
    (pulse_number_stretched v42 v43 v46).bind fun (v47, v48) =>
    (pulse_number_plus v44 v45 v47 v48).bind fun (v49, v50) =>
    some (.inl ((v30.set v6.toNat (v49, v50)), (IntKind.i64.wrap (v31 + 1)))))
  else
    (some (.inr v30))
noncomputable def pulse_weighed_2d1e_l1 (v1 : (List (Int × Int))) (v2 : (List Int)) (v4 : (List (Int × Int))) : ((List (Int × Int)) × Int) → Option (((List (Int × Int)) × Int) ⊕ (((List (Int × Int))))) := fun (v5, v6) =>
  if (decide (v6 < (v4.length : Int))) = true then
    ((run (pulse_weighed_2d1e_l2 v1 v2 v6) (v5, 0)).bind fun v51 =>
    some (.inl (v51, (IntKind.i64.wrap (v6 + 1)))))
  else
    (some (.inr v5))
noncomputable def pulse_weighed_2d1e (v1 : (List (Int × Int))) (v2 : (List Int)) : Option ((List (Int × Int))) :=
  (mkI 16 (v1.length : Int) ((0, 0) : (Int × Int))).bind fun v4 =>
  (run (pulse_weighed_2d1e_l1 v1 v2 v4) (v4, 0)).bind fun v52 =>
  some (v52)

end Go.Rex

namespace Go.Rex
open Go Go.Rex
noncomputable def pulse_Excited (v1 : (List (Nat × Nat))) (v2 : Int) (v3 : (List Int)) (v4 : Int) : Option ((List (Nat × Nat)) × Int) :=
  (pulse_listed v1).bind fun v7 =>
  (pulse_generator_startsAt v2 v3 v4).bind fun (v8, v9, v10) =>
  (pulse_firstError_cdf6 v7 v2 v3 v8 v9 v10).bind fun v11 =>
  if (decide (v11 ≠ 0)) = true then
    (some (([] : List (Nat × Nat)), v11))
  else
    ((pulse_numbersOf v1).bind fun v12 =>
    (pulse_generator_fullPeriod v2 v3).bind fun v13 =>
    (pulse_foldedTo v12 v13).bind fun v14 =>
    (pulse_generator_signAt v2 v3 v4).bind fun v15 =>
    (pulse_recorded v14).bind fun (v16, v17) =>
    if (decide (v17 ≠ 0)) = true then
      (some (([] : List (Nat × Nat)), v17))
    else
      ((pulse_weighed_2d1e v14 v15).bind fun v18 =>
      (pulse_recorded v18).bind fun (v19, v20) =>
      some (v19, v20)))

end Go.Rex

namespace Go.Rex
open Go Go.Rex
noncomputable def base_IsWhole (v1 : Nat) : Option (Bool) :=
  if (fcmp .neq .f64 v1 v1) = true then
    (some (false))
  else
    ((farith .sub .f64 v1 v1).bind fun v3 =>
    if (fcmp .neq .f64 v3 0) = true then
      (some (false))
    else
      (if (fcmp .geq .f64 v1 14069741636278059008) = true then
        (if (fcmp .leq .f64 v1 4846369599423283200) = true then
          ((f2i .f64 v1 .i64).bind fun v4 =>
          some ((fcmp .eql .f64 (FloatKind.f64.nearest v4) v1)))
        else
          (some (true)))
      else
        (some (true))))

end Go.Rex

namespace Go.Rex
open Go Go.Rex
noncomputable def ref04_ListErr_l1 (v1 : (List (Nat × Nat))) : (Int) → Option ((Int) ⊕ ((Int) ⊕ (Unit))) := fun v3 =>
  if (decide (v3 < (v1.length : Int))) = true then
    ((getI v1 v3).bind fun (v11, v12) =>
    (f2f .f32 v11 .f64).bind fun v13 =>
    (f2f .f32 v12 .f64).bind fun v14 =>
    (base_IsWhole v13).bind fun v15 =>
    if v15 = true then
      ((base_IsWhole v14).bind fun v16 =>
      if v16 = true then
        (if (fcmp .gtr .f64 v13 4715268809856909312) = true then
          (some (.inr (.inl 2)))
        else
          (if (fcmp .lss .f64 v13 13938640846711685120) = true then
            (some (.inr (.inl 2)))
          else
            (if (fcmp .gtr .f64 v14 4715268809856909312) = true then
              (some (.inr (.inl 2)))
            else
              (if (fcmp .lss .f64 v14 13938640846711685120) = true then
                (some (.inr (.inl 2)))
              else
                (some (.inl (IntKind.i64.wrap (v3 + 1))))))))
      else
        (some (.inr (.inl 27))))
    else
      (some (.inr (.inl 27))))
  else
    (some (.inr (.inr ())))
noncomputable def ref04_ListErr (v1 : (List (Nat × Nat))) : Option (Int) :=
  if (decide ((v1.length : Int) = 0)) = true then
    (some (10))
  else
    (if (decide ((v1.length : Int) > 1024)) = true then
      (some (8))
    else
      ((run (ref04_ListErr_l1 v1) 0).bind fun v17 => match v17 with
      | (.inl v18) =>
        some (v18)
      | (.inr _) =>
        some (0)))

end Go.Rex

namespace Go.Rex
open Go Go.Rex
noncomputable def base_Within (v1 : Int) (v2 : Int) (v3 : Int) : Option (Bool) :=
  if (decide (v2 ≤ v1)) = true then
    (some ((decide (v1 ≤ v3))))
  else
    (some (false))

end Go.Rex

namespace Go.Rex
open Go Go.Rex
noncomputable def ref04_Pairs_l1 (v1 : (List (Nat × Nat))) : ((List (Int × Int)) × Int) → Option (((List (Int × Int)) × Int) ⊕ (((List (Int × Int))))) := fun (v3, v4) =>
  if (decide (v4 < (v1.length : Int))) = true then
    ((getI v1 v4).bind fun (v11, v12) =>
    (f2i .f32 v11 .i64).bind fun v13 =>
    (f2i .f32 v12 .i64).bind fun v14 =>
    (appI 16 v3 ([(v13, v14)] : List (Int × Int))).bind fun v15 =>
    some (.inl (v15, (IntKind.i64.wrap (v4 + 1)))))
  else
    (some (.inr v3))
noncomputable def ref04_Pairs (v1 : (List (Nat × Nat))) : Option ((List (Int × Int))) :=
  (run (ref04_Pairs_l1 v1) (([] : List (Int × Int)), 0)).bind fun v16 =>
  some (v16)

end Go.Rex

namespace Go.Rex
open Go Go.Rex
noncomputable def ref04_folded_l1 (v1 : (List (Int × Int))) (v2 : Int) : ((List (Int × Int)) × Int) → Option (((List (Int × Int)) × Int) ⊕ (((List (Int × Int))))) := fun (v5, v6) =>
  if (decide (v6 < (v1.length : Int))) = true then
    (if v2 = 0 then none else
    ((getI v5 (v6.tmod v2)).bind fun (v14, v15) =>
    (getI v1 v6).bind fun (v16, v17) =>
    (getI (v5.set ((v6.tmod v2)).toNat ((IntKind.i64.wrap (v14 + v16)), v15)) (v6.tmod v2)).bind fun (v18, v19) =>
    some (.inl (((v5.set ((v6.tmod v2)).toNat ((IntKind.i64.wrap (v14 + v16)), v15)).set ((v6.tmod v2)).toNat (v18, (IntKind.i64.wrap (v19 + v17)))), (IntKind.i64.wrap (v6 + 1))))))
  else
    (some (.inr v5))
noncomputable def ref04_folded (v1 : (List (Int × Int))) (v2 : Int) : Option ((List (Int × Int))) :=
  (mkI 16 v2 ((0, 0) : (Int × Int))).bind fun v4 =>
  (run (ref04_folded_l1 v1 v2) (v4, 0)).bind fun v20 =>
  some (v20)

end Go.Rex

namespace Go.Rex
open Go Go.Rex
noncomputable def base_Size (v1 : Int) : Option (Int) :=
  some ((if (IntKind.i64.wrap (0 - v1)) > v1 then (IntKind.i64.wrap (0 - v1)) else v1))

end Go.Rex

namespace Go.Rex
open Go Go.Rex
noncomputable def ref04_numbers_l1 (v1 : (List (Int × Int))) : ((List (Nat × Nat)) × Int) → Option (((List (Nat × Nat)) × Int) ⊕ ((Unit) ⊕ ((List (Nat × Nat))))) := fun (v4, v5) =>
  if (decide (v5 < (v1.length : Int))) = true then
    ((getI v1 v5).bind fun (v12, v13) =>
    (base_Size v12).bind fun v14 =>
    if (decide (v14 > 16777216)) = true then
      (some (.inr (.inl ())))
    else
      ((base_Size v13).bind fun v15 =>
      if (decide (v15 > 16777216)) = true then
        (some (.inr (.inl ())))
      else
        ((appI 8 v4 ([((FloatKind.f32.nearest v12), (FloatKind.f32.nearest v13))] : List (Nat × Nat))).bind fun v16 =>
        some (.inl (v16, (IntKind.i64.wrap (v5 + 1)))))))
  else
    (some (.inr (.inr v4)))
noncomputable def ref04_numbers (v1 : (List (Int × Int))) : Option ((List (Nat × Nat)) × Bool) :=
  (run (ref04_numbers_l1 v1) (([] : List (Nat × Nat)), 0)).bind fun v17 => match v17 with
  | (.inl _) =>
    some (([] : List (Nat × Nat)), false)
  | (.inr v18) =>
    some (v18, true)

end Go.Rex

namespace Go.Rex
open Go Go.Rex
noncomputable def ref04_told (v1 : (List (Int × Int))) : Option ((List (Nat × Nat)) × Int) :=
  (ref04_numbers v1).bind fun (v4, v5) =>
  if v5 = true then
    (some (v4, 0))
  else
    (some (([] : List (Nat × Nat)), 8))

end Go.Rex

namespace Go.Rex
open Go Go.Rex
noncomputable def ref04_Folded (v1 : (List (Nat × Nat))) (v2 : Int) : Option ((List (Nat × Nat)) × Int) :=
  (ref04_ListErr v1).bind fun v5 =>
  if (decide (v5 ≠ 0)) = true then
    (some (([] : List (Nat × Nat)), v5))
  else
    ((base_Within v2 1 1024).bind fun v6 =>
    if v6 = true then
      ((ref04_Pairs v1).bind fun v7 =>
      (ref04_folded v7 v2).bind fun v8 =>
      (ref04_told v8).bind fun (v9, v10) =>
      some (v9, v10))
    else
      (some (([] : List (Nat × Nat)), 2)))

end Go.Rex

namespace Go.Rex
open Go Go.Rex
noncomputable def ref04_CheckRegister_l1 (v1 : Int) (v2 : (List Int)) : (Int) → Option ((Int) ⊕ ((Int) ⊕ (Unit))) := fun v5 =>
  if (decide (v5 < (v2.length : Int))) = true then
    ((getI v2 v5).bind fun v10 =>
    (base_Within v10 1 v1).bind fun v11 =>
    if v11 = true then
      (if (decide (v5 > 0)) = true then
        ((getI v2 (IntKind.i64.wrap (v5 - 1))).bind fun v12 =>
        if (decide (v10 ≤ v12)) = true then
          (some (.inr (.inl 9)))
        else
          (some (.inl (IntKind.i64.wrap (v5 + 1)))))
      else
        (some (.inl (IntKind.i64.wrap (v5 + 1)))))
    else
      (some (.inr (.inl 2))))
  else
    (some (.inr (.inr ())))
noncomputable def ref04_CheckRegister (v1 : Int) (v2 : (List Int)) : Option (Int) :=
  (base_Within v1 2 8).bind fun v4 =>
  if v4 = true then
    (if (decide ((v2.length : Int) = 0)) = true then
      (some (10))
    else
      ((run (ref04_CheckRegister_l1 v1 v2) 0).bind fun v13 => match v13 with
      | (.inl v14) =>
        some (v14)
      | (.inr _) =>
        (getI v2 (IntKind.i64.wrap ((v2.length : Int) - 1))).bind fun v15 =>
        if (decide (v15 ≠ v1)) = true then
          (some (6))
        else
          (some (0))))
  else
    (some (2))

end Go.Rex

namespace Go.Rex
open Go Go.Rex
noncomputable def ref04_Most_l1 (v1 : Int) : (Int × Int) → Option ((Int × Int) ⊕ ((Int))) := fun (v4, v5) =>
  if (decide (v5 < v1)) = true then
    (some (.inl ((IntKind.i64.wrap (2 * v4)), (IntKind.i64.wrap (v5 + 1)))))
  else
    (some (.inr v4))
noncomputable def ref04_Most (v1 : Int) (v2 : (List Int)) : Option (Int) :=
  (run (ref04_Most_l1 v1) (1, 0)).bind fun v7 =>
  some ((IntKind.i64.wrap (v7 - 1)))

end Go.Rex

namespace Go.Rex
open Go Go.Rex
noncomputable def ref04_StartErr (v1 : Int) (v2 : (List Int)) (v3 : Int) : Option (Int) :=
  (ref04_CheckRegister v1 v2).bind fun v5 =>
  if (decide (v5 ≠ 0)) = true then
    (some (v5))
  else
    ((ref04_Most v1 v2).bind fun v6 =>
    (base_Within v3 1 v6).bind fun v7 =>
    if v7 = true then
      (some (0))
    else
      (some (2)))

end Go.Rex

namespace Go.Rex
open Go Go.Rex
noncomputable def ref04_Bits_l2 (v2 : (List Int)) (v7 : (List Int)) (v8 : Int) : (Int × Int) → Option ((Int × Int) ⊕ ((Int))) := fun (v21, v22) =>
  if (decide (v22 < (v2.length : Int))) = true then
    ((getI v2 v22).bind fun v26 =>
    (getI v7 (IntKind.i64.wrap (v8 - v26))).bind fun v27 =>
    some (.inl ((IntKind.i64.wrap (v21 + v27)), (IntKind.i64.wrap (v22 + 1)))))
  else
    (some (.inr v21))
noncomputable def ref04_Bits_l1 (v1 : Int) (v2 : (List Int)) (v4 : Int) : (Int × (List Int) × Int) → Option ((Int × (List Int) × Int) ⊕ (((List Int)))) := fun (v6, v7, v8) =>
  if (decide (v8 < v4)) = true then
    (if (decide (v8 < v1)) = true then
      ((appI 8 v7 ([(v6.tmod 2)] : List Int)).bind fun v20 =>
      some (.inl ((IntKind.i64.wrap (v6.tdiv 2)), v20, (IntKind.i64.wrap (v8 + 1)))))
    else
      ((run (ref04_Bits_l2 v2 v7 v8) (0, 0)).bind fun v28 =>
      (appI 8 v7 ([(v28.tmod 2)] : List Int)).bind fun v29 =>
      some (.inl (v6, v29, (IntKind.i64.wrap (v8 + 1))))))
  else
    (some (.inr v7))
noncomputable def ref04_Bits (v1 : Int) (v2 : (List Int)) (v3 : Int) (v4 : Int) : Option ((List Int)) :=
  (run (ref04_Bits_l1 v1 v2 v4) (v3, ([] : List Int), 0)).bind fun v30 =>
  some (v30)

end Go.Rex

namespace Go.Rex
open Go Go.Rex
noncomputable def ref04_Signs_l1 : ((List Int) × Int) → Option (((List Int) × Int) ⊕ (((List Int)))) := fun (v7, v8) =>
  if (decide (v8 < (v7.length : Int))) = true then
    ((getI v7 v8).bind fun v11 =>
    some (.inl ((v7.set v8.toNat (IntKind.i64.wrap (1 - (IntKind.i64.wrap (2 * v11))))), (IntKind.i64.wrap (v8 + 1)))))
  else
    (some (.inr v7))
noncomputable def ref04_Signs (v1 : Int) (v2 : (List Int)) (v3 : Int) : Option ((List Int)) :=
  (ref04_Most v1 v2).bind fun v5 =>
  (ref04_Bits v1 v2 v3 v5).bind fun v6 =>
  (run (ref04_Signs_l1) (v6, 0)).bind fun v12 =>
  some (v12)

end Go.Rex

namespace Go.Rex
open Go Go.Rex
noncomputable def base_Mod (v1 : Int) (v2 : Int) : Option (Int) :=
  if v2 = 0 then none else
  (if (decide ((v1.tmod v2) < 0)) = true then
    (some ((IntKind.i64.wrap ((v1.tmod v2) + v2))))
  else
    (some ((v1.tmod v2))))

end Go.Rex

namespace Go.Rex
open Go Go.Rex
noncomputable def ref04_turned_l2 (v1 : (List (Int × Int))) (v2 : (List Int)) (v3 : Bool) (v7 : Int) : ((List (Int × Int)) × Int) → Option (((List (Int × Int)) × Int) ⊕ (((List (Int × Int))))) := fun (v53, v54) =>
  if (decide (v54 < (v2.length : Int))) = true then
    (if v3 = true then
      ((getI v53 v54).bind fun (v76, v77) =>
      (getI v1 v7).bind fun (v78, v79) =>
      (base_Mod (IntKind.i64.wrap (v7 - v54)) (v2.length : Int)).bind fun v80 =>
      (getI v2 v80).bind fun v81 =>
      (getI (v53.set v54.toNat ((IntKind.i64.wrap (v76 + (IntKind.i64.wrap (v78 * v81)))), v77)) v54).bind fun (v82, v83) =>
      (base_Mod (IntKind.i64.wrap (v7 - v54)) (v2.length : Int)).bind fun v84 =>
      (getI v2 v84).bind fun v85 =>
      some (.inl (((v53.set v54.toNat ((IntKind.i64.wrap (v76 + (IntKind.i64.wrap (v78 * v81)))), v77)).set v54.toNat (v82, (IntKind.i64.wrap (v83 + (IntKind.i64.wrap (v79 * v85)))))), (IntKind.i64.wrap (v54 + 1)))))
    else
      ((getI v53 v7).bind fun (v86, v87) =>
      (getI v1 v54).bind fun (v88, v89) =>
      (base_Mod (IntKind.i64.wrap (v7 - v54)) (v2.length : Int)).bind fun v90 =>
      (getI v2 v90).bind fun v91 =>
      (getI (v53.set v7.toNat ((IntKind.i64.wrap (v86 + (IntKind.i64.wrap (v88 * v91)))), v87)) v7).bind fun (v92, v93) =>
      (base_Mod (IntKind.i64.wrap (v7 - v54)) (v2.length : Int)).bind fun v94 =>
      (getI v2 v94).bind fun v95 =>
      some (.inl (((v53.set v7.toNat ((IntKind.i64.wrap (v86 + (IntKind.i64.wrap (v88 * v91)))), v87)).set v7.toNat (v92, (IntKind.i64.wrap (v93 + (IntKind.i64.wrap (v89 * v95)))))), (IntKind.i64.wrap (v54 + 1))))))
  else
    (some (.inr v53))
noncomputable def ref04_turned_l1 (v1 : (List (Int × Int))) (v2 : (List Int)) (v3 : Bool) : ((List (Int × Int)) × Int) → Option (((List (Int × Int)) × Int) ⊕ (((List (Int × Int))))) := fun (v6, v7) =>
  if (decide (v7 < (v2.length : Int))) = true then
    ((run (ref04_turned_l2 v1 v2 v3 v7) (v6, 0)).bind fun v96 =>
    some (.inl (v96, (IntKind.i64.wrap (v7 + 1)))))
  else
    (some (.inr v6))
noncomputable def ref04_turned (v1 : (List (Int × Int))) (v2 : (List Int)) (v3 : Bool) : Option ((List (Int × Int))) :=
  (mkI 16 (v2.length : Int) ((0, 0) : (Int × Int))).bind fun v5 =>
  (run (ref04_turned_l1 v1 v2 v3) (v5, 0)).bind fun v97 =>
  some (v97)

end Go.Rex

namespace Go.Rex
open Go Go.Rex
noncomputable def ref04_Excited (v1 : (List (Nat × Nat))) (v2 : Int) (v3 : (List Int)) (v4 : Int) : Option ((List (Nat × Nat)) × Int) :=
  (ref04_ListErr v1).bind fun v7 =>
  if (decide (v7 ≠ 0)) = true then
    (some (([] : List (Nat × Nat)), v7))
  else
    ((ref04_StartErr v2 v3 v4).bind fun v8 =>
    if (decide (v8 ≠ 0)) = true then
      (some (([] : List (Nat × Nat)), v8))
    else
      ((ref04_Pairs v1).bind fun v9 =>
      (ref04_Most v2 v3).bind fun v10 =>
      (ref04_folded v9 v10).bind fun v11 =>
      (ref04_told v11).bind fun (v12, v13) =>
      if (decide (v13 ≠ 0)) = true then
        (some (([] : List (Nat × Nat)), v13))
      else
        ((ref04_Signs v2 v3 v4).bind fun v14 =>
        (ref04_turned v11 v14 false).bind fun v15 =>
        (ref04_told v15).bind fun (v16, v17) =>
        some (v16, v17))))

end Go.Rex

namespace Go.Rex
open Go Go.Rex
noncomputable def base_SameBits (v1 : Nat) (v2 : Nat) (v3 : Nat) (v4 : Nat) : Option (Bool) :=
  (fbits .f64 v1).bind fun v6 =>
  (fbits .f64 v3).bind fun v7 =>
  if (decide (v6 = v7)) = true then
    ((fbits .f64 v2).bind fun v8 =>
    (fbits .f64 v4).bind fun v9 =>
    some ((decide (v8 = v9))))
  else
    (some (false))

end Go.Rex

namespace Go.Rex
open Go Go.Rex
noncomputable def base_SameSamples_l1 (v1 : (List (Nat × Nat))) (v2 : (List (Nat × Nat))) : (Int) → Option ((Int) ⊕ ((Unit) ⊕ (Unit))) := fun v4 =>
  if (decide (v4 < (v1.length : Int))) = true then
    ((getI v1 v4).bind fun (v14, v15) =>
    (f2f .f32 v14 .f64).bind fun v16 =>
    (f2f .f32 v15 .f64).bind fun v17 =>
    (getI v2 v4).bind fun (v18, v19) =>
    (f2f .f32 v18 .f64).bind fun v20 =>
    (f2f .f32 v19 .f64).bind fun v21 =>
    (base_SameBits v16 v17 v20 v21).bind fun v22 =>
    if v22 = true then
      (some (.inl (IntKind.i64.wrap (v4 + 1))))
    else
      (some (.inr (.inl ()))))
  else
    (some (.inr (.inr ())))
noncomputable def base_SameSamples (v1 : (List (Nat × Nat))) (v2 : (List (Nat × Nat))) : Option (Bool) :=
  if (decide ((v1.length : Int) ≠ (v2.length : Int))) = true then
    (some (false))
  else
    ((run (base_SameSamples_l1 v1 v2) 0).bind fun v23 => match v23 with
    | (.inl _) =>
      some (false)
    | (.inr _) =>
      some (true))

end Go.Rex

namespace Go.Rex
open Go Go.Rex
noncomputable def law04_PulseExcites (v1 : (List (Nat × Nat))) (v2 : Int) (v3 : (List Int)) (v4 : Int) (v5 : Int) : Option Bool :=
  (law04_Few v1).bind fun v7 =>
  if v7 = true then
    (if (decide ((v3.length : Int) > 12)) = true then
      (some (true))
    else
      (if (decide (v5 > 300)) = true then
        (if (decide (v5 ≤ 1024)) = true then
          (some (true))
        else
          ((law04_List v1).bind fun v8 =>
          (pulse_Folded v8 v5).bind fun (v9, v10) =>
          (law04_List v1).bind fun v11 =>
          (ref04_Copy v2 v3).bind fun (v12, v13) =>
          (pulse_Excited v11 v12 v13 v4).bind fun (v14, v15) =>
          (law04_List v1).bind fun v16 =>
          (ref04_Folded v16 v5).bind fun (v17, v18) =>
          (law04_List v1).bind fun v19 =>
          (ref04_Excited v19 v2 v3 v4).bind fun (v20, v21) =>
          if (decide (v10 = v18)) = true then
            ((base_SameSamples v9 v17).bind fun v22 =>
            if v22 = true then
              (if (decide (v15 = v21)) = true then
                ((base_SameSamples v14 v20).bind fun v23 =>
                some (v23))
              else
                (some (false)))
            else
              (some (false)))
          else
            (some (false))))
      else
        ((law04_List v1).bind fun v24 =>
        (pulse_Folded v24 v5).bind fun (v25, v26) =>
        (law04_List v1).bind fun v27 =>
        (ref04_Copy v2 v3).bind fun (v28, v29) =>
        (pulse_Excited v27 v28 v29 v4).bind fun (v30, v31) =>
        (law04_List v1).bind fun v32 =>
        (ref04_Folded v32 v5).bind fun (v33, v34) =>
        (law04_List v1).bind fun v35 =>
        (ref04_Excited v35 v2 v3 v4).bind fun (v36, v37) =>
        if (decide (v26 = v34)) = true then
          ((base_SameSamples v25 v33).bind fun v38 =>
          if v38 = true then
            (if (decide (v31 = v37)) = true then
              ((base_SameSamples v30 v36).bind fun v39 =>
              some (v39))
            else
              (some (false)))
          else
            (some (false)))
        else
          (some (false)))))
  else
    (some (true))

end Go.Rex

namespace Go.Rex
open Go Go.Rex
noncomputable def figure_isWhole (v1 : Nat) : Option (Bool) :=
  (f2f .f32 v1 .f64).bind fun v3 =>
  (math_Trunc v3).bind fun v4 =>
  if (fcmp .eql .f64 v3 v4) = true then
    ((math_IsInf v3 0).bind fun v5 =>
    some ((!v5)))
  else
    (some (false))

end Go.Rex

namespace Go.Rex
open Go Go.Rex
noncomputable def figure_refuse (v1 : Bool) (v2 : Int) : Option (Int) :=
  if v1 = true then
    (some (v2))
  else
    (some (0))

end Go.Rex

namespace Go.Rex
open Go Go.Rex
noncomputable def figure_firstError_l1 (v1 : (List Int)) : (Int) → Option ((Int) ⊕ ((Int) ⊕ (Unit))) := fun v3 =>
  if (decide (v3 < (v1.length : Int))) = true then
    ((getI v1 v3).bind fun v6 =>
    if (decide (v6 ≠ 0)) = true then
      (some (.inr (.inl v6)))
    else
      (some (.inl (IntKind.i64.wrap (v3 + 1)))))
  else
    (some (.inr (.inr ())))
noncomputable def figure_firstError (v1 : (List Int)) : Option (Int) :=
  (run (figure_firstError_l1 v1) 0).bind fun v7 => match v7 with
  | (.inl v8) =>
    some (v8)
  | (.inr _) =>
    some (0)

end Go.Rex

namespace Go.Rex
open Go Go.Rex
noncomputable def figure_sampleError (v1 : Nat) : Option (Int) :=
  (figure_isWhole v1).bind fun v3 =>
  (figure_refuse (!v3) 27).bind fun v4 =>
  if (fcmp .lss .f32 v1 3338665472) = true then
    ((figure_refuse true 2).bind fun v5 =>
    (figure_firstError ([v4, v5] : List Int)).bind fun v6 =>
    some (v6))
  else
    ((figure_refuse (fcmp .gtr .f32 v1 1191181824) 2).bind fun v7 =>
    (figure_firstError ([v4, v7] : List Int)).bind fun v8 =>
    some (v8))

end Go.Rex

namespace Go.Rex
open Go Go.Rex
noncomputable def figure_within (v1 : Int) (v2 : Int) (v3 : Int) : Option (Int) :=
  if (decide (v1 < v2)) = true then
    ((figure_refuse true 2).bind fun v5 =>
    some (v5))
  else
    ((figure_refuse (decide (v1 > v3)) 2).bind fun v6 =>
    some (v6))

end Go.Rex

namespace Go.Rex
open Go Go.Rex
noncomputable def figure_rateError (v1 : Int) : Option (Int) :=
  (figure_within v1 8000 192000).bind fun v3 =>
  some (v3)

end Go.Rex

namespace Go.Rex
open Go Go.Rex
noncomputable def figure_CheckResponse_l1 (v2 : (List Nat)) : (Int) → Option ((Int) ⊕ ((Int × Int) ⊕ (Unit))) := fun v9 =>
  if (decide (v9 < (v2.length : Int))) = true then
    ((getI v2 v9).bind fun v14 =>
    (figure_sampleError v14).bind fun v15 =>
    if (decide (v15 ≠ 0)) = true then
      (some (.inr (.inl (v9, v15))))
    else
      (some (.inl (IntKind.i64.wrap (v9 + 1)))))
  else
    (some (.inr (.inr ())))
noncomputable def figure_CheckResponse (v1 : Int) (v2 : (List Nat)) : Option (Int × Int) :=
  (figure_rateError v1).bind fun v5 =>
  (figure_refuse (decide ((v2.length : Int) = 0)) 10).bind fun v6 =>
  (figure_refuse (decide ((v2.length : Int) > 1024)) 8).bind fun v7 =>
  (figure_firstError ([v5, v6, v7] : List Int)).bind fun v8 =>
  if (decide (v8 ≠ 0)) = true then
    (some (0, v8))
  else
    ((run (figure_CheckResponse_l1 v2) 0).bind fun v16 => match v16 with
    | (.inl (v17, v18)) =>
      some (v17, v18)
    | (.inr _) =>
      some (0, 0))

end Go.Rex

namespace Go.Rex
open Go Go.Rex
noncomputable def figure_CheckAsk (v1 : Int) (v2 : (List Nat)) (v3 : Int) (v4 : Int) : Option (Int × Int) :=
  (figure_CheckResponse v1 v2).bind fun (v7, v8) =>
  if (decide (v8 ≠ 0)) = true then
    (some (v7, v8))
  else
    ((figure_within v3 0 32767).bind fun v9 =>
    (figure_within v4 0 1000000000000).bind fun v10 =>
    (figure_firstError ([v9, v10] : List Int)).bind fun v11 =>
    some (0, v11))

end Go.Rex

namespace Go.Rex
open Go Go.Rex
noncomputable def ref05_isRate (v1 : Int) : Option (Bool) :=
  (base_Within v1 8000 192000).bind fun v3 =>
  some (v3)

end Go.Rex

namespace Go.Rex
open Go Go.Rex
noncomputable def ref05_CheckResponse_l1 (v2 : (List Nat)) : (Int) → Option ((Int) ⊕ ((Int × Int) ⊕ (Unit))) := fun v6 =>
  if (decide (v6 < (v2.length : Int))) = true then
    ((getI v2 v6).bind fun v12 =>
    (f2f .f32 v12 .f64).bind fun v13 =>
    (base_IsWhole v13).bind fun v14 =>
    if v14 = true then
      (if (fcmp .gtr .f64 v13 4674736138332667904) = true then
        (some (.inr (.inl (v6, 2))))
      else
        (if (fcmp .lss .f64 v13 13898108175187443712) = true then
          (some (.inr (.inl (v6, 2))))
        else
          (some (.inl (IntKind.i64.wrap (v6 + 1))))))
    else
      (some (.inr (.inl (v6, 27)))))
  else
    (some (.inr (.inr ())))
noncomputable def ref05_CheckResponse (v1 : Int) (v2 : (List Nat)) : Option (Int × Int) :=
  (ref05_isRate v1).bind fun v5 =>
  if v5 = true then
    (if (decide ((v2.length : Int) = 0)) = true then
      (some (0, 10))
    else
      (if (decide ((v2.length : Int) > 1024)) = true then
        (some (0, 8))
      else
        ((run (ref05_CheckResponse_l1 v2) 0).bind fun v15 => match v15 with
        | (.inl (v16, v17)) =>
          some (v16, v17)
        | (.inr _) =>
          some (0, 0))))
  else
    (some (0, 2))

end Go.Rex

namespace Go.Rex
open Go Go.Rex
noncomputable def ref05_CheckAsk (v1 : Int) (v2 : (List Nat)) (v3 : Int) (v4 : Int) : Option (Int × Int) :=
  (ref05_CheckResponse v1 v2).bind fun (v7, v8) =>
  if (decide (v8 ≠ 0)) = true then
    (some (v7, v8))
  else
    ((base_Within v3 0 32767).bind fun v9 =>
    if v9 = true then
      ((base_Within v4 0 1000000000000).bind fun v10 =>
      if v10 = true then
        (some (0, 0))
      else
        (some (0, 2)))
    else
      (some (0, 2)))

end Go.Rex

namespace Go.Rex
open Go Go.Rex
noncomputable def ref04_BothErr (v1 : (List (Nat × Nat))) (v2 : (List (Nat × Nat))) : Option (Int) :=
  (ref04_ListErr v1).bind fun v4 =>
  if (decide (v4 ≠ 0)) = true then
    (some (v4))
  else
    ((ref04_ListErr v2).bind fun v5 =>
    some (v5))

end Go.Rex

namespace Go.Rex
open Go Go.Rex
noncomputable def pulse_firstError_a59d (v1 : (List (Nat × Nat))) (v2 : (List (Nat × Nat))) (v3 : Bool) (v4 : Int) : Option (Int) :=
  (pulse_listed_c1_f1d2 v1).bind fun v6 =>
  if (decide (v6 ≠ 0)) = true then
    (some (v6))
  else
    ((pulse_listed_c1_f1d2 v2).bind fun v7 =>
    if (decide (v7 ≠ 0)) = true then
      (some (v7))
    else
      ((pulse_refuse_c1_11f9 v3 v4).bind fun v8 =>
      if (decide (v8 ≠ 0)) = true then
        (some (v8))
      else
        (some (0))))

end Go.Rex

namespace Go.Rex
open Go Go.Rex
noncomputable def pulse_number_times (v1 : Int) (v2 : Int) (v3 : Int) (v4 : Int) : Option (Int × Int) :=
  some ((IntKind.i64.wrap ((IntKind.i64.wrap (v1 * v3)) - (IntKind.i64.wrap (v2 * v4)))), (IntKind.i64.wrap ((IntKind.i64.wrap (v1 * v4)) + (IntKind.i64.wrap (v2 * v3)))))

end Go.Rex

namespace Go.Rex
open Go Go.Rex
noncomputable def pulse_swept_l2 (v2 : (List (Int × Int))) (v6 : Int) (v30 : Int) (v31 : Int) : ((List (Int × Int)) × Int) → Option (((List (Int × Int)) × Int) ⊕ (((List (Int × Int))))) := fun (v32, v33) =>
  if (decide (v33 < (v2.length : Int))) = true then
    ((getI v2 v33).bind fun (v43, v44) =>
    (getI v32 (IntKind.i64.wrap (v6 + v33))).bind fun (v45, v46) =>
    (pulse_number_times v30 v31 v43 v44).bind fun (v47, v48) =>
    (pulse_number_plus v45 v46 v47 v48).bind fun (v49, v50) =>
    some (.inl ((v32.set ((IntKind.i64.wrap (v6 + v33))).toNat (v49, v50)), (IntKind.i64.wrap (v33 + 1)))))
  else
    (some (.inr v32))
noncomputable def pulse_swept_l1 (v1 : (List (Int × Int))) (v2 : (List (Int × Int))) : ((List (Int × Int)) × Int) → Option (((List (Int × Int)) × Int) ⊕ (((List (Int × Int))))) := fun (v5, v6) =>
  if (decide (v6 < (v1.length : Int))) = true then
    ((getI v1 v6).bind fun (v30, v31) =>
    (run (pulse_swept_l2 v2 v6 v30 v31) (v5, 0)).bind fun v51 =>
    some (.inl (v51, (IntKind.i64.wrap (v6 + 1)))))
  else
    (some (.inr v5))
noncomputable def pulse_swept (v1 : (List (Int × Int))) (v2 : (List (Int × Int))) : Option ((List (Int × Int))) :=
  (mkI 16 (IntKind.i64.wrap ((IntKind.i64.wrap ((v1.length : Int) + (v2.length : Int))) - 1)) ((0, 0) : (Int × Int))).bind fun v4 =>
  (run (pulse_swept_l1 v1 v2) (v4, 0)).bind fun v52 =>
  some (v52)

end Go.Rex

namespace Go.Rex
open Go Go.Rex
noncomputable def pulse_Swept (v1 : (List (Nat × Nat))) (v2 : (List (Nat × Nat))) : Option ((List (Nat × Nat)) × Int) :=
  (pulse_listed v1).bind fun v5 =>
  (pulse_listed v2).bind fun v6 =>
  (pulse_refuse (decide ((IntKind.i64.wrap ((IntKind.i64.wrap ((v1.length : Int) + (v2.length : Int))) - 1)) > 1024)) 8).bind fun (v7, v8) =>
  (pulse_firstError_a59d v5 v6 v7 v8).bind fun v9 =>
  if (decide (v9 ≠ 0)) = true then
    (some (([] : List (Nat × Nat)), v9))
  else
    ((pulse_numbersOf v1).bind fun v10 =>
    (pulse_numbersOf v2).bind fun v11 =>
    (pulse_swept v10 v11).bind fun v12 =>
    (pulse_recorded v12).bind fun (v13, v14) =>
    some (v13, v14))

end Go.Rex

namespace Go.Rex
open Go Go.Rex
noncomputable def ref04_times (v1 : Int) (v2 : Int) (v3 : Int) (v4 : Int) : Option (Int × Int) :=
  some ((IntKind.i64.wrap ((IntKind.i64.wrap (v1 * v3)) - (IntKind.i64.wrap (v2 * v4)))), (IntKind.i64.wrap ((IntKind.i64.wrap (v1 * v4)) + (IntKind.i64.wrap (v2 * v3)))))

end Go.Rex

namespace Go.Rex
open Go Go.Rex
noncomputable def ref04_Swept_l2 (v6 : (List (Int × Int))) (v7 : (List (Int × Int))) (v10 : Int) : ((List (Int × Int)) × Int) → Option (((List (Int × Int)) × Int) ⊕ (((List (Int × Int))))) := fun (v32, v33) =>
  if (decide (v33 < (v7.length : Int))) = true then
    ((getI v6 v10).bind fun (v43, v44) =>
    (getI v7 v33).bind fun (v45, v46) =>
    (ref04_times v43 v44 v45 v46).bind fun (v47, v48) =>
    (getI v32 (IntKind.i64.wrap (v10 + v33))).bind fun (v49, v50) =>
    some (.inl ((v32.set ((IntKind.i64.wrap (v10 + v33))).toNat ((IntKind.i64.wrap (v49 + v47)), (IntKind.i64.wrap (v50 + v48)))), (IntKind.i64.wrap (v33 + 1)))))
  else
    (some (.inr v32))
noncomputable def ref04_Swept_l1 (v6 : (List (Int × Int))) (v7 : (List (Int × Int))) : ((List (Int × Int)) × Int) → Option (((List (Int × Int)) × Int) ⊕ (((List (Int × Int))))) := fun (v9, v10) =>
  if (decide (v10 < (v6.length : Int))) = true then
    ((run (ref04_Swept_l2 v6 v7 v10) (v9, 0)).bind fun v51 =>
    some (.inl (v51, (IntKind.i64.wrap (v10 + 1)))))
  else
    (some (.inr v9))
noncomputable def ref04_Swept (v1 : (List (Nat × Nat))) (v2 : (List (Nat × Nat))) : Option ((List (Nat × Nat)) × Int) :=
  (ref04_BothErr v1 v2).bind fun v5 =>
  if (decide (v5 ≠ 0)) = true then
    (some (([] : List (Nat × Nat)), v5))
  else
    (if (decide ((IntKind.i64.wrap ((IntKind.i64.wrap ((v1.length : Int) + (v2.length : Int))) - 1)) > 1024)) = true then
      (some (([] : List (Nat × Nat)), 8))
    else
      ((ref04_Pairs v1).bind fun v6 =>
      (ref04_Pairs v2).bind fun v7 =>
      (mkI 16 (IntKind.i64.wrap ((IntKind.i64.wrap ((v1.length : Int) + (v2.length : Int))) - 1)) ((0, 0) : (Int × Int))).bind fun v8 =>
      (run (ref04_Swept_l1 v6 v7) (v8, 0)).bind fun v52 =>
      (ref04_told v52).bind fun (v53, v54) =>
      some (v53, v54)))

end Go.Rex

namespace Go.Rex
open Go Go.Rex
noncomputable def pulse_turning (v1 : (List (Nat × Nat))) : Option ((List (Nat × Nat))) :=
  some (v1)

end Go.Rex

namespace Go.Rex
open Go Go.Rex
noncomputable def pulse_number_conjugate (v1 : Int) (v2 : Int) : Option (Int × Int) :=
  some (v1, (IntKind.i64.wrap (0 - v2)))

end Go.Rex

namespace Go.Rex
open Go Go.Rex
noncomputable def pulse_turning_c1_f1d2 (v1 : (List (Nat × Nat))) : Option (Int) :=
  (getI v1 0).bind fun (v3, v4) =>
  (pulse_numberOf v3 v4).bind fun (v5, v6) =>
  (pulse_number_conjugate v5 v6).bind fun (v7, v8) =>
  (pulse_number_times v5 v6 v7 v8).bind fun (v9, v10) =>
  (pulse_refuse (!([v9 == 1, v10 == 0].all id)) 15).bind fun (v11, v12) =>
  (pulse_refuse_c1_11f9 v11 v12).bind fun v13 =>
  some (v13)

end Go.Rex

namespace Go.Rex
open Go Go.Rex
noncomputable def pulse_firstError_123b (v1 : (List (Nat × Nat))) (v2 : (List (Nat × Nat))) (v3 : (List (Nat × Nat))) : Option (Int) :=
  (pulse_listed_c1_f1d2 v1).bind fun v5 =>
  if (decide (v5 ≠ 0)) = true then
    (some (v5))
  else
    ((pulse_listed_c1_f1d2 v2).bind fun v6 =>
    if (decide (v6 ≠ 0)) = true then
      (some (v6))
    else
      ((pulse_turning_c1_f1d2 v3).bind fun v7 =>
      if (decide (v7 ≠ 0)) = true then
        (some (v7))
      else
        (some (0))))

end Go.Rex

namespace Go.Rex
open Go Go.Rex
noncomputable def pulse_number_less (v1 : Int) (v2 : Int) (v3 : Int) (v4 : Int) : Option (Int × Int) :=
  some ((IntKind.i64.wrap (v1 - v3)), (IntKind.i64.wrap (v2 - v4)))

end Go.Rex

namespace Go.Rex
open Go Go.Rex
noncomputable def pulse_Divided_l2 (v9 : (List (Int × Int))) (v15 : (List (Int × Int))) (v16 : Int) : (Int × Int × Int) → Option ((Int × Int × Int) ⊕ ((Int × Int))) := fun (v48, v49, v50) =>
  if (decide (v50 < v16)) = true then
    ((getI v15 v50).bind fun (v61, v62) =>
    (getI v9 (IntKind.i64.wrap (v16 - v50))).bind fun (v63, v64) =>
    (pulse_number_times v61 v62 v63 v64).bind fun (v65, v66) =>
    (pulse_number_less v48 v49 v65 v66).bind fun (v67, v68) =>
    some (.inl (v67, v68, (IntKind.i64.wrap (v50 + 1)))))
  else
    (some (.inr (v48, v49)))
noncomputable def pulse_Divided_l1 (v9 : (List (Int × Int))) (v12 : Int) (v13 : Int) (v14 : (List (Int × Int))) : ((List (Int × Int)) × Int) → Option (((List (Int × Int)) × Int) ⊕ (((List (Int × Int))))) := fun (v15, v16) =>
  if (decide (v16 < (v14.length : Int))) = true then
    ((getI v14 v16).bind fun (v46, v47) =>
    (run (pulse_Divided_l2 v9 v15 v16) (v46, v47, (if (IntKind.i64.wrap ((IntKind.i64.wrap (v16 + 1)) - (v9.length : Int))) > 0 then (IntKind.i64.wrap ((IntKind.i64.wrap (v16 + 1)) - (v9.length : Int))) else 0))).bind fun (v69, v70) =>
    (pulse_number_times v69 v70 v12 v13).bind fun (v71, v72) =>
    (appI 16 v15 ([(v71, v72)] : List (Int × Int))).bind fun v73 =>
    some (.inl (v73, (IntKind.i64.wrap (v16 + 1)))))
  else
    (some (.inr v15))
noncomputable def pulse_Divided (v1 : (List (Nat × Nat))) (v2 : (List (Nat × Nat))) : Option ((List (Nat × Nat)) × Int) :=
  (pulse_listed v1).bind fun v5 =>
  (pulse_listed v2).bind fun v6 =>
  (pulse_turning v2).bind fun v7 =>
  (pulse_firstError_123b v5 v6 v7).bind fun v8 =>
  if (decide (v8 ≠ 0)) = true then
    (some (([] : List (Nat × Nat)), v8))
  else
    ((pulse_numbersOf v2).bind fun v9 =>
    (getI v9 0).bind fun (v10, v11) =>
    (pulse_number_conjugate v10 v11).bind fun (v12, v13) =>
    (pulse_numbersOf v1).bind fun v14 =>
    (run (pulse_Divided_l1 v9 v12 v13 v14) (([] : List (Int × Int)), 0)).bind fun v74 =>
    (pulse_recorded v74).bind fun (v75, v76) =>
    some (v75, v76))

end Go.Rex

namespace Go.Rex
open Go Go.Rex
noncomputable def ref04_quarter (v1 : Int) : Option (Int × Int) :=
  (getI ([(1, 0), (0, 1), ((-1), 0), (0, (-1))] : List (Int × Int)) (v1.tmod 4)).bind fun (v4, v5) =>
  some (v4, v5)

end Go.Rex

namespace Go.Rex
open Go Go.Rex
noncomputable def ref04_Divided_l1 (v7 : (List (Int × Int))) : (Int × Int) → Option ((Int × Int) ⊕ ((Int))) := fun (v8, v9) =>
  if (decide (v9 < 4)) = true then
    ((getI v7 0).bind fun (v15, v16) =>
    (ref04_quarter v9).bind fun (v17, v18) =>
    if ([v15 == v17, v16 == v18].all id) = true then
      (some (.inl (v9, (IntKind.i64.wrap (v9 + 1)))))
    else
      (some (.inl (v8, (IntKind.i64.wrap (v9 + 1))))))
  else
    (some (.inr v8))
noncomputable def ref04_Divided_l3 (v7 : (List (Int × Int))) (v20 : (List (Int × Int))) (v21 : Int) : (Int × Int × Int) → Option ((Int × Int × Int) ⊕ ((Int × Int))) := fun (v53, v54, v55) =>
  if (decide (v55 ≤ v21)) = true then
    (if (decide (v55 < (v7.length : Int))) = true then
      ((getI v20 (IntKind.i64.wrap (v21 - v55))).bind fun (v64, v65) =>
      (getI v7 v55).bind fun (v66, v67) =>
      (ref04_times v64 v65 v66 v67).bind fun (v68, v69) =>
      some (.inl ((IntKind.i64.wrap (v53 - v68)), (IntKind.i64.wrap (v54 - v69)), (IntKind.i64.wrap (v55 + 1)))))
    else
      (some (.inr (v53, v54))))
  else
    (some (.inr (v53, v54)))
noncomputable def ref04_Divided_l2 (v6 : (List (Int × Int))) (v7 : (List (Int × Int))) (v19 : Int) : ((List (Int × Int)) × Int) → Option (((List (Int × Int)) × Int) ⊕ ((Unit) ⊕ ((List (Int × Int))))) := fun (v20, v21) =>
  if (decide (v21 < (v6.length : Int))) = true then
    ((getI v6 v21).bind fun (v51, v52) =>
    (run (ref04_Divided_l3 v7 v20 v21) (v51, v52, 1)).bind fun (v70, v71) =>
    (ref04_quarter (IntKind.i64.wrap (4 - v19))).bind fun (v72, v73) =>
    (ref04_times v70 v71 v72 v73).bind fun (v74, v75) =>
    (base_Size v74).bind fun v76 =>
    if (decide (v76 > 16777216)) = true then
      (some (.inr (.inl ())))
    else
      ((base_Size v75).bind fun v77 =>
      if (decide (v77 > 16777216)) = true then
        (some (.inr (.inl ())))
      else
        ((appI 16 v20 ([(v74, v75)] : List (Int × Int))).bind fun v78 =>
        some (.inl (v78, (IntKind.i64.wrap (v21 + 1)))))))
  else
    (some (.inr (.inr v20)))
noncomputable def ref04_Divided (v1 : (List (Nat × Nat))) (v2 : (List (Nat × Nat))) : Option ((List (Nat × Nat)) × Int) :=
  (ref04_BothErr v1 v2).bind fun v5 =>
  if (decide (v5 ≠ 0)) = true then
    (some (([] : List (Nat × Nat)), v5))
  else
    ((ref04_Pairs v1).bind fun v6 =>
    (ref04_Pairs v2).bind fun v7 =>
    (run (ref04_Divided_l1 v7) ((-1), 0)).bind fun v19 =>
    if (decide (v19 < 0)) = true then
      (some (([] : List (Nat × Nat)), 15))
    else
      ((run (ref04_Divided_l2 v6 v7 v19) (([] : List (Int × Int)), 0)).bind fun v79 => match v79 with
      | (.inl _) =>
        some (([] : List (Nat × Nat)), 8)
      | (.inr v80) =>
        (ref04_told v80).bind fun (v81, v82) =>
        some (v81, v82)))

end Go.Rex

namespace Go.Rex
open Go Go.Rex
noncomputable def law04_PulseSweeps (v1 : (List (Nat × Nat))) (v2 : (List (Nat × Nat))) : Option Bool :=
  (law04_Few v1).bind fun v4 =>
  if v4 = true then
    ((law04_Few v2).bind fun v5 =>
    if v5 = true then
      ((law04_List v1).bind fun v6 =>
      (law04_List v2).bind fun v7 =>
      (pulse_Swept v6 v7).bind fun (v8, v9) =>
      (law04_List v1).bind fun v10 =>
      (law04_List v2).bind fun v11 =>
      (pulse_Divided v10 v11).bind fun (v12, v13) =>
      (law04_List v1).bind fun v14 =>
      (law04_List v2).bind fun v15 =>
      (ref04_Swept v14 v15).bind fun (v16, v17) =>
      (law04_List v1).bind fun v18 =>
      (law04_List v2).bind fun v19 =>
      (ref04_Divided v18 v19).bind fun (v20, v21) =>
      if (decide (v9 = v17)) = true then
        ((base_SameSamples v8 v16).bind fun v22 =>
        if v22 = true then
          (if (decide (v13 = v21)) = true then
            ((base_SameSamples v12 v20).bind fun v23 =>
            some (v23))
          else
            (some (false)))
        else
          (some (false)))
      else
        (some (false)))
    else
      (some (true)))
  else
    (some (true))

end Go.Rex

namespace Go.Rex
open Go Go.Rex
noncomputable def pulse_generator_period_l1 (v3 : Int) : ((Int)) → (Int) → Option ((Int) ⊕ ((Int))) := fun v12 v9 =>
  if (decide (v12 = v3)) = true then
    (some (.inr v9))
  else
    (some (.inl (IntKind.i64.wrap (v9 + 1))))
noncomputable def pulse_generator_period (v1 : Int) (v2 : (List Int)) (v3 : Int) : Option (Int) :=
  (pulse_generator_next v1 v2 v3).bind fun v5 =>
  (pulse_generator_states v1 v2 v5).bind fun (v6, v7, v8) =>
  (pulse_generator_states_c1_3283_it v6 v7 v8 (hand (pulse_generator_period_l1 v3)) (.inl 1)).bind fun v13 => match v13 with
  | .inl v14 =>
    some (v14)
  | .inr v15 =>
    some (v15)

end Go.Rex

namespace Go.Rex
open Go Go.Rex
noncomputable def ref04_Next_l1 (v5 : (List Int)) : (Int × Int) → Option ((Int × Int) ⊕ ((Int))) := fun (v6, v7) =>
  if (decide (v7 ≥ 1)) = true then
    ((getI v5 v7).bind fun v10 =>
    some (.inl ((IntKind.i64.wrap ((IntKind.i64.wrap (2 * v6)) + v10)), (IntKind.i64.wrap (v7 - 1)))))
  else
    (some (.inr v6))
noncomputable def ref04_Next (v1 : Int) (v2 : (List Int)) (v3 : Int) : Option (Int) :=
  (ref04_Bits v1 v2 v3 (IntKind.i64.wrap (v1 + 1))).bind fun v5 =>
  (run (ref04_Next_l1 v5) (0, v1)).bind fun v11 =>
  some (v11)

end Go.Rex

namespace Go.Rex
open Go Go.Rex
noncomputable def ref04_Period_l1 (v1 : Int) (v2 : (List Int)) (v3 : Int) : (Int × Int) → Option ((Int × Int) ⊕ ((Int))) := fun (v6, v7) =>
  if (decide (v7 ≠ v3)) = true then
    ((ref04_Next v1 v2 v7).bind fun v10 =>
    some (.inl ((IntKind.i64.wrap (v6 + 1)), v10)))
  else
    (some (.inr v6))
noncomputable def ref04_Period (v1 : Int) (v2 : (List Int)) (v3 : Int) : Option (Int) :=
  (ref04_Next v1 v2 v3).bind fun v5 =>
  (run (ref04_Period_l1 v1 v2 v3) (1, v5)).bind fun v11 =>
  some (v11)

end Go.Rex
