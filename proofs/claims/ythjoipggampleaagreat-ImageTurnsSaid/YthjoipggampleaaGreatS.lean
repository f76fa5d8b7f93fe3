/- The functions of the program and of the reference, as functions of lists and numbers. -/
import Derived.Test.YthjoipggampleaaGreatRexG10
set_option linter.unusedSimpArgs false
set_option linter.unusedVariables false
set_option linter.defProp false
namespace Go.Rex
open Go Go.Rex

end Go.Rex

namespace Go.Rex
open Go Go.Rex
noncomputable def image_sized (v1 : Int) (v2 : Int) (v3 : Int) : Option (Int × Int × Int) :=
  some (v1, v2, v3)

end Go.Rex

namespace Go.Rex
open Go Go.Rex
noncomputable def image_refuse (v1 : Bool) (v2 : Int) : Option (Bool × Int) :=
  some (v1, v2)

end Go.Rex

namespace Go.Rex
open Go Go.Rex
noncomputable def image_within (v1 : Int) (v2 : Int) (v3 : Int) : Option (Bool × Int) :=
  if (decide (v1 < v2)) = true then
    ((image_refuse true 2).bind fun (v6, v7) =>
    some (v6, v7))
  else
    ((image_refuse (decide (v1 > v3)) 2).bind fun (v8, v9) =>
    some (v8, v9))

end Go.Rex

namespace Go.Rex
open Go Go.Rex
noncomputable def image_refuse_c1_11f9 (v1 : Bool) (v2 : Int) : Option (Int) :=
  if v1 = true then
    (some (v2))
  else
    (some (0))

end Go.Rex

namespace Go.Rex
open Go Go.Rex
noncomputable def image_firstError_ee0b (v1 : Bool) (v2 : Int) (v3 : Bool) (v4 : Int) : Option (Int) :=
  (image_refuse_c1_11f9 v1 v2).bind fun v6 =>
  if (decide (v6 ≠ 0)) = true then
    (some (v6))
  else
    ((image_refuse_c1_11f9 v3 v4).bind fun v7 =>
    if (decide (v7 ≠ 0)) = true then
      (some (v7))
    else
      (some (0)))

end Go.Rex

namespace Go.Rex
open Go Go.Rex
noncomputable def image_sized_c1_9cbd (v1 : Int) (v2 : Int) (v3 : Int) : Option (Int) :=
  (image_within v1 (IntKind.i64.wrap (0 - v3)) v3).bind fun (v5, v6) =>
  (image_within v2 (IntKind.i64.wrap (0 - v3)) v3).bind fun (v7, v8) =>
  (image_firstError_ee0b v5 v6 v7 v8).bind fun v9 =>
  some (v9)

end Go.Rex

namespace Go.Rex
open Go Go.Rex
noncomputable def image_firstError_4341 (v1 : Int) (v2 : Int) (v3 : Int) (v4 : Int) (v5 : Int) (v6 : Int) (v7 : Bool) (v8 : Int) : Option (Int) :=
  (image_sized_c1_9cbd v1 v2 v3).bind fun v10 =>
  if (decide (v10 ≠ 0)) = true then
    (some (v10))
  else
    ((image_sized_c1_9cbd v4 v5 v6).bind fun v11 =>
    if (decide (v11 ≠ 0)) = true then
      (some (v11))
    else
      ((image_refuse_c1_11f9 v7 v8).bind fun v12 =>
      if (decide (v12 ≠ 0)) = true then
        (some (v12))
      else
        (some (0))))

end Go.Rex

namespace Go.Rex
open Go Go.Rex
noncomputable def image_divisor_l1 : (Int × Int) → Option ((Int × Int) ⊕ ((Int))) := fun (v4, v5) =>
  if (decide (v5 ≠ 0)) = true then
    (if v5 = 0 then none else
    (some (.inl (v5, (v4.tmod v5)))))
  else
    (some (.inr v4))
noncomputable def image_divisor (v1 : Int) (v2 : Int) : Option (Int) :=
  (run (image_divisor_l1) (v1, v2)).bind fun v7 =>
  some (v7)

end Go.Rex

namespace Go.Rex
open Go Go.Rex
noncomputable def image_turnTo (v1 : Int) (v2 : Int) (v3 : Int) (v4 : Int) : Option (Int × Int × Int) :=
  (image_divisor (IntKind.i64.wrap (v3 - v1)) (IntKind.i64.wrap (v4 - v2))).bind fun v8 =>
  if (if (IntKind.i64.wrap (0 - v8)) > v8 then (IntKind.i64.wrap (0 - v8)) else v8) = 0 then none else
  (some ((IntKind.i64.wrap ((IntKind.i64.wrap (v3 - v1)).tdiv (if (IntKind.i64.wrap (0 - v8)) > v8 then (IntKind.i64.wrap (0 - v8)) else v8))), (IntKind.i64.wrap ((IntKind.i64.wrap (v4 - v2)).tdiv (if (IntKind.i64.wrap (0 - v8)) > v8 then (IntKind.i64.wrap (0 - v8)) else v8))), (if (IntKind.i64.wrap (0 - v8)) > v8 then (IntKind.i64.wrap (0 - v8)) else v8)))

end Go.Rex

namespace Go.Rex
open Go Go.Rex
noncomputable def image_TurnTo (v1 : Int) (v2 : Int) (v3 : Int) (v4 : Int) : Option (Int × Int × Int) :=
  (image_sized v1 v2 45000).bind fun (v8, v9, v10) =>
  (image_sized v3 v4 45000).bind fun (v11, v12, v13) =>
  (image_refuse ([v1 == v3, v2 == v4].all id) 11).bind fun (v14, v15) =>
  (image_firstError_4341 v8 v9 v10 v11 v12 v13 v14 v15).bind fun v16 =>
  if (decide (v16 ≠ 0)) = true then
    (some (0, 0, v16))
  else
    ((image_turnTo v1 v2 v3 v4).bind fun (v17, v18, v19) =>
    some (v17, v18, 0))

end Go.Rex

namespace Go.Rex
open Go Go.Rex
noncomputable def base_Within (v1 : Int) (v2 : Int) (v3 : Int) : Option (Bool) :=
  if (decide (v2 ≤ v1)) = true then
    (some ((decide (v1 ≤ v3))))
  else
    (some (false))

end Go.Rex

namespace Go.Rex
open Go Go.Rex
noncomputable def ref02_CornerErr (v1 : Int) (v2 : Int) : Option (Int) :=
  (base_Within v1 (-45000) 45000).bind fun v4 =>
  if v4 = true then
    ((base_Within v2 (-45000) 45000).bind fun v5 =>
    if v5 = true then
      (some (0))
    else
      (some (2)))
  else
    (some (2))

end Go.Rex

namespace Go.Rex
open Go Go.Rex
noncomputable def base_Size (v1 : Int) : Option (Int) :=
  some ((if (IntKind.i64.wrap (0 - v1)) > v1 then (IntKind.i64.wrap (0 - v1)) else v1))

end Go.Rex

namespace Go.Rex
open Go Go.Rex
noncomputable def base_Gcd_l1 : (Int × Int) → Option ((Int × Int) ⊕ ((Int))) := fun (v4, v5) =>
  if (decide (v5 ≠ 0)) = true then
    (if v5 = 0 then none else
    (some (.inl (v5, (v4.tmod v5)))))
  else
    (some (.inr v4))
noncomputable def base_Gcd (v1 : Int) (v2 : Int) : Option (Int) :=
  (run (base_Gcd_l1) (v1, v2)).bind fun v7 =>
  (base_Size v7).bind fun v8 =>
  some (v8)

end Go.Rex

namespace Go.Rex
open Go Go.Rex
noncomputable def ref02_turn (v1 : Int) (v2 : Int) : Option (Int × Int) :=
  (base_Gcd v1 v2).bind fun v5 =>
  if v5 = 0 then none else
  (some ((IntKind.i64.wrap (v1.tdiv v5)), (IntKind.i64.wrap (v2.tdiv v5))))

end Go.Rex

namespace Go.Rex
open Go Go.Rex
noncomputable def ref02_TurnTo (v1 : Int) (v2 : Int) (v3 : Int) (v4 : Int) : Option (Int × Int × Int) :=
  (ref02_CornerErr v1 v2).bind fun v8 =>
  if (decide (v8 ≠ 0)) = true then
    (some (0, 0, 2))
  else
    ((ref02_CornerErr v3 v4).bind fun v9 =>
    if (decide (v9 ≠ 0)) = true then
      (some (0, 0, 2))
    else
      (if ([v1 == v3, v2 == v4].all id) = true then
        (some (0, 0, 11))
      else
        ((ref02_turn (IntKind.i64.wrap (v3 - v1)) (IntKind.i64.wrap (v4 - v2))).bind fun (v10, v11) =>
        some (v10, v11, 0))))

end Go.Rex

namespace Go.Rex
open Go Go.Rex
noncomputable def image_turning (v1 : Int) (v2 : Int) : Option (Int × Int) :=
  some (v1, v2)

end Go.Rex

namespace Go.Rex
open Go Go.Rex
noncomputable def image_firstError_262d (v1 : Bool) (v2 : Int) (v3 : Bool) (v4 : Int) (v5 : Bool) (v6 : Int) : Option (Int) :=
  (image_refuse_c1_11f9 v1 v2).bind fun v8 =>
  if (decide (v8 ≠ 0)) = true then
    (some (v8))
  else
    ((image_refuse_c1_11f9 v3 v4).bind fun v9 =>
    if (decide (v9 ≠ 0)) = true then
      (some (v9))
    else
      ((image_refuse_c1_11f9 v5 v6).bind fun v10 =>
      if (decide (v10 ≠ 0)) = true then
        (some (v10))
      else
        (some (0))))

end Go.Rex

namespace Go.Rex
open Go Go.Rex
noncomputable def image_turning_c1_eebc (v1 : Int) (v2 : Int) : Option (Int) :=
  (image_divisor v1 v2).bind fun v4 =>
  if (decide (v4 ≠ 1)) = true then
    ((image_refuse (decide (v4 ≠ (-1))) 3).bind fun (v5, v6) =>
    (image_within v1 (-100000) 100000).bind fun (v7, v8) =>
    (image_within v2 (-100000) 100000).bind fun (v9, v10) =>
    (image_firstError_262d v5 v6 v7 v8 v9 v10).bind fun v11 =>
    some (v11))
  else
    ((image_refuse false 3).bind fun (v12, v13) =>
    (image_within v1 (-100000) 100000).bind fun (v14, v15) =>
    (image_within v2 (-100000) 100000).bind fun (v16, v17) =>
    (image_firstError_262d v12 v13 v14 v15 v16 v17).bind fun v18 =>
    some (v18))

end Go.Rex

namespace Go.Rex
open Go Go.Rex
noncomputable def image_firstError_19ee (v1 : Int) (v2 : Int) (v3 : Int) (v4 : Int) (v5 : Int) (v6 : Int) : Option (Int) :=
  (image_turning_c1_eebc v1 v2).bind fun v8 =>
  if (decide (v8 ≠ 0)) = true then
    (some (v8))
  else
    ((image_turning_c1_eebc v3 v4).bind fun v9 =>
    if (decide (v9 ≠ 0)) = true then
      (some (v9))
    else
      ((image_turning_c1_eebc v5 v6).bind fun v10 =>
      if (decide (v10 ≠ 0)) = true then
        (some (v10))
      else
        (some (0))))

end Go.Rex

namespace Go.Rex
open Go Go.Rex
noncomputable def image_cross (v1 : Int) (v2 : Int) (v3 : Int) (v4 : Int) : Option (Int) :=
  some ((IntKind.i64.wrap ((IntKind.i64.wrap (v1 * v4)) - (IntKind.i64.wrap (v2 * v3)))))

end Go.Rex

namespace Go.Rex
open Go Go.Rex
noncomputable def image_isBetween (v1 : Int) (v2 : Int) (v3 : Int) (v4 : Int) (v5 : Int) (v6 : Int) : Option (Bool) :=
  (image_cross v1 v2 v3 v4).bind fun v8 =>
  if (decide (v8 > 0)) = true then
    ((image_cross v1 v2 v5 v6).bind fun v9 =>
    if (decide (v9 > 0)) = true then
      ((image_cross v5 v6 v3 v4).bind fun v10 =>
      some ((decide (v10 > 0))))
    else
      (some (false)))
  else
    (some (false))

end Go.Rex

namespace Go.Rex
open Go Go.Rex
noncomputable def image_Between (v1 : Int) (v2 : Int) (v3 : Int) (v4 : Int) (v5 : Int) (v6 : Int) : Option (Bool × Int) :=
  (image_turning v1 v2).bind fun (v9, v10) =>
  (image_turning v3 v4).bind fun (v11, v12) =>
  (image_turning v5 v6).bind fun (v13, v14) =>
  (image_firstError_19ee v9 v10 v11 v12 v13 v14).bind fun v15 =>
  if (decide (v15 ≠ 0)) = true then
    (some (false, v15))
  else
    ((image_isBetween v1 v2 v3 v4 v5 v6).bind fun v16 =>
    some (v16, 0))

end Go.Rex

namespace Go.Rex
open Go Go.Rex
noncomputable def ref02_TurnErr (v1 : Int) (v2 : Int) : Option (Int) :=
  (base_Gcd v1 v2).bind fun v4 =>
  if (decide (v4 ≠ 1)) = true then
    (some (3))
  else
    ((base_Within v1 (-100000) 100000).bind fun v5 =>
    if v5 = true then
      ((base_Within v2 (-100000) 100000).bind fun v6 =>
      if v6 = true then
        (some (0))
      else
        (some (2)))
    else
      (some (2)))

end Go.Rex

namespace Go.Rex
open Go Go.Rex
noncomputable def ref02_cross (v1 : Int) (v2 : Int) (v3 : Int) (v4 : Int) : Option (Int) :=
  some ((IntKind.i64.wrap ((IntKind.i64.wrap (v1 * v4)) - (IntKind.i64.wrap (v2 * v3)))))

end Go.Rex

namespace Go.Rex
open Go Go.Rex
noncomputable def ref02_Between (v1 : Int) (v2 : Int) (v3 : Int) (v4 : Int) (v5 : Int) (v6 : Int) : Option (Bool) :=
  (ref02_cross v1 v2 v3 v4).bind fun v8 =>
  if (decide (v8 > 0)) = true then
    ((ref02_cross v1 v2 v5 v6).bind fun v9 =>
    if (decide (v9 > 0)) = true then
      ((ref02_cross v5 v6 v3 v4).bind fun v10 =>
      some ((decide (v10 > 0))))
    else
      (some (false)))
  else
    (some (false))

end Go.Rex

namespace Go.Rex
open Go Go.Rex
noncomputable def law02_ImageTurns (v1 : Int) (v2 : Int) (v3 : Int) (v4 : Int) (v5 : Int) (v6 : Int) (v7 : Int) (v8 : Int) (v9 : Int) (v10 : Int) : Option Bool :=
  (image_TurnTo v7 v8 v9 v10).bind fun (v12, v13, v14) =>
  (ref02_TurnTo v7 v8 v9 v10).bind fun (v15, v16, v17) =>
  if (decide (v14 ≠ v17)) = true then
    (some (false))
  else
    (if ([v12 == v15, v13 == v16].all id) = true then
      ((image_Between v1 v2 v3 v4 v5 v6).bind fun (v18, v19) =>
      (ref02_TurnErr v1 v2).bind fun v20 =>
      if (decide (v20 = 0)) = true then
        ((ref02_TurnErr v3 v4).bind fun v21 =>
        if (decide (v21 = 0)) = true then
          ((ref02_TurnErr v5 v6).bind fun v22 =>
          if (decide (v22 ≠ 0)) = true then
            (if (decide (v19 = v22)) = true then
              (some ((!v18)))
            else
              (some (false)))
          else
            (if (decide (v19 = 0)) = true then
              ((ref02_Between v1 v2 v3 v4 v5 v6).bind fun v23 =>
              some ((v18 == v23)))
            else
              (some (false))))
        else
          (if (decide (v21 ≠ 0)) = true then
            (if (decide (v19 = v21)) = true then
              (some ((!v18)))
            else
              (some (false)))
          else
            (if (decide (v19 = 0)) = true then
              ((ref02_Between v1 v2 v3 v4 v5 v6).bind fun v24 =>
              some ((v18 == v24)))
            else
              (some (false)))))
      else
        (if (decide (v20 ≠ 0)) = true then
          (if (decide (v19 = v20)) = true then
            (some ((!v18)))
          else
            (some (false)))
        else
          (if (decide (v19 = 0)) = true then
            ((ref02_Between v1 v2 v3 v4 v5 v6).bind fun v25 =>
            some ((v18 == v25)))
          else
            (some (false)))))
    else
      (some (false)))

end Go.Rex
