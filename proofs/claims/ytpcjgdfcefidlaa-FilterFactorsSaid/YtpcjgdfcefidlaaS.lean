/- The functions of the program and of the reference, as functions of lists and numbers. -/
import Derived.Test.YtpcjgdfcefidlaaRexG7
set_option linter.unusedSimpArgs false
set_option linter.unusedVariables false
set_option linter.defProp false
namespace Go.Rex
open Go Go.Rex
def e_i (x : Int) : List TV := [.v (.int .i64 x)]

end Go.Rex

namespace Go.Rex
open Go Go.Rex
noncomputable def base_Within (v1 : Int) (v2 : Int) (v3 : Int) : Option (Bool) :=
  if (decide (v2 ≤ v1)) = true then
    (some ((decide (v1 ≤ v3))))
  else
    (some (false))

end Go.Rex

namespace Go.Rex
open Go Go.Rex
noncomputable def ref06_PolynomialErr_l1 (v1 : (List Int)) : (Int) → Option ((Int) ⊕ ((Unit) ⊕ (Unit))) := fun v4 =>
  if (decide (v4 < (v1.length : Int))) = true then
    ((getI v1 v4).bind fun v7 =>
    (base_Within v7 (-100) 100).bind fun v8 =>
    if v8 = true then
      (some (.inl (IntKind.i64.wrap (v4 + 1))))
    else
      (some (.inr (.inl ()))))
  else
    (some (.inr (.inr ())))
noncomputable def ref06_PolynomialErr (v1 : (List Int)) : Option (Int) :=
  (base_Within (v1.length : Int) 2 5).bind fun v3 =>
  if v3 = true then
    ((run (ref06_PolynomialErr_l1 v1) 0).bind fun v9 => match v9 with
    | (.inl _) =>
      some (2)
    | (.inr _) =>
      (getI v1 0).bind fun v10 =>
      if (decide (v10 ≤ 0)) = true then
        (some (11))
      else
        (some (0)))
  else
    (some (10))

end Go.Rex

namespace Go.Rex
open Go Go.Rex
noncomputable def law06_times_l2 (v1 : (List Int)) (v2 : (List Int)) (v6 : Int) : ((List Int) × Int) → Option (((List Int) × Int) ⊕ (((List Int)))) := fun (v18, v19) =>
  if (decide (v19 < (v2.length : Int))) = true then
    ((getI v18 (IntKind.i64.wrap (v6 + v19))).bind fun v24 =>
    (getI v1 v6).bind fun v25 =>
    (getI v2 v19).bind fun v26 =>
    some (.inl ((v18.set ((IntKind.i64.wrap (v6 + v19))).toNat (IntKind.i64.wrap (v24 + (IntKind.i64.wrap (v25 * v26))))), (IntKind.i64.wrap (v19 + 1)))))
  else
    (some (.inr v18))
noncomputable def law06_times_l1 (v1 : (List Int)) (v2 : (List Int)) : ((List Int) × Int) → Option (((List Int) × Int) ⊕ (((List Int)))) := fun (v5, v6) =>
  if (decide (v6 < (v1.length : Int))) = true then
    ((run (law06_times_l2 v1 v2 v6) (v5, 0)).bind fun v27 =>
    some (.inl (v27, (IntKind.i64.wrap (v6 + 1)))))
  else
    (some (.inr v5))
noncomputable def law06_times (v1 : (List Int)) (v2 : (List Int)) : Option ((List Int)) :=
  (mkI 8 (IntKind.i64.wrap ((IntKind.i64.wrap ((v1.length : Int) + (v2.length : Int))) - 1)) (0 : Int)).bind fun v4 =>
  (run (law06_times_l1 v1 v2) (v4, 0)).bind fun v28 =>
  some (v28)

end Go.Rex

namespace Go.Rex
open Go Go.Rex
noncomputable def base_CopyInts (v1 : (List Int)) : Option ((List Int)) :=
  (appI 8 ([] : List Int) v1).bind fun v3 =>
  some (v3)

end Go.Rex

namespace Go.Rex
open Go Go.Rex
noncomputable def filter_refuse (v1 : Bool) (v2 : Int) : Option (Int) :=
  if v1 = true then
    (some (v2))
  else
    (some (0))

end Go.Rex

namespace Go.Rex
open Go Go.Rex
noncomputable def filter_isSmall (v1 : Int) (v2 : Int) : Option (Bool) :=
  if (decide ((IntKind.i64.wrap (0 - v2)) ≤ v1)) = true then
    (some ((decide (v1 ≤ v2))))
  else
    (some (false))

end Go.Rex

namespace Go.Rex
open Go Go.Rex
noncomputable def filter_allSmall_l1 (v1 : (List Int)) (v2 : Int) : (Int) → Option ((Int) ⊕ ((Unit) ⊕ (Unit))) := fun v4 =>
  if (decide (v4 < (v1.length : Int))) = true then
    ((getI v1 v4).bind fun v7 =>
    (filter_isSmall v7 v2).bind fun v8 =>
    if v8 = true then
      (some (.inl (IntKind.i64.wrap (v4 + 1))))
    else
      (some (.inr (.inl ()))))
  else
    (some (.inr (.inr ())))
noncomputable def filter_allSmall (v1 : (List Int)) (v2 : Int) : Option (Int) :=
  (run (filter_allSmall_l1 v1 v2) 0).bind fun v9 => match v9 with
  | (.inl _) =>
    some (2)
  | (.inr _) =>
    some (0)

end Go.Rex

namespace Go.Rex
open Go Go.Rex
noncomputable def filter_firstError_l1 (v1 : (List Int)) : (Int) → Option ((Int) ⊕ ((Int) ⊕ (Unit))) := fun v3 =>
  if (decide (v3 < (v1.length : Int))) = true then
    ((getI v1 v3).bind fun v6 =>
    if (decide (v6 ≠ 0)) = true then
      (some (.inr (.inl v6)))
    else
      (some (.inl (IntKind.i64.wrap (v3 + 1)))))
  else
    (some (.inr (.inr ())))
noncomputable def filter_firstError (v1 : (List Int)) : Option (Int) :=
  (run (filter_firstError_l1 v1) 0).bind fun v7 => match v7 with
  | (.inl v8) =>
    some (v8)
  | (.inr _) =>
    some (0)

end Go.Rex

namespace Go.Rex
open Go Go.Rex
noncomputable def filter_polynomialError (v1 : (List Int)) : Option (Int) :=
  if (decide ((v1.length : Int) < 2)) = true then
    ((filter_refuse true 10).bind fun v3 =>
    if (decide (v3 ≠ 0)) = true then
      (some (v3))
    else
      ((filter_allSmall v1 100).bind fun v4 =>
      (getI v1 0).bind fun v5 =>
      (filter_refuse (decide (v5 ≤ 0)) 11).bind fun v6 =>
      (filter_firstError ([v4, v6] : List Int)).bind fun v7 =>
      some (v7)))
  else
    ((filter_refuse (decide ((v1.length : Int) > 5)) 10).bind fun v8 =>
    if (decide (v8 ≠ 0)) = true then
      (some (v8))
    else
      ((filter_allSmall v1 100).bind fun v9 =>
      (getI v1 0).bind fun v10 =>
      (filter_refuse (decide (v10 ≤ 0)) 11).bind fun v11 =>
      (filter_firstError ([v9, v11] : List Int)).bind fun v12 =>
      some (v12)))

end Go.Rex

namespace Go.Rex
open Go Go.Rex
noncomputable def filter_size (v1 : Int) : Option (Int) :=
  some ((if (IntKind.i64.wrap (0 - v1)) > v1 then (IntKind.i64.wrap (0 - v1)) else v1))

end Go.Rex

namespace Go.Rex
open Go Go.Rex
noncomputable def filter_stepDown_l1 (v1 : (List Int)) : ((List Int) × Int) → Option (((List Int) × Int) ⊕ (((List Int)))) := fun (v3, v4) =>
  if (decide (v4 < (IntKind.i64.wrap ((v1.length : Int) - 1)))) = true then
    ((getI v1 0).bind fun v11 =>
    (getI v1 v4).bind fun v12 =>
    (getI v1 (IntKind.i64.wrap ((v1.length : Int) - 1))).bind fun v13 =>
    (getI v1 (IntKind.i64.wrap ((IntKind.i64.wrap ((v1.length : Int) - 1)) - v4))).bind fun v14 =>
    (appI 8 v3 ([(IntKind.i64.wrap ((IntKind.i64.wrap (v11 * v12)) - (IntKind.i64.wrap (v13 * v14))))] : List Int)).bind fun v15 =>
    some (.inl (v15, (IntKind.i64.wrap (v4 + 1)))))
  else
    (some (.inr v3))
noncomputable def filter_stepDown (v1 : (List Int)) : Option ((List Int)) :=
  (run (filter_stepDown_l1 v1) (([] : List Int), 0)).bind fun v16 =>
  some (v16)

end Go.Rex

namespace Go.Rex
open Go Go.Rex
noncomputable def filter_Schur_l1 : ((List Int) × Int) → Option (((List Int) × Int) ⊕ ((Int) ⊕ (Int))) := fun (v6, v7) =>
  (getI v6 0).bind fun v14 =>
  (getI v6 (IntKind.i64.wrap ((v6.length : Int) - 1))).bind fun v15 =>
  (filter_size v15).bind fun v16 =>
  if (decide (v14 > v16)) = true then
    (if (decide ((v6.length : Int) = 2)) = true then
      (some (.inr (.inl v7)))
    else
      ((filter_stepDown v6).bind fun v17 =>
      some (.inl (v17, (IntKind.i64.wrap (v7 + 1))))))
  else
    (some (.inr (.inr v7)))
noncomputable def filter_Schur (v1 : (List Int)) : Option (Bool × Int × Int) :=
  (filter_polynomialError v1).bind fun v5 =>
  if (decide (v5 ≠ 0)) = true then
    (some (false, 0, v5))
  else
    ((run (filter_Schur_l1) (v1, 0)).bind fun v18 => match v18 with
    | (.inl v19) =>
      some (true, v19, 0)
    | (.inr v20) =>
      some (false, v20, 0))

end Go.Rex

namespace Go.Rex
open Go Go.Rex
noncomputable def base_Size (v1 : Int) : Option (Int) :=
  some ((if (IntKind.i64.wrap (0 - v1)) > v1 then (IntKind.i64.wrap (0 - v1)) else v1))

end Go.Rex

namespace Go.Rex
open Go Go.Rex
noncomputable def law06_FilterFactors (v1 : (List Int)) (v2 : (List Int)) : Option Bool :=
  if (decide ((v1.length : Int) < 2)) = true then
    (some (true))
  else
    (if (decide ((v2.length : Int) < 2)) = true then
      (some (true))
    else
      (if (decide ((IntKind.i64.wrap ((v1.length : Int) + (v2.length : Int))) > 6)) = true then
        (some (true))
      else
        ((ref06_PolynomialErr v1).bind fun v4 =>
        if (decide (v4 ≠ 0)) = true then
          (some (true))
        else
          ((ref06_PolynomialErr v2).bind fun v5 =>
          if (decide (v5 ≠ 0)) = true then
            (some (true))
          else
            ((law06_times v1 v2).bind fun v6 =>
            (ref06_PolynomialErr v6).bind fun v7 =>
            if (decide (v7 ≠ 0)) = true then
              (some (true))
            else
              ((base_CopyInts v1).bind fun v8 =>
              (filter_Schur v8).bind fun (v9, v10, v11) =>
              (base_CopyInts v2).bind fun v12 =>
              (filter_Schur v12).bind fun (v13, v14, v15) =>
              (filter_Schur v6).bind fun (v16, v17, v18) =>
              if (decide (v11 ≠ 0)) = true then
                (some (false))
              else
                (if (decide (v15 ≠ 0)) = true then
                  (some (false))
                else
                  (if (decide (v18 ≠ 0)) = true then
                    (some (false))
                  else
                    (if v9 = true then
                      (if (v16 == v13) = true then
                        (if (decide ((v1.length : Int) ≠ 2)) = true then
                          (some (true))
                        else
                          ((getI v1 1).bind fun v19 =>
                          (base_Size v19).bind fun v20 =>
                          (getI v1 0).bind fun v21 =>
                          some ((v9 == (decide (v20 < v21))))))
                      else
                        (some (false)))
                    else
                      (if (v16 == false) = true then
                        (if (decide ((v1.length : Int) ≠ 2)) = true then
                          (some (true))
                        else
                          ((getI v1 1).bind fun v22 =>
                          (base_Size v22).bind fun v23 =>
                          (getI v1 0).bind fun v24 =>
                          some ((v9 == (decide (v23 < v24))))))
                      else
                        (some (false))))))))))))

end Go.Rex
