/- The functions of the program and of the reference, as functions of lists and numbers. -/
import Derived.Test.YtnjbkoobeobfiaaGreatRexG10
set_option linter.unusedSimpArgs false
set_option linter.unusedVariables false
set_option linter.defProp false
namespace Go.Rex
open Go Go.Rex
def e_i (x : Int) : List TV := [.v (.int .i64 x)]
def e_Li_iiii (x : ((List Int) × Int × Int × Int × Int)) : List TV := [.list 1 (x.1.map e_i), .v (.int .i64 x.2.1), .v (.int .i64 x.2.2.1), .v (.int .i64 x.2.2.2.1), .v (.int .i64 x.2.2.2.2)]

end Go.Rex

namespace Go.Rex
open Go Go.Rex
noncomputable def law03_echoes_l1 (v1 : (List ((List Int) × Int × Int × Int × Int))) : (Int) → Option ((Int) ⊕ ((Unit) ⊕ (Unit))) := fun v3 =>
  if (decide (v3 < (v1.length : Int))) = true then
    ((getI v1 v3).bind fun (v9, v10, v11, v12, v13) =>
    if (decide ((v9.length : Int) > 6)) = true then
      (some (.inr (.inl ())))
    else
      (some (.inl (IntKind.i64.wrap (v3 + 1)))))
  else
    (some (.inr (.inr ())))
noncomputable def law03_echoes_l2 (v1 : (List ((List Int) × Int × Int × Int × Int))) : (Int) → Option ((Int) ⊕ ((Unit) ⊕ (Unit))) := fun v15 =>
  if (decide (v15 < (v1.length : Int))) = true then
    ((getI v1 v15).bind fun (v21, v22, v23, v24, v25) =>
    if (decide ((v21.length : Int) > 6)) = true then
      (some (.inr (.inl ())))
    else
      (some (.inl (IntKind.i64.wrap (v15 + 1)))))
  else
    (some (.inr (.inr ())))
noncomputable def law03_echoes (v1 : (List ((List Int) × Int × Int × Int × Int))) : Option (Bool) :=
  if (decide ((v1.length : Int) > 12)) = true then
    (if (decide ((v1.length : Int) ≤ 500)) = true then
      (some (false))
    else
      (if (decide ((v1.length : Int) > 502)) = true then
        (some (false))
      else
        ((run (law03_echoes_l1 v1) 0).bind fun v14 => match v14 with
        | (.inl _) =>
          some (false)
        | (.inr _) =>
          some (true))))
  else
    (if (decide ((v1.length : Int) > 502)) = true then
      (some (false))
    else
      ((run (law03_echoes_l2 v1) 0).bind fun v26 => match v26 with
      | (.inl _) =>
        some (false)
      | (.inr _) =>
        some (true)))

end Go.Rex

namespace Go.Rex
open Go Go.Rex
noncomputable def base_CopyInts (v1 : (List Int)) : Option ((List Int)) :=
  (appI 8 ([] : List Int) v1).bind fun v3 =>
  some (v3)

end Go.Rex

namespace Go.Rex
open Go Go.Rex
noncomputable def ref03_CopyEchoes_l1 (v1 : (List ((List Int) × Int × Int × Int × Int))) : ((List ((List Int) × Int × Int × Int × Int)) × Int) → Option (((List ((List Int) × Int × Int × Int × Int)) × Int) ⊕ (((List ((List Int) × Int × Int × Int × Int))))) := fun (v4, v5) =>
  if (decide (v5 < (v4.length : Int))) = true then
    ((getI v1 v5).bind fun (v18, v19, v20, v21, v22) =>
    (base_CopyInts v18).bind fun v23 =>
    (getI v4 v5).bind fun (v24, v25, v26, v27, v28) =>
    some (.inl ((v4.set v5.toNat (v23, v25, v26, v27, v28)), (IntKind.i64.wrap (v5 + 1)))))
  else
    (some (.inr v4))
noncomputable def ref03_CopyEchoes (v1 : (List ((List Int) × Int × Int × Int × Int))) : Option ((List ((List Int) × Int × Int × Int × Int))) :=
  (appI 56 ([] : List ((List Int) × Int × Int × Int × Int)) v1).bind fun v3 =>
  (run (ref03_CopyEchoes_l1 v1) (v3, 0)).bind fun v29 =>
  some (v29)

end Go.Rex

namespace Go.Rex
open Go Go.Rex
noncomputable def energy_ends_within (v1 : Int) (v2 : Int) (v3 : Int) : Option (Int × Int × Int) :=
  some (v1, v2, v3)

end Go.Rex

namespace Go.Rex
open Go Go.Rex
noncomputable def energy_refuse (v1 : Bool) (v2 : Int) : Option (Bool × Int) :=
  some (v1, v2)

end Go.Rex

namespace Go.Rex
open Go Go.Rex
noncomputable def energy_within (v1 : Int) (v2 : Int) (v3 : Int) : Option (Bool × Int) :=
  if (decide (v1 < v2)) = true then
    ((energy_refuse true 2).bind fun (v6, v7) =>
    some (v6, v7))
  else
    ((energy_refuse (decide (v1 > v3)) 2).bind fun (v8, v9) =>
    some (v8, v9))

end Go.Rex

namespace Go.Rex
open Go Go.Rex
noncomputable def energy_refuse_c1_11f9 (v1 : Bool) (v2 : Int) : Option (Int) :=
  if v1 = true then
    (some (v2))
  else
    (some (0))

end Go.Rex

namespace Go.Rex
open Go Go.Rex
noncomputable def energy_firstError_b825 (v1 : Bool) (v2 : Int) (v3 : Bool) (v4 : Int) (v5 : Bool) (v6 : Int) : Option (Int) :=
  (energy_refuse_c1_11f9 v1 v2).bind fun v8 =>
  if (decide (v8 ≠ 0)) = true then
    (some (v8))
  else
    ((energy_refuse_c1_11f9 v3 v4).bind fun v9 =>
    if (decide (v9 ≠ 0)) = true then
      (some (v9))
    else
      ((energy_refuse_c1_11f9 v5 v6).bind fun v10 =>
      if (decide (v10 ≠ 0)) = true then
        (some (v10))
      else
        (some (0))))

end Go.Rex

namespace Go.Rex
open Go Go.Rex
noncomputable def energy_ends_within_c1_9cbd (v1 : Int) (v2 : Int) (v3 : Int) : Option (Int) :=
  (energy_within v1 0 v3).bind fun (v5, v6) =>
  (energy_within v2 0 v3).bind fun (v7, v8) =>
  (energy_refuse (decide (v1 > v2)) 9).bind fun (v9, v10) =>
  (energy_firstError_b825 v5 v6 v7 v8 v9 v10).bind fun v11 =>
  some (v11)

end Go.Rex

namespace Go.Rex
open Go Go.Rex
noncomputable def energy_firstError_fcea (v1 : Int) (v2 : Int) (v3 : Int) (v4 : Int) (v5 : Int) (v6 : Int) (v7 : Bool) (v8 : Int) : Option (Int) :=
  (energy_ends_within_c1_9cbd v1 v2 v3).bind fun v10 =>
  if (decide (v10 ≠ 0)) = true then
    (some (v10))
  else
    ((energy_ends_within_c1_9cbd v4 v5 v6).bind fun v11 =>
    if (decide (v11 ≠ 0)) = true then
      (some (v11))
    else
      ((energy_refuse_c1_11f9 v7 v8).bind fun v12 =>
      if (decide (v12 ≠ 0)) = true then
        (some (v12))
      else
        (some (0))))

end Go.Rex

namespace Go.Rex
open Go Go.Rex
noncomputable def energy_CheckEchoes_c1_c35a (v1 : Int) (v2 : (List ((List Int) × Int × Int × Int × Int))) : Option (Int) :=
  (getI v2 v1).bind fun (v4, v5, v6, v7, v8) =>
  (energy_ends_within v5 v6 10000000).bind fun (v9, v10, v11) =>
  (energy_ends_within v7 v8 1000000000000).bind fun (v12, v13, v14) =>
  if (decide (v1 > 0)) = true then
    ((getI v2 (IntKind.i64.wrap (v1 - 1))).bind fun (v15, v16, v17, v18, v19) =>
    (energy_refuse (decide (v5 < v16)) 9).bind fun (v20, v21) =>
    (energy_firstError_fcea v9 v10 v11 v12 v13 v14 v20 v21).bind fun v22 =>
    some (v22))
  else
    ((energy_refuse false 9).bind fun (v23, v24) =>
    (energy_firstError_fcea v9 v10 v11 v12 v13 v14 v23 v24).bind fun v25 =>
    some (v25))

end Go.Rex

namespace Go.Rex
open Go Go.Rex
noncomputable def energy_firstWrong_0991_l1 (v1 : Int) (v2 : (List ((List Int) × Int × Int × Int × Int))) : (Int) → Option ((Int) ⊕ ((Int × Int) ⊕ (Unit))) := fun v5 =>
  if (decide (v5 < v1)) = true then
    ((energy_CheckEchoes_c1_c35a v5 v2).bind fun v9 =>
    if (decide (v9 ≠ 0)) = true then
      (some (.inr (.inl (v5, v9))))
    else
      (some (.inl (IntKind.i64.wrap (v5 + 1)))))
  else
    (some (.inr (.inr ())))
noncomputable def energy_firstWrong_0991 (v1 : Int) (v2 : (List ((List Int) × Int × Int × Int × Int))) : Option (Int × Int) :=
  (run (energy_firstWrong_0991_l1 v1 v2) 0).bind fun v10 => match v10 with
  | (.inl (v11, v12)) =>
    some (v11, v12)
  | (.inr _) =>
    some (0, 0)

end Go.Rex

namespace Go.Rex
open Go Go.Rex
noncomputable def energy_CheckEchoes (v1 : (List ((List Int) × Int × Int × Int × Int))) : Option (Int × Int) :=
  if (decide ((v1.length : Int) > 500)) = true then
    (some (0, 8))
  else
    ((energy_firstWrong_0991 (v1.length : Int) v1).bind fun (v4, v5) =>
    some (v4, v5))

end Go.Rex

namespace Go.Rex
open Go Go.Rex
noncomputable def energy_heard (v1 : (List ((List Int) × Int × Int × Int × Int))) (v2 : Int) : Option ((List ((List Int) × Int × Int × Int × Int)) × Int) :=
  some (v1, v2)

end Go.Rex

namespace Go.Rex
open Go Go.Rex
noncomputable def energy_unnumbered (v1 : Int) (v2 : Int) : Option (Int) :=
  some (v2)

end Go.Rex

namespace Go.Rex
open Go Go.Rex
noncomputable def energy_unnumbered_c1_662c (v1 : Int) : Option (Int) :=
  some (v1)

end Go.Rex

namespace Go.Rex
open Go Go.Rex
noncomputable def energy_firstError_7ee8 (v1 : Int) (v2 : Bool) (v3 : Int) : Option (Int) :=
  (energy_unnumbered_c1_662c v1).bind fun v5 =>
  if (decide (v5 ≠ 0)) = true then
    (some (v5))
  else
    ((energy_refuse_c1_11f9 v2 v3).bind fun v6 =>
    if (decide (v6 ≠ 0)) = true then
      (some (v6))
    else
      (some (0)))

end Go.Rex

namespace Go.Rex
open Go Go.Rex
noncomputable def energy_heard_c1_3e46 (v1 : (List ((List Int) × Int × Int × Int × Int))) (v2 : Int) : Option (Int) :=
  (energy_CheckEchoes v1).bind fun (v4, v5) =>
  (energy_unnumbered v4 v5).bind fun v6 =>
  (energy_within v2 0 10000000).bind fun (v7, v8) =>
  (energy_firstError_7ee8 v6 v7 v8).bind fun v9 =>
  some (v9)

end Go.Rex

namespace Go.Rex
open Go Go.Rex
noncomputable def energy_UpTo_l1 (v1 : (List ((List Int) × Int × Int × Int × Int))) (v2 : Int) : (Int × Int × Int) → Option ((Int × Int × Int) ⊕ ((Int × Int))) := fun (v9, v10, v11) =>
  if (decide (v11 < (v1.length : Int))) = true then
    ((getI v1 v11).bind fun (v19, v20, v21, v22, v23) =>
    if (decide (v21 ≤ v2)) = true then
      (if (decide (v20 ≤ v2)) = true then
        (some (.inl ((IntKind.i64.wrap (v9 + v22)), (IntKind.i64.wrap (v10 + v23)), (IntKind.i64.wrap (v11 + 1)))))
      else
        (some (.inl ((IntKind.i64.wrap (v9 + v22)), v10, (IntKind.i64.wrap (v11 + 1))))))
    else
      (if (decide (v20 ≤ v2)) = true then
        (some (.inl (v9, (IntKind.i64.wrap (v10 + v23)), (IntKind.i64.wrap (v11 + 1)))))
      else
        (some (.inl (v9, v10, (IntKind.i64.wrap (v11 + 1)))))))
  else
    (some (.inr (v9, v10)))
noncomputable def energy_UpTo (v1 : (List ((List Int) × Int × Int × Int × Int))) (v2 : Int) : Option (Int × Int × Int) :=
  (energy_heard v1 v2).bind fun (v6, v7) =>
  (energy_heard_c1_3e46 v6 v7).bind fun v8 =>
  if (decide (v8 ≠ 0)) = true then
    (some (0, 0, v8))
  else
    ((run (energy_UpTo_l1 v1 v2) (0, 0, 0)).bind fun (v24, v25) =>
    some (v24, v25, 0))

end Go.Rex

namespace Go.Rex
open Go Go.Rex
noncomputable def energy_firstError_81c8 (v1 : (List ((List Int) × Int × Int × Int × Int))) (v2 : Int) (v3 : Bool) (v4 : Int) : Option (Int) :=
  (energy_heard_c1_3e46 v1 v2).bind fun v6 =>
  if (decide (v6 ≠ 0)) = true then
    (some (v6))
  else
    ((energy_refuse_c1_11f9 v3 v4).bind fun v7 =>
    if (decide (v7 ≠ 0)) = true then
      (some (v7))
    else
      (some (0)))

end Go.Rex

namespace Go.Rex
open Go Go.Rex
noncomputable def energy_burstFrom_l1 (v1 : (List ((List Int) × Int × Int × Int × Int))) (v2 : Int) (v3 : Int) (v7 : (List ((List Int) × Int × Int × Int × Int))) : (Int × Int × Int) → Option ((Int × Int × Int) ⊕ ((Int × Int))) := fun (v8, v9, v10) =>
  if (decide (v10 < (v7.length : Int))) = true then
    ((getI v7 v10).bind fun (v23, v24, v25, v26, v27) =>
    (getI v1 v2).bind fun (v28, v29, v30, v31, v32) =>
    if (decide ((IntKind.i64.wrap (v25 - v29)) ≤ v3)) = true then
      (some (.inl ((IntKind.i64.wrap (v8 + 1)), (IntKind.i64.wrap (v9 + v26)), (IntKind.i64.wrap (v10 + 1)))))
    else
      (some (.inl (v8, v9, (IntKind.i64.wrap (v10 + 1))))))
  else
    (some (.inr (v8, v9)))
noncomputable def energy_burstFrom (v1 : (List ((List Int) × Int × Int × Int × Int))) (v2 : Int) (v3 : Int) : Option (Int × Int × Int) :=
  (subI v1 v2 (v1.length : Int)).bind fun v7 =>
  (run (energy_burstFrom_l1 v1 v2 v3 v7) (0, 0, 0)).bind fun (v33, v34) =>
  some (v2, v33, v34)

end Go.Rex

namespace Go.Rex
open Go Go.Rex
noncomputable def energy_BurstOf_l1 (v1 : (List ((List Int) × Int × Int × Int × Int))) (v2 : Int) : (Int × Int × Int × Int) → Option ((Int × Int × Int × Int) ⊕ ((Int × Int × Int))) := fun (v15, v16, v17, v18) =>
  if (decide (v18 < (v1.length : Int))) = true then
    ((energy_burstFrom v1 v18 v2).bind fun (v25, v26, v27) =>
    if (decide (v27 > v17)) = true then
      (some (.inl (v25, v26, v27, (IntKind.i64.wrap (v18 + 1)))))
    else
      (some (.inl (v15, v16, v17, (IntKind.i64.wrap (v18 + 1))))))
  else
    (some (.inr (v15, v16, v17)))
noncomputable def energy_BurstOf (v1 : (List ((List Int) × Int × Int × Int × Int))) (v2 : Int) : Option (Int × Int × Int × Int) :=
  (energy_heard v1 v2).bind fun (v7, v8) =>
  (energy_refuse (decide ((v1.length : Int) = 0)) 12).bind fun (v9, v10) =>
  (energy_firstError_81c8 v7 v8 v9 v10).bind fun v11 =>
  if (decide (v11 ≠ 0)) = true then
    (some (0, 0, 0, v11))
  else
    ((energy_burstFrom v1 0 v2).bind fun (v12, v13, v14) =>
    (run (energy_BurstOf_l1 v1 v2) (v12, v13, v14, 0)).bind fun (v28, v29, v30) =>
    some (v28, v29, v30, 0))

end Go.Rex

namespace Go.Rex
open Go Go.Rex
noncomputable def base_Within (v1 : Int) (v2 : Int) (v3 : Int) : Option (Bool) :=
  if (decide (v2 ≤ v1)) = true then
    (some ((decide (v1 ≤ v3))))
  else
    (some (false))

end Go.Rex

namespace Go.Rex
open Go Go.Rex
noncomputable def ref03_rangeErr (v1 : Int) (v2 : Int) (v3 : Int) : Option (Int) :=
  (base_Within v1 0 v3).bind fun v5 =>
  if v5 = true then
    ((base_Within v2 0 v3).bind fun v6 =>
    if v6 = true then
      (if (decide (v1 > v2)) = true then
        (some (9))
      else
        (some (0)))
    else
      (some (2)))
  else
    (some (2))

end Go.Rex

namespace Go.Rex
open Go Go.Rex
noncomputable def ref03_CheckEchoes_l1 (v1 : (List ((List Int) × Int × Int × Int × Int))) : (Int) → Option ((Int) ⊕ ((Int × Int) ⊕ (Unit))) := fun v4 =>
  if (decide (v4 < (v1.length : Int))) = true then
    ((getI v1 v4).bind fun (v19, v20, v21, v22, v23) =>
    (ref03_rangeErr v20 v21 10000000).bind fun v24 =>
    if (decide (v24 ≠ 0)) = true then
      (some (.inr (.inl (v4, v24))))
    else
      ((ref03_rangeErr v22 v23 1000000000000).bind fun v25 =>
      if (decide (v25 ≠ 0)) = true then
        (some (.inr (.inl (v4, v25))))
      else
        (if (decide (v4 > 0)) = true then
          ((getI v1 (IntKind.i64.wrap (v4 - 1))).bind fun (v26, v27, v28, v29, v30) =>
          if (decide (v20 < v27)) = true then
            (some (.inr (.inl (v4, 9))))
          else
            (some (.inl (IntKind.i64.wrap (v4 + 1)))))
        else
          (some (.inl (IntKind.i64.wrap (v4 + 1)))))))
  else
    (some (.inr (.inr ())))
noncomputable def ref03_CheckEchoes (v1 : (List ((List Int) × Int × Int × Int × Int))) : Option (Int × Int) :=
  if (decide ((v1.length : Int) > 500)) = true then
    (some (0, 8))
  else
    ((run (ref03_CheckEchoes_l1 v1) 0).bind fun v31 => match v31 with
    | (.inl (v32, v33)) =>
      some (v32, v33)
    | (.inr _) =>
      some (0, 0))

end Go.Rex

namespace Go.Rex
open Go Go.Rex
noncomputable def ref03_MicroErr (v1 : Int) : Option (Int) :=
  (base_Within v1 0 10000000).bind fun v3 =>
  if v3 = true then
    (some (0))
  else
    (some (2))

end Go.Rex

namespace Go.Rex
open Go Go.Rex
noncomputable def ref03_UpTo_l1 (v1 : (List ((List Int) × Int × Int × Int × Int))) (v2 : Int) : (Int × Int × Int) → Option ((Int × Int × Int) ⊕ ((Int × Int))) := fun (v5, v6, v7) =>
  if (decide (v7 < (v1.length : Int))) = true then
    ((getI v1 v7).bind fun (v15, v16, v17, v18, v19) =>
    if (decide (v17 ≤ v2)) = true then
      (if (decide (v16 ≤ v2)) = true then
        (some (.inl ((IntKind.i64.wrap (v5 + v18)), (IntKind.i64.wrap (v6 + v19)), (IntKind.i64.wrap (v7 + 1)))))
      else
        (some (.inl ((IntKind.i64.wrap (v5 + v18)), v6, (IntKind.i64.wrap (v7 + 1))))))
    else
      (if (decide (v16 ≤ v2)) = true then
        (some (.inl (v5, (IntKind.i64.wrap (v6 + v19)), (IntKind.i64.wrap (v7 + 1)))))
      else
        (some (.inl (v5, v6, (IntKind.i64.wrap (v7 + 1)))))))
  else
    (some (.inr (v5, v6)))
noncomputable def ref03_UpTo (v1 : (List ((List Int) × Int × Int × Int × Int))) (v2 : Int) : Option (Int × Int) :=
  (run (ref03_UpTo_l1 v1 v2) (0, 0, 0)).bind fun (v20, v21) =>
  some (v20, v21)

end Go.Rex

namespace Go.Rex
open Go Go.Rex
noncomputable def ref03_BurstOf_l2 (v1 : (List ((List Int) × Int × Int × Int × Int))) (v2 : Int) (v9 : Int) : (Int × Int × Int) → Option ((Int × Int × Int) ⊕ ((Int × Int))) := fun (v40, v41, v42) =>
  if (decide (v42 < (v1.length : Int))) = true then
    ((getI v1 v42).bind fun (v55, v56, v57, v58, v59) =>
    (getI v1 v9).bind fun (v60, v61, v62, v63, v64) =>
    if (decide ((IntKind.i64.wrap (v57 - v61)) ≤ v2)) = true then
      (some (.inl ((IntKind.i64.wrap (v40 + 1)), (IntKind.i64.wrap (v41 + v58)), (IntKind.i64.wrap (v42 + 1)))))
    else
      (some (.inl (v40, v41, (IntKind.i64.wrap (v42 + 1))))))
  else
    (some (.inr (v40, v41)))
noncomputable def ref03_BurstOf_l1 (v1 : (List ((List Int) × Int × Int × Int × Int))) (v2 : Int) : (Int × Int × Int × Int) → Option ((Int × Int × Int × Int) ⊕ ((Int × Int × Int))) := fun (v6, v7, v8, v9) =>
  if (decide (v9 < (v1.length : Int))) = true then
    ((run (ref03_BurstOf_l2 v1 v2 v9) (0, 0, v9)).bind fun (v65, v66) =>
    if (decide (v66 > v8)) = true then
      (some (.inl (v9, v65, v66, (IntKind.i64.wrap (v9 + 1)))))
    else
      (some (.inl (v6, v7, v8, (IntKind.i64.wrap (v9 + 1))))))
  else
    (some (.inr (v6, v7, v8)))
noncomputable def ref03_BurstOf (v1 : (List ((List Int) × Int × Int × Int × Int))) (v2 : Int) : Option (Int × Int × Int) :=
  (run (ref03_BurstOf_l1 v1 v2) (0, 0, (-1), 0)).bind fun (v67, v68, v69) =>
  some (v67, v68, v69)

end Go.Rex

namespace Go.Rex
open Go Go.Rex
noncomputable def law03_EnergyArrives (v1 : (List ((List Int) × Int × Int × Int × Int))) (v2 : Int) (v3 : Int) : Option Bool :=
  (law03_echoes v1).bind fun v5 =>
  if v5 = true then
    ((ref03_CopyEchoes v1).bind fun v6 =>
    (energy_CheckEchoes v6).bind fun (v7, v8) =>
    (ref03_CopyEchoes v1).bind fun v9 =>
    (energy_UpTo v9 v2).bind fun (v10, v11, v12) =>
    (ref03_CopyEchoes v1).bind fun v13 =>
    (energy_BurstOf v13 v3).bind fun (v14, v15, v16, v17) =>
    (ref03_CheckEchoes v1).bind fun (v18, v19) =>
    if (decide (v8 ≠ v19)) = true then
      (some (false))
    else
      (if (decide (v7 ≠ v18)) = true then
        (some (false))
      else
        (if (decide (v19 ≠ 0)) = true then
          (if (decide (v12 = v19)) = true then
            (if (decide (v17 = v19)) = true then
              (if ([v10 == 0, v11 == 0].all id) = true then
                (some (([v14 == 0, v15 == 0, v16 == 0].all id)))
              else
                (some (false)))
            else
              (some (false)))
          else
            (some (false)))
        else
          ((ref03_MicroErr v2).bind fun v20 =>
          if (decide (v20 ≠ 0)) = true then
            (if (decide (v12 ≠ v20)) = true then
              (some (false))
            else
              (if ([v10 == 0, v11 == 0].all id) = true then
                (if (decide (v20 = 0)) = true then
                  (if (decide (v12 ≠ 0)) = true then
                    (some (false))
                  else
                    ((ref03_UpTo v1 v2).bind fun (v21, v22) =>
                    if ([v10 == v21, v11 == v22].all id) = true then
                      ((ref03_MicroErr v3).bind fun v23 =>
                      if (decide (v23 = 0)) = true then
                        (if (decide ((v1.length : Int) = 0)) = true then
                          (if (decide (v17 = 12)) = true then
                            (some (([v14 == 0, v15 == 0, v16 == 0].all id)))
                          else
                            (some (false)))
                        else
                          (if (decide (v23 ≠ 0)) = true then
                            (if (decide (v17 = v23)) = true then
                              (some (([v14 == 0, v15 == 0, v16 == 0].all id)))
                            else
                              (some (false)))
                          else
                            (if (decide (v17 = 0)) = true then
                              ((ref03_BurstOf v1 v3).bind fun (v24, v25, v26) =>
                              some (([v14 == v24, v15 == v25, v16 == v26].all id)))
                            else
                              (some (false)))))
                      else
                        (if (decide (v23 ≠ 0)) = true then
                          (if (decide (v17 = v23)) = true then
                            (some (([v14 == 0, v15 == 0, v16 == 0].all id)))
                          else
                            (some (false)))
                        else
                          (if (decide (v17 = 0)) = true then
                            ((ref03_BurstOf v1 v3).bind fun (v27, v28, v29) =>
                            some (([v14 == v27, v15 == v28, v16 == v29].all id)))
                          else
                            (some (false)))))
                    else
                      (some (false))))
                else
                  ((ref03_MicroErr v3).bind fun v30 =>
                  if (decide (v30 = 0)) = true then
                    (if (decide ((v1.length : Int) = 0)) = true then
                      (if (decide (v17 = 12)) = true then
                        (some (([v14 == 0, v15 == 0, v16 == 0].all id)))
                      else
                        (some (false)))
                    else
                      (if (decide (v30 ≠ 0)) = true then
                        (if (decide (v17 = v30)) = true then
                          (some (([v14 == 0, v15 == 0, v16 == 0].all id)))
                        else
                          (some (false)))
                      else
                        (if (decide (v17 = 0)) = true then
                          ((ref03_BurstOf v1 v3).bind fun (v31, v32, v33) =>
                          some (([v14 == v31, v15 == v32, v16 == v33].all id)))
                        else
                          (some (false)))))
                  else
                    (if (decide (v30 ≠ 0)) = true then
                      (if (decide (v17 = v30)) = true then
                        (some (([v14 == 0, v15 == 0, v16 == 0].all id)))
                      else
                        (some (false)))
                    else
                      (if (decide (v17 = 0)) = true then
                        ((ref03_BurstOf v1 v3).bind fun (v34, v35, v36) =>
                        some (([v14 == v34, v15 == v35, v16 == v36].all id)))
                      else
                        (some (false))))))
              else
                (some (false))))
          else
            (if (decide (v20 = 0)) = true then
              (if (decide (v12 ≠ 0)) = true then
                (some (false))
              else
                ((ref03_UpTo v1 v2).bind fun (v37, v38) =>
                if ([v10 == v37, v11 == v38].all id) = true then
                  ((ref03_MicroErr v3).bind fun v39 =>
                  if (decide (v39 = 0)) = true then
                    (if (decide ((v1.length : Int) = 0)) = true then
                      (if (decide (v17 = 12)) = true then
                        (some (([v14 == 0, v15 == 0, v16 == 0].all id)))
                      else
                        (some (false)))
                    else
                      (if (decide (v39 ≠ 0)) = true then
                        (if (decide (v17 = v39)) = true then
                          (some (([v14 == 0, v15 == 0, v16 == 0].all id)))
                        else
                          (some (false)))
                      else
                        (if (decide (v17 = 0)) = true then
                          ((ref03_BurstOf v1 v3).bind fun (v40, v41, v42) =>
                          some (([v14 == v40, v15 == v41, v16 == v42].all id)))
                        else
                          (some (false)))))
                  else
                    (if (decide (v39 ≠ 0)) = true then
                      (if (decide (v17 = v39)) = true then
                        (some (([v14 == 0, v15 == 0, v16 == 0].all id)))
                      else
                        (some (false)))
                    else
                      (if (decide (v17 = 0)) = true then
                        ((ref03_BurstOf v1 v3).bind fun (v43, v44, v45) =>
                        some (([v14 == v43, v15 == v44, v16 == v45].all id)))
                      else
                        (some (false)))))
                else
                  (some (false))))
            else
              ((ref03_MicroErr v3).bind fun v46 =>
              if (decide (v46 = 0)) = true then
                (if (decide ((v1.length : Int) = 0)) = true then
                  (if (decide (v17 = 12)) = true then
                    (some (([v14 == 0, v15 == 0, v16 == 0].all id)))
                  else
                    (some (false)))
                else
                  (if (decide (v46 ≠ 0)) = true then
                    (if (decide (v17 = v46)) = true then
                      (some (([v14 == 0, v15 == 0, v16 == 0].all id)))
                    else
                      (some (false)))
                  else
                    (if (decide (v17 = 0)) = true then
                      ((ref03_BurstOf v1 v3).bind fun (v47, v48, v49) =>
                      some (([v14 == v47, v15 == v48, v16 == v49].all id)))
                    else
                      (some (false)))))
              else
                (if (decide (v46 ≠ 0)) = true then
                  (if (decide (v17 = v46)) = true then
                    (some (([v14 == 0, v15 == 0, v16 == 0].all id)))
                  else
                    (some (false)))
                else
                  (if (decide (v17 = 0)) = true then
                    ((ref03_BurstOf v1 v3).bind fun (v50, v51, v52) =>
                    some (([v14 == v50, v15 == v51, v16 == v52].all id)))
                  else
                    (some (false))))))))))
  else
    (some (true))

end Go.Rex
