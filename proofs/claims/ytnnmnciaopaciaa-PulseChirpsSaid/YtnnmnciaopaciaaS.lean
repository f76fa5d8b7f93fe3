/- The functions of the program and of the reference, as functions of lists and numbers. -/
import Derived.Test.YtnnmnciaopaciaaTexR
set_option linter.unusedSimpArgs false
set_option linter.unusedVariables false
namespace Go.Rex
open Go Go.Rex
def e_c (x : (Nat × Nat)) : List TV := [.v (.complex .f32 x.1 x.2)]
def e_ii (x : (Int × Int)) : List TV := [.v (.int .i64 x.1), .v (.int .i64 x.2)]

end Go.Rex

namespace Go.Rex
open Go Go.Rex
noncomputable def pulse_refuse (v1 : Bool) (v2 : Int) : Option (Bool × Int) :=
  some (v1, v2)

end Go.Rex

namespace Go.Rex
open Go Go.Rex
noncomputable def pulse_within (v1 : Int) (v2 : Int) (v3 : Int) : Option (Bool × Int) :=
  if (decide (v1 < v2)) = true then
    ((pulse_refuse true 2).bind fun (v6, v7) =>
    some (v6, v7))
  else
    ((pulse_refuse (decide (v1 > v3)) 2).bind fun (v8, v9) =>
    some (v8, v9))

end Go.Rex

namespace Go.Rex
open Go Go.Rex
noncomputable def pulse_refuse_c1_677d (v1 : Bool) (v2 : Int) : Option (Int) :=
  if v1 = true then
    (some (v2))
  else
    (some (0))

end Go.Rex

namespace Go.Rex
open Go Go.Rex
noncomputable def pulse_firstError_5168 (v1 : Bool) (v2 : Int) (v3 : Bool) (v4 : Int) : Option (Int) :=
  (pulse_refuse_c1_677d v1 v2).bind fun v6 =>
  if (decide (v6 ≠ 0)) = true then
    (some (v6))
  else
    ((pulse_refuse_c1_677d v3 v4).bind fun v7 =>
    if (decide (v7 ≠ 0)) = true then
      (some (v7))
    else
      (some (0)))

end Go.Rex

namespace Go.Rex
open Go Go.Rex
noncomputable def pulse_Chirp_l1 (v1 : Int) (v2 : Int) : ((List (Nat × Nat)) × Int × Int) → Option (((List (Nat × Nat)) × Int × Int) ⊕ (((List (Nat × Nat))))) := fun (v10, v11, v12) =>
  if (decide (v12 < v1)) = true then
    (if v2 = 0 then none else
    ((getI ([(1065353216, 0), (0, 1065353216), (3212836864, 0), (0, 3212836864)] : List (Nat × Nat)) ((IntKind.i64.wrap (v11 + (IntKind.i64.wrap (v12.tdiv v2)))).tmod 4)).bind fun (v17, v18) =>
    (appI 8 v10 ([(v17, v18)] : List (Nat × Nat))).bind fun v19 =>
    some (.inl (v19, (IntKind.i64.wrap (v11 + (IntKind.i64.wrap (v12.tdiv v2)))), (IntKind.i64.wrap (v12 + 1))))))
  else
    (some (.inr v10))
noncomputable def pulse_Chirp (v1 : Int) (v2 : Int) : Option ((List (Nat × Nat)) × Int) :=
  (pulse_within v1 1 1024).bind fun (v5, v6) =>
  (pulse_within v2 1 1000).bind fun (v7, v8) =>
  (pulse_firstError_5168 v5 v6 v7 v8).bind fun v9 =>
  if (decide (v9 ≠ 0)) = true then
    (some (([] : List (Nat × Nat)), v9))
  else
    ((run (pulse_Chirp_l1 v1 v2) (([] : List (Nat × Nat)), 0, 0)).bind fun v20 =>
    some (v20, 0))

end Go.Rex

namespace Go.Rex
open Go Go.Rex
noncomputable def base_Within (v1 : Int) (v2 : Int) (v3 : Int) : Option (Bool) :=
  if (decide (v2 ≤ v1)) = true then
    (some ((decide (v1 ≤ v3))))
  else
    (some (false))

end Go.Rex

namespace Go.Rex
open Go Go.Rex
noncomputable def ref04_quarter (v1 : Int) : Option (Int × Int) :=
  (getI ([(1, 0), (0, 1), ((-1), 0), (0, (-1))] : List (Int × Int)) (v1.tmod 4)).bind fun (v4, v5) =>
  some (v4, v5)

end Go.Rex

namespace Go.Rex
open Go Go.Rex
noncomputable def base_Size (v1 : Int) : Option (Int) :=
  some ((if (IntKind.i64.wrap (0 - v1)) > v1 then (IntKind.i64.wrap (0 - v1)) else v1))

end Go.Rex

namespace Go.Rex
open Go Go.Rex
noncomputable def ref04_numbers_l1 (v1 : (List (Int × Int))) : ((List (Nat × Nat)) × Int) → Option (((List (Nat × Nat)) × Int) ⊕ ((Unit) ⊕ ((List (Nat × Nat))))) := fun (v4, v5) =>
  if (decide (v5 < (v1.length : Int))) = true then
    ((getI v1 v5).bind fun (v12, v13) =>
    (base_Size v12).bind fun v14 =>
    if (decide (v14 > 16777216)) = true then
      (some (.inr (.inl ())))
    else
      ((base_Size v13).bind fun v15 =>
      if (decide (v15 > 16777216)) = true then
        (some (.inr (.inl ())))
      else
        ((appI 8 v4 ([((FloatKind.f32.nearest v12), (FloatKind.f32.nearest v13))] : List (Nat × Nat))).bind fun v16 =>
        some (.inl (v16, (IntKind.i64.wrap (v5 + 1)))))))
  else
    (some (.inr (.inr v4)))
noncomputable def ref04_numbers (v1 : (List (Int × Int))) : Option ((List (Nat × Nat)) × Bool) :=
  (run (ref04_numbers_l1 v1) (([] : List (Nat × Nat)), 0)).bind fun v17 => match v17 with
  | (.inl _) =>
    some (([] : List (Nat × Nat)), false)
  | (.inr v18) =>
    some (v18, true)

end Go.Rex

namespace Go.Rex
open Go Go.Rex
noncomputable def ref04_told (v1 : (List (Int × Int))) : Option ((List (Nat × Nat)) × Int) :=
  (ref04_numbers v1).bind fun (v4, v5) =>
  if v5 = true then
    (some (v4, 0))
  else
    (some (([] : List (Nat × Nat)), 8))

end Go.Rex

namespace Go.Rex
open Go Go.Rex
noncomputable def ref04_Chirp_l1 (v1 : Int) (v2 : Int) : ((List (Int × Int)) × Int × Int) → Option (((List (Int × Int)) × Int × Int) ⊕ (((List (Int × Int))))) := fun (v7, v8, v9) =>
  if (decide (v9 < v1)) = true then
    (if v2 = 0 then none else
    ((ref04_quarter (IntKind.i64.wrap (v8 + (IntKind.i64.wrap (v9.tdiv v2))))).bind fun (v14, v15) =>
    (appI 16 v7 ([(v14, v15)] : List (Int × Int))).bind fun v16 =>
    some (.inl (v16, (IntKind.i64.wrap (v8 + (IntKind.i64.wrap (v9.tdiv v2)))), (IntKind.i64.wrap (v9 + 1))))))
  else
    (some (.inr v7))
noncomputable def ref04_Chirp (v1 : Int) (v2 : Int) : Option ((List (Nat × Nat)) × Int) :=
  (base_Within v1 1 1024).bind fun v5 =>
  if v5 = true then
    ((base_Within v2 1 1000).bind fun v6 =>
    if v6 = true then
      ((run (ref04_Chirp_l1 v1 v2) (([] : List (Int × Int)), 0, 0)).bind fun v17 =>
      (ref04_told v17).bind fun (v18, v19) =>
      some (v18, v19))
    else
      (some (([] : List (Nat × Nat)), 2)))
  else
    (some (([] : List (Nat × Nat)), 2))

end Go.Rex

namespace Go.Rex
open Go Go.Rex
noncomputable def base_SameBits (v1 : Nat) (v2 : Nat) (v3 : Nat) (v4 : Nat) : Option (Bool) :=
  if (decide (((v1 : Nat) : Int) = ((v3 : Nat) : Int))) = true then
    (some ((decide (((v2 : Nat) : Int) = ((v4 : Nat) : Int)))))
  else
    (some (false))

end Go.Rex

namespace Go.Rex
open Go Go.Rex
noncomputable def base_SameSamples_l1 (v1 : (List (Nat × Nat))) (v2 : (List (Nat × Nat))) : (Int) → Option ((Int) ⊕ ((Unit) ⊕ (Unit))) := fun v4 =>
  if (decide (v4 < (v1.length : Int))) = true then
    ((getI v1 v4).bind fun (v14, v15) =>
    (f2f .f32 v14 .f64).bind fun v16 =>
    (f2f .f32 v15 .f64).bind fun v17 =>
    (getI v2 v4).bind fun (v18, v19) =>
    (f2f .f32 v18 .f64).bind fun v20 =>
    (f2f .f32 v19 .f64).bind fun v21 =>
    (base_SameBits v16 v17 v20 v21).bind fun v22 =>
    if v22 = true then
      (some (.inl (IntKind.i64.wrap (v4 + 1))))
    else
      (some (.inr (.inl ()))))
  else
    (some (.inr (.inr ())))
noncomputable def base_SameSamples (v1 : (List (Nat × Nat))) (v2 : (List (Nat × Nat))) : Option (Bool) :=
  if (decide ((v1.length : Int) ≠ (v2.length : Int))) = true then
    (some (false))
  else
    ((run (base_SameSamples_l1 v1 v2) 0).bind fun v23 => match v23 with
    | (.inl _) =>
      some (false)
    | (.inr _) =>
      some (true))

end Go.Rex

namespace Go.Rex
open Go Go.Rex
noncomputable def law04_PulseChirps (v1 : Int) (v2 : Int) : Option Bool :=
  if (decide (v1 > 100)) = true then
    (if (decide (v1 ≤ 1024)) = true then
      (some (true))
    else
      ((pulse_Chirp v1 v2).bind fun (v4, v5) =>
      (ref04_Chirp v1 v2).bind fun (v6, v7) =>
      if (decide (v5 = v7)) = true then
        ((base_SameSamples v4 v6).bind fun v8 =>
        some (v8))
      else
        (some (false))))
  else
    ((pulse_Chirp v1 v2).bind fun (v9, v10) =>
    (ref04_Chirp v1 v2).bind fun (v11, v12) =>
    if (decide (v10 = v12)) = true then
      ((base_SameSamples v9 v11).bind fun v13 =>
      some (v13))
    else
      (some (false)))

end Go.Rex
