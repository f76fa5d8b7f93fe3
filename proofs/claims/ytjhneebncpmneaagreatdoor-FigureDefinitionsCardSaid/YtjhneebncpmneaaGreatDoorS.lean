/- The functions of the program and of the reference, as functions of lists and numbers. -/
import Derived.Test.YtjhneebncpmneaaGreatDoorRexG9
set_option linter.unusedSimpArgs false
set_option linter.unusedVariables false
set_option linter.defProp false
namespace Go.Rex
open Go Go.Rex
def e_f (x : Nat) : List TV := [.v (.float .f32 x)]
def e_i (x : Int) : List TV := [.v (.int .i64 x)]
def e_ii (x : (Int × Int)) : List TV := [.v (.int .i64 x.1), .v (.int .i64 x.2)]
def e_iii (x : (Int × Int × Int)) : List TV := [.v (.int .i64 x.1), .v (.int .i64 x.2.1), .v (.int .i64 x.2.2)]
def txt_c95356 : ByteArray := ⟨#[0, 1, 2, 2, 3, 3, 3, 3, 4, 4, 4, 4, 4, 4, 4, 4, 5, 5, 5, 5, 5, 5, 5, 5, 5, 5, 5, 5, 5, 5, 5, 5, 6, 6, 6, 6, 6, 6, 6, 6, 6, 6, 6, 6, 6, 6, 6, 6, 6, 6, 6, 6, 6, 6, 6, 6, 6, 6, 6, 6, 6, 6, 6, 6, 7, 7, 7, 7, 7, 7, 7, 7, 7, 7, 7, 7, 7, 7, 7, 7, 7, 7, 7, 7, 7, 7, 7, 7, 7, 7, 7, 7, 7, 7, 7, 7, 7, 7, 7, 7, 7, 7, 7, 7, 7, 7, 7, 7, 7, 7, 7, 7, 7, 7, 7, 7, 7, 7, 7, 7, 7, 7, 7, 7, 7, 7, 7, 7, 8, 8, 8, 8, 8, 8, 8, 8, 8, 8, 8, 8, 8, 8, 8, 8, 8, 8, 8, 8, 8, 8, 8, 8, 8, 8, 8, 8, 8, 8, 8, 8, 8, 8, 8, 8, 8, 8, 8, 8, 8, 8, 8, 8, 8, 8, 8, 8, 8, 8, 8, 8, 8, 8, 8, 8, 8, 8, 8, 8, 8, 8, 8, 8, 8, 8, 8, 8, 8, 8, 8, 8, 8, 8, 8, 8, 8, 8, 8, 8, 8, 8, 8, 8, 8, 8, 8, 8, 8, 8, 8, 8, 8, 8, 8, 8, 8, 8, 8, 8, 8, 8, 8, 8, 8, 8, 8, 8, 8, 8, 8, 8, 8, 8, 8, 8, 8, 8, 8, 8, 8, 8, 8, 8, 8, 8, 8, 8]⟩

end Go.Rex

namespace Go.Rex
open Go Go.Rex
noncomputable def law05_Few (v1 : Int) (v2 : (List Nat)) : Option (Bool) :=
  if (decide ((v2.length : Int) ≤ 700)) = true then
    (some (true))
  else
    (if (decide ((v2.length : Int) > 1024)) = true then
      (some ((decide ((v2.length : Int) ≤ 1026))))
    else
      (some (false)))

end Go.Rex

namespace Go.Rex
open Go Go.Rex
noncomputable def base_CopyResponse (v1 : Int) (v2 : (List Nat)) : Option (Int × (List Nat)) :=
  (appI 4 ([] : List Nat) v2).bind fun v5 =>
  some (v1, v5)

end Go.Rex

namespace Go.Rex
open Go Go.Rex
noncomputable def figure_plain (v1 : Int) (v2 : (List Nat)) : Option (Int × (List Nat)) :=
  some (v1, v2)

end Go.Rex

namespace Go.Rex
open Go Go.Rex
noncomputable def figure_refuse (v1 : Bool) (v2 : Int) : Option (Int) :=
  if v1 = true then
    (some (v2))
  else
    (some (0))

end Go.Rex

namespace Go.Rex
open Go Go.Rex
noncomputable def figure_within (v1 : Int) (v2 : Int) (v3 : Int) : Option (Int) :=
  if (decide (v1 < v2)) = true then
    ((figure_refuse true 2).bind fun v5 =>
    some (v5))
  else
    ((figure_refuse (decide (v1 > v3)) 2).bind fun v6 =>
    some (v6))

end Go.Rex

namespace Go.Rex
open Go Go.Rex
noncomputable def figure_rateError (v1 : Int) : Option (Int) :=
  (figure_within v1 8000 192000).bind fun v3 =>
  some (v3)

end Go.Rex

namespace Go.Rex
open Go Go.Rex
noncomputable def figure_firstError_l1 (v1 : (List Int)) : (Int) → Option ((Int) ⊕ ((Int) ⊕ (Unit))) := fun v3 =>
  if (decide (v3 < (v1.length : Int))) = true then
    ((getI v1 v3).bind fun v6 =>
    if (decide (v6 ≠ 0)) = true then
      (some (.inr (.inl v6)))
    else
      (some (.inl (IntKind.i64.wrap (v3 + 1)))))
  else
    (some (.inr (.inr ())))
noncomputable def figure_firstError (v1 : (List Int)) : Option (Int) :=
  (run (figure_firstError_l1 v1) 0).bind fun v7 => match v7 with
  | (.inl v8) =>
    some (v8)
  | (.inr _) =>
    some (0)

end Go.Rex

namespace Go.Rex
open Go Go.Rex
noncomputable def math_Trunc (v1 : Nat) : Option (Nat) :=
  (trI .zero v1).bind fun v3 =>
  some (v3)

end Go.Rex

namespace Go.Rex
open Go Go.Rex
noncomputable def math_Abs (v1 : Nat) : Option (Nat) :=
  (fbits .f64 v1).bind fun v3 =>
  some (((bitI .andNot .u64 v3 9223372036854775808)).toNat)

end Go.Rex

namespace Go.Rex
open Go Go.Rex
noncomputable def math_IsInf (v1 : Nat) (v2 : Int) : Option (Bool) :=
  if (decide (v2 = 0)) = true then
    ((math_Abs v1).bind fun v4 =>
    some ((fcmp .gtr .f64 v4 9218868437227405311)))
  else
    (if (decide (v2 < 0)) = true then
      (some ((fcmp .gtr .f64 (Op.negFloat .f64 v1) 9218868437227405311)))
    else
      (some ((fcmp .gtr .f64 v1 9218868437227405311))))

end Go.Rex

namespace Go.Rex
open Go Go.Rex
noncomputable def figure_isWhole (v1 : Nat) : Option (Bool) :=
  (f2f .f32 v1 .f64).bind fun v3 =>
  (math_Trunc v3).bind fun v4 =>
  if (fcmp .eql .f64 v3 v4) = true then
    ((math_IsInf v3 0).bind fun v5 =>
    some ((!v5)))
  else
    (some (false))

end Go.Rex

namespace Go.Rex
open Go Go.Rex
noncomputable def figure_sampleError (v1 : Nat) : Option (Int) :=
  (figure_isWhole v1).bind fun v3 =>
  (figure_refuse (!v3) 27).bind fun v4 =>
  if (fcmp .lss .f32 v1 3338665472) = true then
    ((figure_refuse true 2).bind fun v5 =>
    (figure_firstError ([v4, v5] : List Int)).bind fun v6 =>
    some (v6))
  else
    ((figure_refuse (fcmp .gtr .f32 v1 1191181824) 2).bind fun v7 =>
    (figure_firstError ([v4, v7] : List Int)).bind fun v8 =>
    some (v8))

end Go.Rex

namespace Go.Rex
open Go Go.Rex
noncomputable def figure_CheckResponse_l1 (v2 : (List Nat)) : (Int) → Option ((Int) ⊕ ((Int × Int) ⊕ (Unit))) := fun v9 =>
  if (decide (v9 < (v2.length : Int))) = true then
    ((getI v2 v9).bind fun v14 =>
    (figure_sampleError v14).bind fun v15 =>
    if (decide (v15 ≠ 0)) = true then
      (some (.inr (.inl (v9, v15))))
    else
      (some (.inl (IntKind.i64.wrap (v9 + 1)))))
  else
    (some (.inr (.inr ())))
noncomputable def figure_CheckResponse (v1 : Int) (v2 : (List Nat)) : Option (Int × Int) :=
  (figure_rateError v1).bind fun v5 =>
  (figure_refuse (decide ((v2.length : Int) = 0)) 10).bind fun v6 =>
  (figure_refuse (decide ((v2.length : Int) > 1024)) 8).bind fun v7 =>
  (figure_firstError ([v5, v6, v7] : List Int)).bind fun v8 =>
  if (decide (v8 ≠ 0)) = true then
    (some (0, v8))
  else
    ((run (figure_CheckResponse_l1 v2) 0).bind fun v16 => match v16 with
    | (.inl (v17, v18)) =>
      some (v17, v18)
    | (.inr _) =>
      some (0, 0))

end Go.Rex

namespace Go.Rex
open Go Go.Rex
noncomputable def figure_CheckAsk (v1 : Int) (v2 : (List Nat)) (v3 : Int) (v4 : Int) : Option (Int × Int) :=
  (figure_CheckResponse v1 v2).bind fun (v7, v8) =>
  if (decide (v8 ≠ 0)) = true then
    (some (v7, v8))
  else
    ((figure_within v3 0 32767).bind fun v9 =>
    (figure_within v4 0 1000000000000).bind fun v10 =>
    (figure_firstError ([v9, v10] : List Int)).bind fun v11 =>
    some (0, v11))

end Go.Rex

namespace Go.Rex
open Go Go.Rex
noncomputable def figure_hear (v1 : Int) (v2 : (List Nat)) (v3 : Int) (v4 : Int) : Option (Int × (List Nat) × Int × Int × Int) :=
  (figure_CheckAsk v1 v2 v3 v4).bind fun (v10, v11) =>
  some (v1, v2, v3, v4, v11)

end Go.Rex

namespace Go.Rex
open Go Go.Rex
noncomputable def figure_timeError (v1 : Int) : Option (Int) :=
  (figure_within v1 0 1000000).bind fun v3 =>
  some (v3)

end Go.Rex

namespace Go.Rex
open Go Go.Rex
noncomputable def figure_up (v1 : Int) (v2 : Int) : Option (Int) :=
  if v2 = 0 then none else
  (some ((IntKind.i64.wrap ((IntKind.i64.wrap ((IntKind.i64.wrap (v1 + v2)) - 1)).tdiv v2))))

end Go.Rex

namespace Go.Rex
open Go Go.Rex
noncomputable def figure_sampleAt (v1 : Int) (v2 : Int) : Option (Int) :=
  (figure_up (IntKind.i64.wrap (v2 * v1)) 1000000).bind fun v4 =>
  some (v4)

end Go.Rex

namespace Go.Rex
open Go Go.Rex
noncomputable def figure_heard_count (v1 : Int) (v2 : (List Nat)) (v3 : Int) (v4 : Int) : Option (Int) :=
  some ((v2.length : Int))

end Go.Rex

namespace Go.Rex
open Go Go.Rex
noncomputable def figure_heard_split (v1 : Int) (v2 : (List Nat)) (v3 : Int) (v4 : Int) (v5 : Int) : Option (Int) :=
  (figure_sampleAt v1 v5).bind fun v7 =>
  (figure_heard_count v1 v2 v3 v4).bind fun v8 =>
  some ((if v8 < v7 then v8 else v7))

end Go.Rex

namespace Go.Rex
open Go Go.Rex
noncomputable def figure_between (v1 : Int) (v2 : Int) : Option (Int × Int) :=
  some (v1, v2)

end Go.Rex

namespace Go.Rex
open Go Go.Rex
noncomputable def figure_heard_square (v1 : Int) (v2 : (List Nat)) (v3 : Int) (v4 : Int) (v5 : Int) : Option (Int × Int) :=
  (getI v2 v5).bind fun v8 =>
  (f2i .f32 v8 .i64).bind fun v9 =>
  (figure_between (IntKind.i64.wrap ((if 0 > (IntKind.i64.wrap ((if (IntKind.i64.wrap (0 - v9)) > v9 then (IntKind.i64.wrap (0 - v9)) else v9) - v3)) then 0 else (IntKind.i64.wrap ((if (IntKind.i64.wrap (0 - v9)) > v9 then (IntKind.i64.wrap (0 - v9)) else v9) - v3))) * (if 0 > (IntKind.i64.wrap ((if (IntKind.i64.wrap (0 - v9)) > v9 then (IntKind.i64.wrap (0 - v9)) else v9) - v3)) then 0 else (IntKind.i64.wrap ((if (IntKind.i64.wrap (0 - v9)) > v9 then (IntKind.i64.wrap (0 - v9)) else v9) - v3))))) (IntKind.i64.wrap ((IntKind.i64.wrap ((if (IntKind.i64.wrap (0 - v9)) > v9 then (IntKind.i64.wrap (0 - v9)) else v9) + v3)) * (IntKind.i64.wrap ((if (IntKind.i64.wrap (0 - v9)) > v9 then (IntKind.i64.wrap (0 - v9)) else v9) + v3))))).bind fun (v10, v11) =>
  some (v10, v11)

end Go.Rex

namespace Go.Rex
open Go Go.Rex
noncomputable def figure_ends_plus (v1 : Int) (v2 : Int) (v3 : Int) (v4 : Int) : Option (Int × Int) :=
  (figure_between (IntKind.i64.wrap (v1 + v3)) (IntKind.i64.wrap (v2 + v4))).bind fun (v7, v8) =>
  some (v7, v8)

end Go.Rex

namespace Go.Rex
open Go Go.Rex
noncomputable def figure_heard_energy_l1 (v1 : Int) (v2 : (List Nat)) (v3 : Int) (v4 : Int) (v6 : Int) : (Int × Int × Int) → Option ((Int × Int × Int) ⊕ ((Int × Int))) := fun (v9, v10, v11) =>
  if (decide (v11 < v6)) = true then
    ((figure_heard_square v1 v2 v3 v4 v11).bind fun (v18, v19) =>
    (figure_ends_plus v9 v10 v18 v19).bind fun (v20, v21) =>
    some (.inl (v20, v21, (IntKind.i64.wrap (v11 + 1)))))
  else
    (some (.inr (v9, v10)))
noncomputable def figure_heard_energy (v1 : Int) (v2 : (List Nat)) (v3 : Int) (v4 : Int) (v5 : Int) (v6 : Int) : Option (Int × Int) :=
  (run (figure_heard_energy_l1 v1 v2 v3 v4 v6) (0, 0, v5)).bind fun (v22, v23) =>
  some (v22, v23)

end Go.Rex

namespace Go.Rex
open Go Go.Rex
noncomputable def figure_heard_early (v1 : Int) (v2 : (List Nat)) (v3 : Int) (v4 : Int) (v5 : Int) : Option (Int × Int) :=
  (figure_heard_split v1 v2 v3 v4 v5).bind fun v8 =>
  (figure_heard_energy v1 v2 v3 v4 0 v8).bind fun (v9, v10) =>
  some (v9, v10)

end Go.Rex

namespace Go.Rex
open Go Go.Rex
noncomputable def figure_heard_behind (v1 : Int) (v2 : (List Nat)) (v3 : Int) (v4 : Int) : Option (Int × Int) :=
  (figure_between 0 v4).bind fun (v7, v8) =>
  some (v7, v8)

end Go.Rex

namespace Go.Rex
open Go Go.Rex
noncomputable def figure_heard_sums_l1 (v1 : Int) (v2 : (List Nat)) (v3 : Int) (v4 : Int) : ((List (Int × Int)) × Int) → Option (((List (Int × Int)) × Int) ⊕ (((List (Int × Int))))) := fun (v14, v15) =>
  if (decide (v15 ≥ 0)) = true then
    ((getI v14 (IntKind.i64.wrap (v15 + 1))).bind fun (v25, v26) =>
    (figure_heard_square v1 v2 v3 v4 v15).bind fun (v27, v28) =>
    (figure_ends_plus v25 v26 v27 v28).bind fun (v29, v30) =>
    (getI v14 v15).bind fun (v31, v32) =>
    some (.inl ((v14.set v15.toNat (v29, v30)), (IntKind.i64.wrap (v15 - 1)))))
  else
    (some (.inr v14))
noncomputable def figure_heard_sums (v1 : Int) (v2 : (List Nat)) (v3 : Int) (v4 : Int) : Option ((List (Int × Int))) :=
  (figure_heard_count v1 v2 v3 v4).bind fun v6 =>
  (mkI 16 (IntKind.i64.wrap (v6 + 1)) ((0, 0) : (Int × Int))).bind fun v7 =>
  (figure_heard_count v1 v2 v3 v4).bind fun v8 =>
  (figure_heard_behind v1 v2 v3 v4).bind fun (v9, v10) =>
  (getI v7 v8).bind fun (v11, v12) =>
  (figure_heard_count v1 v2 v3 v4).bind fun v13 =>
  (run (figure_heard_sums_l1 v1 v2 v3 v4) ((v7.set v8.toNat (v9, v10)), (IntKind.i64.wrap (v13 - 1)))).bind fun v33 =>
  some (v33)

end Go.Rex

namespace Go.Rex
open Go Go.Rex
noncomputable def figure_heard_all (v1 : Int) (v2 : (List Nat)) (v3 : Int) (v4 : Int) : Option (Int × Int) :=
  (figure_heard_sums v1 v2 v3 v4).bind fun v7 =>
  (getI v7 0).bind fun (v8, v9) =>
  some (v8, v9)

end Go.Rex

namespace Go.Rex
open Go Go.Rex
noncomputable def figure_commonDivisor_l1 : (Int × Int) → Option ((Int × Int) ⊕ ((Int))) := fun (v4, v5) =>
  if (decide (v4 > 0)) = true then
    (if v4 = 0 then none else
    (some (.inl ((v5.tmod v4), v4))))
  else
    (some (.inr v5))
noncomputable def figure_commonDivisor (v1 : Int) (v2 : Int) : Option (Int) :=
  (run (figure_commonDivisor_l1) (v1, v2)).bind fun v7 =>
  some (v7)

end Go.Rex

namespace Go.Rex
open Go Go.Rex
noncomputable def figure_fraction (v1 : Int) (v2 : Int) : Option (Int × Int × Int) :=
  (figure_commonDivisor v1 v2).bind fun v6 =>
  if v6 = 0 then none else
  (if (decide ((IntKind.i64.wrap (v1.tdiv v6)) > 1000000000)) = true then
    (some (0, 0, 8))
  else
    (if (decide ((IntKind.i64.wrap (v2.tdiv v6)) > 1000000000)) = true then
      (some (0, 0, 8))
    else
      (some ((IntKind.i64.wrap (v1.tdiv v6)), (IntKind.i64.wrap (v2.tdiv v6)), 0))))

end Go.Rex

namespace Go.Rex
open Go Go.Rex
noncomputable def figure_share (v1 : Int) (v2 : Int) : Option (Int × Int × Int) :=
  if (decide (v2 = 0)) = true then
    (some (0, 0, 11))
  else
    ((figure_fraction v1 v2).bind fun (v6, v7, v8) =>
    some (v6, v7, v8))

end Go.Rex

namespace Go.Rex
open Go Go.Rex
noncomputable def figure_Definition (v1 : Int) (v2 : (List Nat)) (v3 : Int) : Option (Int × Int × Int) :=
  (figure_plain v1 v2).bind fun (v7, v8) =>
  (figure_hear v7 v8 0 0).bind fun (v9, v10, v11, v12, v13) =>
  (figure_timeError v3).bind fun v14 =>
  (figure_firstError ([v13, v14] : List Int)).bind fun v15 =>
  if (decide (v15 ≠ 0)) = true then
    (some (0, 0, v15))
  else
    ((figure_heard_early v9 v10 v11 v12 v3).bind fun (v16, v17) =>
    (figure_heard_all v9 v10 v11 v12).bind fun (v18, v19) =>
    (figure_share v16 v18).bind fun (v20, v21, v22) =>
    some (v20, v21, v22))

end Go.Rex

namespace Go.Rex
open Go Go.Rex
noncomputable def ref05_Copy (v1 : Int) (v2 : (List Nat)) (v3 : Int) (v4 : Int) : Option (Int × (List Nat) × Int × Int) :=
  (base_CopyResponse v1 v2).bind fun (v9, v10) =>
  some (v9, v10, v3, v4)

end Go.Rex

namespace Go.Rex
open Go Go.Rex
noncomputable def figure_heard_late (v1 : Int) (v2 : (List Nat)) (v3 : Int) (v4 : Int) (v5 : Int) : Option (Int × Int) :=
  (figure_heard_sums v1 v2 v3 v4).bind fun v8 =>
  (figure_heard_split v1 v2 v3 v4 v5).bind fun v9 =>
  (getI v8 v9).bind fun (v10, v11) =>
  some (v10, v11)

end Go.Rex

namespace Go.Rex
open Go Go.Rex
noncomputable def figure_ends_times (v1 : Int) (v2 : Int) (v3 : Int) : Option (Int × Int) :=
  (figure_between (IntKind.i64.wrap (v1 * v3)) (IntKind.i64.wrap (v2 * v3))).bind fun (v6, v7) =>
  some (v6, v7)

end Go.Rex

namespace Go.Rex
open Go Go.Rex
noncomputable def figure_down (v1 : Int) (v2 : Int) : Option (Int) :=
  if v2 = 0 then none else
  (some ((IntKind.i64.wrap (v1.tdiv v2))))

end Go.Rex

namespace Go.Rex
open Go Go.Rex
noncomputable def figure_heard_definition (v1 : Int) (v2 : (List Nat)) (v3 : Int) (v4 : Int) (v5 : Int) : Option (Int × Int × Int) :=
  (figure_heard_early v1 v2 v3 v4 v5).bind fun (v9, v10) =>
  (figure_heard_late v1 v2 v3 v4 v5).bind fun (v11, v12) =>
  if (decide (v9 = 0)) = true then
    (if (decide (v11 = 0)) = true then
      (some (0, 0, 11))
    else
      ((figure_ends_times v9 v10 1000).bind fun (v13, v14) =>
      (figure_down v13 (IntKind.i64.wrap (v9 + v12))).bind fun v15 =>
      (figure_up v14 (IntKind.i64.wrap (v10 + v11))).bind fun v16 =>
      (figure_between v15 v16).bind fun (v17, v18) =>
      some (v17, v18, 0)))
  else
    ((figure_ends_times v9 v10 1000).bind fun (v19, v20) =>
    (figure_down v19 (IntKind.i64.wrap (v9 + v12))).bind fun v21 =>
    (figure_up v20 (IntKind.i64.wrap (v10 + v11))).bind fun v22 =>
    (figure_between v21 v22).bind fun (v23, v24) =>
    some (v23, v24, 0))

end Go.Rex

namespace Go.Rex
open Go Go.Rex
noncomputable def figure_DefinitionWithin (v1 : Int) (v2 : (List Nat)) (v3 : Int) (v4 : Int) (v5 : Int) : Option (Int × Int × Int) :=
  (figure_hear v1 v2 v3 v4).bind fun (v9, v10, v11, v12, v13) =>
  (figure_timeError v5).bind fun v14 =>
  (figure_firstError ([v13, v14] : List Int)).bind fun v15 =>
  if (decide (v15 ≠ 0)) = true then
    (some (0, 0, v15))
  else
    ((figure_heard_definition v9 v10 v11 v12 v5).bind fun (v16, v17, v18) =>
    some (v16, v17, v18))

end Go.Rex

namespace Go.Rex
open Go Go.Rex
noncomputable def base_Within (v1 : Int) (v2 : Int) (v3 : Int) : Option (Bool) :=
  if (decide (v2 ≤ v1)) = true then
    (some ((decide (v1 ≤ v3))))
  else
    (some (false))

end Go.Rex

namespace Go.Rex
open Go Go.Rex
noncomputable def ref05_isRate (v1 : Int) : Option (Bool) :=
  (base_Within v1 8000 192000).bind fun v3 =>
  some (v3)

end Go.Rex

namespace Go.Rex
open Go Go.Rex
noncomputable def base_IsWhole (v1 : Nat) : Option (Bool) :=
  if (fcmp .neq .f64 v1 v1) = true then
    (some (false))
  else
    ((farith .sub .f64 v1 v1).bind fun v3 =>
    if (fcmp .neq .f64 v3 0) = true then
      (some (false))
    else
      (if (fcmp .geq .f64 v1 14069741636278059008) = true then
        (if (fcmp .leq .f64 v1 4846369599423283200) = true then
          ((f2i .f64 v1 .i64).bind fun v4 =>
          some ((fcmp .eql .f64 (FloatKind.f64.nearest v4) v1)))
        else
          (some (true)))
      else
        (some (true))))

end Go.Rex

namespace Go.Rex
open Go Go.Rex
noncomputable def ref05_CheckResponse_l1 (v2 : (List Nat)) : (Int) → Option ((Int) ⊕ ((Int × Int) ⊕ (Unit))) := fun v6 =>
  if (decide (v6 < (v2.length : Int))) = true then
    ((getI v2 v6).bind fun v12 =>
    (f2f .f32 v12 .f64).bind fun v13 =>
    (base_IsWhole v13).bind fun v14 =>
    if v14 = true then
      (if (fcmp .gtr .f64 v13 4674736138332667904) = true then
        (some (.inr (.inl (v6, 2))))
      else
        (if (fcmp .lss .f64 v13 13898108175187443712) = true then
          (some (.inr (.inl (v6, 2))))
        else
          (some (.inl (IntKind.i64.wrap (v6 + 1))))))
    else
      (some (.inr (.inl (v6, 27)))))
  else
    (some (.inr (.inr ())))
noncomputable def ref05_CheckResponse (v1 : Int) (v2 : (List Nat)) : Option (Int × Int) :=
  (ref05_isRate v1).bind fun v5 =>
  if v5 = true then
    (if (decide ((v2.length : Int) = 0)) = true then
      (some (0, 10))
    else
      (if (decide ((v2.length : Int) > 1024)) = true then
        (some (0, 8))
      else
        ((run (ref05_CheckResponse_l1 v2) 0).bind fun v15 => match v15 with
        | (.inl (v16, v17)) =>
          some (v16, v17)
        | (.inr _) =>
          some (0, 0))))
  else
    (some (0, 2))

end Go.Rex

namespace Go.Rex
open Go Go.Rex
noncomputable def ref05_ResponseErr (v1 : Int) (v2 : (List Nat)) : Option (Int) :=
  (ref05_CheckResponse v1 v2).bind fun (v4, v5) =>
  some (v5)

end Go.Rex

namespace Go.Rex
open Go Go.Rex
noncomputable def ref05_CheckAsk (v1 : Int) (v2 : (List Nat)) (v3 : Int) (v4 : Int) : Option (Int × Int) :=
  (ref05_CheckResponse v1 v2).bind fun (v7, v8) =>
  if (decide (v8 ≠ 0)) = true then
    (some (v7, v8))
  else
    ((base_Within v3 0 32767).bind fun v9 =>
    if v9 = true then
      ((base_Within v4 0 1000000000000).bind fun v10 =>
      if v10 = true then
        (some (0, 0))
      else
        (some (0, 2)))
    else
      (some (0, 2)))

end Go.Rex

namespace Go.Rex
open Go Go.Rex
noncomputable def ref05_AskErr (v1 : Int) (v2 : (List Nat)) (v3 : Int) (v4 : Int) : Option (Int) :=
  (ref05_CheckAsk v1 v2 v3 v4).bind fun (v6, v7) =>
  some (v7)

end Go.Rex

namespace Go.Rex
open Go Go.Rex
noncomputable def ref05_TimeErr (v1 : Int) : Option (Int) :=
  (base_Within v1 0 1000000).bind fun v3 =>
  if v3 = true then
    (some (0))
  else
    (some (2))

end Go.Rex

namespace Go.Rex
open Go Go.Rex
noncomputable def ref05_Plain (v1 : Int) (v2 : (List Nat)) : Option (Int × (List Nat)) :=
  some (v1, v2)

end Go.Rex

namespace Go.Rex
open Go Go.Rex
noncomputable def base_Floor (v1 : Int) (v2 : Int) : Option (Int) :=
  if v2 = 0 then none else
  (if (decide ((v1.tmod v2) < 0)) = true then
    (some ((IntKind.i64.wrap ((IntKind.i64.wrap (v1.tdiv v2)) - 1))))
  else
    (some ((IntKind.i64.wrap (v1.tdiv v2)))))

end Go.Rex

namespace Go.Rex
open Go Go.Rex
noncomputable def base_Ceil (v1 : Int) (v2 : Int) : Option (Int) :=
  (base_Floor (IntKind.i64.wrap (0 - v1)) v2).bind fun v4 =>
  some ((IntKind.i64.wrap (0 - v4)))

end Go.Rex

namespace Go.Rex
open Go Go.Rex
noncomputable def ref05_SampleAt (v1 : Int) (v2 : Int) : Option (Int × Int) :=
  (ref05_isRate v1).bind fun v5 =>
  if v5 = true then
    ((ref05_TimeErr v2).bind fun v6 =>
    if (decide (v6 ≠ 0)) = true then
      (some (0, v6))
    else
      ((base_Ceil (IntKind.i64.wrap (v2 * v1)) 1000000).bind fun v7 =>
      some (v7, 0)))
  else
    (some (0, 2))

end Go.Rex

namespace Go.Rex
open Go Go.Rex
noncomputable def base_Size (v1 : Int) : Option (Int) :=
  some ((if (IntKind.i64.wrap (0 - v1)) > v1 then (IntKind.i64.wrap (0 - v1)) else v1))

end Go.Rex

namespace Go.Rex
open Go Go.Rex
noncomputable def ref05_square (v1 : Int) (v2 : (List Nat)) (v3 : Int) (v4 : Int) (v5 : Int) : Option (Int × Int) :=
  (getI v2 v5).bind fun v8 =>
  (f2i .f32 v8 .i64).bind fun v9 =>
  (base_Size v9).bind fun v10 =>
  some ((IntKind.i64.wrap ((if (IntKind.i64.wrap (v10 - v3)) > 0 then (IntKind.i64.wrap (v10 - v3)) else 0) * (if (IntKind.i64.wrap (v10 - v3)) > 0 then (IntKind.i64.wrap (v10 - v3)) else 0))), (IntKind.i64.wrap ((IntKind.i64.wrap (v10 + v3)) * (IntKind.i64.wrap (v10 + v3)))))

end Go.Rex

namespace Go.Rex
open Go Go.Rex
noncomputable def ref05_EnergyWithin_l1 (v1 : Int) (v2 : (List Nat)) (v3 : Int) (v4 : Int) (v6 : Int) : (Int × Int × Int) → Option ((Int × Int × Int) ⊕ ((Int × Int))) := fun (v9, v10, v11) =>
  if (decide (v11 < v6)) = true then
    ((ref05_square v1 v2 v3 v4 v11).bind fun (v16, v17) =>
    some (.inl ((IntKind.i64.wrap (v9 + v16)), (IntKind.i64.wrap (v10 + v17)), (IntKind.i64.wrap (v11 + 1)))))
  else
    (some (.inr (v9, v10)))
noncomputable def ref05_EnergyWithin (v1 : Int) (v2 : (List Nat)) (v3 : Int) (v4 : Int) (v5 : Int) (v6 : Int) : Option (Int × Int) :=
  (run (ref05_EnergyWithin_l1 v1 v2 v3 v4 v6) (0, 0, v5)).bind fun (v18, v19) =>
  if (decide (v6 = (v2.length : Int))) = true then
    (some (v18, (IntKind.i64.wrap (v19 + v4))))
  else
    (some (v18, v19))

end Go.Rex

namespace Go.Rex
open Go Go.Rex
noncomputable def ref05_parts (v1 : Int) (v2 : (List Nat)) (v3 : Int) (v4 : Int) (v5 : Int) : Option (Int × Int × Int × Int) :=
  (ref05_SampleAt v1 v5).bind fun (v10, v11) =>
  (ref05_EnergyWithin v1 v2 v3 v4 0 (if (v2.length : Int) < v10 then (v2.length : Int) else v10)).bind fun (v12, v13) =>
  if (decide ((if (v2.length : Int) < v10 then (v2.length : Int) else v10) = (v2.length : Int))) = true then
    ((ref05_EnergyWithin v1 v2 v3 v4 (if (v2.length : Int) < v10 then (v2.length : Int) else v10) (v2.length : Int)).bind fun (v14, v15) =>
    some (v12, (IntKind.i64.wrap (v13 - v4)), v14, v15))
  else
    ((ref05_EnergyWithin v1 v2 v3 v4 (if (v2.length : Int) < v10 then (v2.length : Int) else v10) (v2.length : Int)).bind fun (v16, v17) =>
    some (v12, v13, v16, v17))

end Go.Rex

namespace Go.Rex
open Go Go.Rex
noncomputable def ref05_sum (v1 : Int) (v2 : (List Nat)) (v3 : Int) (v4 : Int) (v5 : Int) : Option (Int × Int) :=
  (ref05_EnergyWithin v1 v2 v3 v4 v5 (v2.length : Int)).bind fun (v8, v9) =>
  some (v8, v9)

end Go.Rex

namespace Go.Rex
open Go Go.Rex
noncomputable def base_Gcd_l1 : (Int × Int) → Option ((Int × Int) ⊕ ((Int))) := fun (v4, v5) =>
  if (decide (v5 ≠ 0)) = true then
    (if v5 = 0 then none else
    (some (.inl (v5, (v4.tmod v5)))))
  else
    (some (.inr v4))
noncomputable def base_Gcd (v1 : Int) (v2 : Int) : Option (Int) :=
  (run (base_Gcd_l1) (v1, v2)).bind fun v7 =>
  (base_Size v7).bind fun v8 =>
  some (v8)

end Go.Rex

namespace Go.Rex
open Go Go.Rex
noncomputable def base_Lowest (v1 : Int) (v2 : Int) : Option (Int × Int) :=
  (base_Gcd v1 v2).bind fun v5 =>
  if (decide (v2 < 0)) = true then
    (if (IntKind.i64.wrap (0 - v5)) = 0 then none else
    (some ((IntKind.i64.wrap (v1.tdiv (IntKind.i64.wrap (0 - v5)))), (IntKind.i64.wrap (v2.tdiv (IntKind.i64.wrap (0 - v5)))))))
  else
    (if v5 = 0 then none else
    (some ((IntKind.i64.wrap (v1.tdiv v5)), (IntKind.i64.wrap (v2.tdiv v5)))))

end Go.Rex

namespace Go.Rex
open Go Go.Rex
noncomputable def ref05_share (v1 : Int) (v2 : Int) : Option (Int × Int × Int) :=
  if (decide (v2 = 0)) = true then
    (some (0, 0, 11))
  else
    ((base_Lowest v1 v2).bind fun (v6, v7) =>
    if (decide (v6 > 1000000000)) = true then
      (some (0, 0, 8))
    else
      (if (decide (v7 > 1000000000)) = true then
        (some (0, 0, 8))
      else
        (some (v6, v7, 0))))

end Go.Rex

namespace Go.Rex
open Go Go.Rex
noncomputable def ref05_Definition (v1 : Int) (v2 : (List Nat)) (v3 : Int) : Option (Int × Int × Int) :=
  (ref05_Plain v1 v2).bind fun (v7, v8) =>
  (ref05_parts v7 v8 0 0 v3).bind fun (v9, v10, v11, v12) =>
  (ref05_Plain v1 v2).bind fun (v13, v14) =>
  (ref05_sum v13 v14 0 0 0).bind fun (v15, v16) =>
  (ref05_share v9 v15).bind fun (v17, v18, v19) =>
  some (v17, v18, v19)

end Go.Rex

namespace Go.Rex
open Go Go.Rex
noncomputable def ref05_DefinitionWithin (v1 : Int) (v2 : (List Nat)) (v3 : Int) (v4 : Int) (v5 : Int) : Option (Int × Int × Int) :=
  (ref05_parts v1 v2 v3 v4 v5).bind fun (v9, v10, v11, v12) =>
  if (decide ((IntKind.i64.wrap (v9 + v11)) = 0)) = true then
    (some (0, 0, 11))
  else
    ((base_Floor (IntKind.i64.wrap (1000 * v9)) (IntKind.i64.wrap (v9 + v12))).bind fun v13 =>
    (base_Ceil (IntKind.i64.wrap (1000 * v10)) (IntKind.i64.wrap (v10 + v11))).bind fun v14 =>
    some (v13, v14, 0))

end Go.Rex

namespace Go.Rex
open Go Go.Rex
noncomputable def base_Compare_l1 : (Int × Int × Int × Int) → Option ((Int × Int × Int × Int) ⊕ ((Int))) := fun (v6, v7, v8, v9) =>
  (base_Floor v6 v7).bind fun v13 =>
  (base_Floor v8 v9).bind fun v14 =>
  if (decide (v13 < v14)) = true then
    (some (.inr (-1)))
  else
    (if (decide (v13 > v14)) = true then
      (some (.inr 1))
    else
      (if (decide ((IntKind.i64.wrap (v6 - (IntKind.i64.wrap (v13 * v7)))) = 0)) = true then
        (if (decide ((IntKind.i64.wrap (v8 - (IntKind.i64.wrap (v14 * v9)))) = 0)) = true then
          (some (.inr 0))
        else
          (some (.inr (-1))))
      else
        (if (decide ((IntKind.i64.wrap (v8 - (IntKind.i64.wrap (v14 * v9)))) = 0)) = true then
          (some (.inr 1))
        else
          (some (.inl (v9, (IntKind.i64.wrap (v8 - (IntKind.i64.wrap (v14 * v9)))), v7, (IntKind.i64.wrap (v6 - (IntKind.i64.wrap (v13 * v7))))))))))
noncomputable def base_Compare (v1 : Int) (v2 : Int) (v3 : Int) (v4 : Int) : Option (Int) :=
  (run (base_Compare_l1) (v1, v2, v3, v4)).bind fun v15 =>
  some (v15)

end Go.Rex

namespace Go.Rex
open Go Go.Rex
noncomputable def law05_FigureDefinitions (v1 : Int) (v2 : (List Nat)) (v3 : Int) (v4 : Int) (v5 : Int) : Option Bool :=
  (law05_Few v1 v2).bind fun v7 =>
  if v7 = true then
    ((base_CopyResponse v1 v2).bind fun (v8, v9) =>
    (figure_Definition v8 v9 v5).bind fun (v10, v11, v12) =>
    (ref05_Copy v1 v2 v3 v4).bind fun (v13, v14, v15, v16) =>
    (figure_DefinitionWithin v13 v14 v15 v16 v5).bind fun (v17, v18, v19) =>
    (ref05_ResponseErr v1 v2).bind fun v20 =>
    (ref05_AskErr v1 v2 v3 v4).bind fun v21 =>
    (ref05_TimeErr v5).bind fun v22 =>
    if (decide (v22 ≠ 0)) = true then
      (if (decide (v20 = 0)) = true then
        (if (decide (v21 = 0)) = true then
          (if (decide (v22 = 0)) = true then
            ((ref05_Definition v1 v2 v5).bind fun (v23, v24, v25) =>
            (ref05_DefinitionWithin v1 v2 v3 v4 v5).bind fun (v26, v27, v28) =>
            if (decide (v12 ≠ v25)) = true then
              (some (false))
            else
              (if ([v10 == v23, v11 == v24].all id) = true then
                (if (decide (v19 ≠ v28)) = true then
                  (some (false))
                else
                  (if ([v17 == v26, v18 == v27].all id) = true then
                    (if (decide (v25 ≠ 0)) = true then
                      (some (true))
                    else
                      (if (decide (v28 ≠ 0)) = true then
                        (some (true))
                      else
                        (if (decide (v4 ≠ 0)) = true then
                          (some (true))
                        else
                          ((base_Compare v17 1000 v10 v11).bind fun v29 =>
                          if (decide (v29 ≤ 0)) = true then
                            ((base_Compare v10 v11 v18 1000).bind fun v30 =>
                            some ((decide (v30 ≤ 0))))
                          else
                            (some (false))))))
                  else
                    (some (false))))
              else
                (some (false))))
          else
            (if (decide (v12 ≠ v22)) = true then
              (some (false))
            else
              (if ([v10 == 0, v11 == 0].all id) = true then
                (if (decide (v19 ≠ v22)) = true then
                  (some (false))
                else
                  (if ([v17 == 0, v18 == 0].all id) = true then
                    (some (true))
                  else
                    (some (false))))
              else
                (some (false)))))
        else
          (if (decide (v22 = 0)) = true then
            ((ref05_Definition v1 v2 v5).bind fun (v31, v32, v33) =>
            if (decide (v12 ≠ v33)) = true then
              (some (false))
            else
              (if ([v10 == v31, v11 == v32].all id) = true then
                (if (decide (v19 ≠ v21)) = true then
                  (some (false))
                else
                  (if ([v17 == 0, v18 == 0].all id) = true then
                    (if (decide (v33 ≠ 0)) = true then
                      (some (true))
                    else
                      (if (decide (v21 ≠ 0)) = true then
                        (some (true))
                      else
                        (if (decide (v4 ≠ 0)) = true then
                          (some (true))
                        else
                          ((base_Compare v17 1000 v10 v11).bind fun v34 =>
                          if (decide (v34 ≤ 0)) = true then
                            ((base_Compare v10 v11 v18 1000).bind fun v35 =>
                            some ((decide (v35 ≤ 0))))
                          else
                            (some (false))))))
                  else
                    (some (false))))
              else
                (some (false))))
          else
            (if (decide (v12 ≠ v22)) = true then
              (some (false))
            else
              (if ([v10 == 0, v11 == 0].all id) = true then
                (if (decide (v19 ≠ v21)) = true then
                  (some (false))
                else
                  (if ([v17 == 0, v18 == 0].all id) = true then
                    (some (true))
                  else
                    (some (false))))
              else
                (some (false))))))
      else
        (if (decide (v21 = 0)) = true then
          (if (decide (v22 = 0)) = true then
            ((ref05_DefinitionWithin v1 v2 v3 v4 v5).bind fun (v36, v37, v38) =>
            if (decide (v12 ≠ v20)) = true then
              (some (false))
            else
              (if ([v10 == 0, v11 == 0].all id) = true then
                (if (decide (v19 ≠ v38)) = true then
                  (some (false))
                else
                  (if ([v17 == v36, v18 == v37].all id) = true then
                    (if (decide (v20 ≠ 0)) = true then
                      (some (true))
                    else
                      (if (decide (v38 ≠ 0)) = true then
                        (some (true))
                      else
                        (if (decide (v4 ≠ 0)) = true then
                          (some (true))
                        else
                          ((base_Compare v17 1000 v10 v11).bind fun v39 =>
                          if (decide (v39 ≤ 0)) = true then
                            ((base_Compare v10 v11 v18 1000).bind fun v40 =>
                            some ((decide (v40 ≤ 0))))
                          else
                            (some (false))))))
                  else
                    (some (false))))
              else
                (some (false))))
          else
            (if (decide (v12 ≠ v20)) = true then
              (some (false))
            else
              (if ([v10 == 0, v11 == 0].all id) = true then
                (if (decide (v19 ≠ v22)) = true then
                  (some (false))
                else
                  (if ([v17 == 0, v18 == 0].all id) = true then
                    (if (decide (v20 ≠ 0)) = true then
                      (some (true))
                    else
                      (some (true)))
                  else
                    (some (false))))
              else
                (some (false)))))
        else
          (if (decide (v12 ≠ v20)) = true then
            (some (false))
          else
            (if ([v10 == 0, v11 == 0].all id) = true then
              (if (decide (v19 ≠ v21)) = true then
                (some (false))
              else
                (if ([v17 == 0, v18 == 0].all id) = true then
                  (if (decide (v20 ≠ 0)) = true then
                    (some (true))
                  else
                    (if (decide (v21 ≠ 0)) = true then
                      (some (true))
                    else
                      (if (decide (v4 ≠ 0)) = true then
                        (some (true))
                      else
                        ((base_Compare v17 1000 v10 v11).bind fun v41 =>
                        if (decide (v41 ≤ 0)) = true then
                          ((base_Compare v10 v11 v18 1000).bind fun v42 =>
                          some ((decide (v42 ≤ 0))))
                        else
                          (some (false))))))
                else
                  (some (false))))
            else
              (some (false))))))
    else
      (if (decide (v20 = 0)) = true then
        ((ref05_Definition v1 v2 v5).bind fun (v43, v44, v45) =>
        if (decide (v21 = 0)) = true then
          ((ref05_DefinitionWithin v1 v2 v3 v4 v5).bind fun (v46, v47, v48) =>
          if (decide (v12 ≠ v45)) = true then
            (some (false))
          else
            (if ([v10 == v43, v11 == v44].all id) = true then
              (if (decide (v19 ≠ v48)) = true then
                (some (false))
              else
                (if ([v17 == v46, v18 == v47].all id) = true then
                  (if (decide (v45 ≠ 0)) = true then
                    (some (true))
                  else
                    (if (decide (v48 ≠ 0)) = true then
                      (some (true))
                    else
                      (if (decide (v4 ≠ 0)) = true then
                        (some (true))
                      else
                        ((base_Compare v17 1000 v10 v11).bind fun v49 =>
                        if (decide (v49 ≤ 0)) = true then
                          ((base_Compare v10 v11 v18 1000).bind fun v50 =>
                          some ((decide (v50 ≤ 0))))
                        else
                          (some (false))))))
                else
                  (some (false))))
            else
              (some (false))))
        else
          (if (decide (v12 ≠ v45)) = true then
            (some (false))
          else
            (if ([v10 == v43, v11 == v44].all id) = true then
              (if (decide (v19 ≠ v21)) = true then
                (some (false))
              else
                (if ([v17 == 0, v18 == 0].all id) = true then
                  (if (decide (v45 ≠ 0)) = true then
                    (some (true))
                  else
                    (if (decide (v21 ≠ 0)) = true then
                      (some (true))
                    else
                      (if (decide (v4 ≠ 0)) = true then
                        (some (true))
                      else
                        ((base_Compare v17 1000 v10 v11).bind fun v51 =>
                        if (decide (v51 ≤ 0)) = true then
                          ((base_Compare v10 v11 v18 1000).bind fun v52 =>
                          some ((decide (v52 ≤ 0))))
                        else
                          (some (false))))))
                else
                  (some (false))))
            else
              (some (false)))))
      else
        (if (decide (v21 = 0)) = true then
          ((ref05_DefinitionWithin v1 v2 v3 v4 v5).bind fun (v53, v54, v55) =>
          if (decide (v12 ≠ v20)) = true then
            (some (false))
          else
            (if ([v10 == 0, v11 == 0].all id) = true then
              (if (decide (v19 ≠ v55)) = true then
                (some (false))
              else
                (if ([v17 == v53, v18 == v54].all id) = true then
                  (if (decide (v20 ≠ 0)) = true then
                    (some (true))
                  else
                    (if (decide (v55 ≠ 0)) = true then
                      (some (true))
                    else
                      (if (decide (v4 ≠ 0)) = true then
                        (some (true))
                      else
                        ((base_Compare v17 1000 v10 v11).bind fun v56 =>
                        if (decide (v56 ≤ 0)) = true then
                          ((base_Compare v10 v11 v18 1000).bind fun v57 =>
                          some ((decide (v57 ≤ 0))))
                        else
                          (some (false))))))
                else
                  (some (false))))
            else
              (some (false))))
        else
          (if (decide (v12 ≠ v20)) = true then
            (some (false))
          else
            (if ([v10 == 0, v11 == 0].all id) = true then
              (if (decide (v19 ≠ v21)) = true then
                (some (false))
              else
                (if ([v17 == 0, v18 == 0].all id) = true then
                  (if (decide (v20 ≠ 0)) = true then
                    (some (true))
                  else
                    (if (decide (v21 ≠ 0)) = true then
                      (some (true))
                    else
                      (if (decide (v4 ≠ 0)) = true then
                        (some (true))
                      else
                        ((base_Compare v17 1000 v10 v11).bind fun v58 =>
                        if (decide (v58 ≤ 0)) = true then
                          ((base_Compare v10 v11 v18 1000).bind fun v59 =>
                          some ((decide (v59 ≤ 0))))
                        else
                          (some (false))))))
                else
                  (some (false))))
            else
              (some (false)))))))
  else
    (some (true))

end Go.Rex

namespace Go.Rex
open Go Go.Rex
noncomputable def figure_SampleAt (v1 : Int) (v2 : Int) : Option (Int × Int) :=
  (figure_rateError v1).bind fun v5 =>
  (figure_timeError v2).bind fun v6 =>
  (figure_firstError ([v5, v6] : List Int)).bind fun v7 =>
  if (decide (v7 ≠ 0)) = true then
    (some (0, v7))
  else
    ((figure_sampleAt v1 v2).bind fun v8 =>
    some (v8, 0))

end Go.Rex

namespace Go.Rex
open Go Go.Rex
noncomputable def law05_FigureResponses (v1 : Int) (v2 : (List Nat)) (v3 : Int) (v4 : Int) (v5 : Int) (v6 : Int) : Option Bool :=
  (law05_Few v1 v2).bind fun v8 =>
  if v8 = true then
    ((base_CopyResponse v1 v2).bind fun (v9, v10) =>
    (figure_CheckResponse v9 v10).bind fun (v11, v12) =>
    (ref05_Copy v1 v2 v3 v4).bind fun (v13, v14, v15, v16) =>
    (figure_CheckAsk v13 v14 v15 v16).bind fun (v17, v18) =>
    (figure_SampleAt v5 v6).bind fun (v19, v20) =>
    (ref05_CheckResponse v1 v2).bind fun (v21, v22) =>
    (ref05_CheckAsk v1 v2 v3 v4).bind fun (v23, v24) =>
    (ref05_SampleAt v5 v6).bind fun (v25, v26) =>
    if (decide (v12 = v22)) = true then
      (if (decide (v11 = v21)) = true then
        (if (decide (v18 = v24)) = true then
          (if (decide (v17 = v23)) = true then
            (if (decide (v20 = v26)) = true then
              (some ((decide (v19 = v25))))
            else
              (some (false)))
          else
            (some (false)))
        else
          (some (false)))
      else
        (some (false)))
    else
      (some (false)))
  else
    (some (true))

end Go.Rex

namespace Go.Rex
open Go Go.Rex
noncomputable def figure_heard_windowError (v1 : Int) (v2 : (List Nat)) (v3 : Int) (v4 : Int) (v5 : Int) (v6 : Int) : Option (Int) :=
  (figure_heard_count v1 v2 v3 v4).bind fun v8 =>
  (figure_within v6 0 v8).bind fun v9 =>
  (figure_within v5 0 v6).bind fun v10 =>
  (figure_firstError ([v9, v10] : List Int)).bind fun v11 =>
  some (v11)

end Go.Rex

namespace Go.Rex
open Go Go.Rex
noncomputable def figure_EnergyWithin (v1 : Int) (v2 : (List Nat)) (v3 : Int) (v4 : Int) (v5 : Int) (v6 : Int) : Option (Int × Int × Int) :=
  (figure_hear v1 v2 v3 v4).bind fun (v10, v11, v12, v13, v14) =>
  (figure_heard_windowError v10 v11 v12 v13 v5 v6).bind fun v15 =>
  (figure_firstError ([v14, v15] : List Int)).bind fun v16 =>
  if (decide (v16 ≠ 0)) = true then
    (some (0, 0, v16))
  else
    ((figure_heard_energy v10 v11 v12 v13 v5 v6).bind fun (v17, v18) =>
    (figure_heard_count v10 v11 v12 v13).bind fun v19 =>
    if (decide (v6 = v19)) = true then
      ((figure_heard_behind v10 v11 v12 v13).bind fun (v20, v21) =>
      (figure_ends_plus v17 v18 v20 v21).bind fun (v22, v23) =>
      some (v22, v23, 0))
    else
      (some (v17, v18, 0)))

end Go.Rex

namespace Go.Rex
open Go Go.Rex
noncomputable def figure_Energy (v1 : Int) (v2 : (List Nat)) (v3 : Int) (v4 : Int) : Option (Int × Int) :=
  (figure_plain v1 v2).bind fun (v7, v8) =>
  (figure_EnergyWithin v7 v8 0 0 v3 v4).bind fun (v9, v10, v11) =>
  some (v9, v11)

end Go.Rex

namespace Go.Rex
open Go Go.Rex
noncomputable def ref05_WindowErr (v1 : Int) (v2 : (List Nat)) (v3 : Int) (v4 : Int) : Option (Int) :=
  (base_Within v4 0 (v2.length : Int)).bind fun v6 =>
  if v6 = true then
    ((base_Within v3 0 v4).bind fun v7 =>
    if v7 = true then
      (some (0))
    else
      (some (2)))
  else
    (some (2))

end Go.Rex

namespace Go.Rex
open Go Go.Rex
noncomputable def ref05_Energy (v1 : Int) (v2 : (List Nat)) (v3 : Int) (v4 : Int) : Option (Int) :=
  (ref05_Plain v1 v2).bind fun (v6, v7) =>
  (ref05_EnergyWithin v6 v7 0 0 v3 v4).bind fun (v8, v9) =>
  some (v8)

end Go.Rex

namespace Go.Rex
open Go Go.Rex
noncomputable def law05_FigureEnergies (v1 : Int) (v2 : (List Nat)) (v3 : Int) (v4 : Int) (v5 : Int) (v6 : Int) : Option Bool :=
  (law05_Few v1 v2).bind fun v8 =>
  if v8 = true then
    ((base_CopyResponse v1 v2).bind fun (v9, v10) =>
    (figure_Energy v9 v10 v5 v6).bind fun (v11, v12) =>
    (ref05_Copy v1 v2 v3 v4).bind fun (v13, v14, v15, v16) =>
    (figure_EnergyWithin v13 v14 v15 v16 v5 v6).bind fun (v17, v18, v19) =>
    (ref05_ResponseErr v1 v2).bind fun v20 =>
    if (decide (v20 = 0)) = true then
      ((ref05_WindowErr v1 v2 v5 v6).bind fun v21 =>
      if (decide (v12 ≠ v21)) = true then
        (some (false))
      else
        (if (decide (v21 ≠ 0)) = true then
          (if (decide (v11 ≠ 0)) = true then
            (some (false))
          else
            (if (decide (v21 = 0)) = true then
              ((ref05_Energy v1 v2 v5 v6).bind fun v22 =>
              if (decide (v11 ≠ v22)) = true then
                (some (false))
              else
                ((ref05_AskErr v1 v2 v3 v4).bind fun v23 =>
                if (decide (v23 = 0)) = true then
                  (if (decide (v19 = v21)) = true then
                    (some (([v17 == 0, v18 == 0].all id)))
                  else
                    (some (false)))
                else
                  (if (decide (v23 ≠ 0)) = true then
                    (if (decide (v19 = v23)) = true then
                      (some (([v17 == 0, v18 == 0].all id)))
                    else
                      (some (false)))
                  else
                    (if (decide (v19 = 0)) = true then
                      ((ref05_EnergyWithin v1 v2 v3 v4 v5 v6).bind fun (v24, v25) =>
                      if ([v17 == v24, v18 == v25].all id) = true then
                        ((base_Within v11 v17 v18).bind fun v26 =>
                        some (v26))
                      else
                        (some (false)))
                    else
                      (some (false))))))
            else
              ((ref05_AskErr v1 v2 v3 v4).bind fun v27 =>
              if (decide (v27 = 0)) = true then
                (if (decide (v19 = v21)) = true then
                  (some (([v17 == 0, v18 == 0].all id)))
                else
                  (some (false)))
              else
                (if (decide (v27 ≠ 0)) = true then
                  (if (decide (v19 = v27)) = true then
                    (some (([v17 == 0, v18 == 0].all id)))
                  else
                    (some (false)))
                else
                  (if (decide (v19 = 0)) = true then
                    ((ref05_EnergyWithin v1 v2 v3 v4 v5 v6).bind fun (v28, v29) =>
                    if ([v17 == v28, v18 == v29].all id) = true then
                      ((base_Within v11 v17 v18).bind fun v30 =>
                      some (v30))
                    else
                      (some (false)))
                  else
                    (some (false)))))))
        else
          (if (decide (v21 = 0)) = true then
            ((ref05_Energy v1 v2 v5 v6).bind fun v31 =>
            if (decide (v11 ≠ v31)) = true then
              (some (false))
            else
              ((ref05_AskErr v1 v2 v3 v4).bind fun v32 =>
              if (decide (v32 = 0)) = true then
                (if (decide (v19 = 0)) = true then
                  ((ref05_EnergyWithin v1 v2 v3 v4 v5 v6).bind fun (v33, v34) =>
                  if ([v17 == v33, v18 == v34].all id) = true then
                    ((base_Within v11 v17 v18).bind fun v35 =>
                    some (v35))
                  else
                    (some (false)))
                else
                  (some (false)))
              else
                (if (decide (v32 ≠ 0)) = true then
                  (if (decide (v19 = v32)) = true then
                    (some (([v17 == 0, v18 == 0].all id)))
                  else
                    (some (false)))
                else
                  (if (decide (v19 = 0)) = true then
                    ((ref05_EnergyWithin v1 v2 v3 v4 v5 v6).bind fun (v36, v37) =>
                    if ([v17 == v36, v18 == v37].all id) = true then
                      ((base_Within v11 v17 v18).bind fun v38 =>
                      some (v38))
                    else
                      (some (false)))
                  else
                    (some (false))))))
          else
            ((ref05_AskErr v1 v2 v3 v4).bind fun v39 =>
            if (decide (v39 = 0)) = true then
              (if (decide (v19 = 0)) = true then
                ((ref05_EnergyWithin v1 v2 v3 v4 v5 v6).bind fun (v40, v41) =>
                if ([v17 == v40, v18 == v41].all id) = true then
                  ((base_Within v11 v17 v18).bind fun v42 =>
                  some (v42))
                else
                  (some (false)))
              else
                (some (false)))
            else
              (if (decide (v39 ≠ 0)) = true then
                (if (decide (v19 = v39)) = true then
                  (some (([v17 == 0, v18 == 0].all id)))
                else
                  (some (false)))
              else
                (if (decide (v19 = 0)) = true then
                  ((ref05_EnergyWithin v1 v2 v3 v4 v5 v6).bind fun (v43, v44) =>
                  if ([v17 == v43, v18 == v44].all id) = true then
                    ((base_Within v11 v17 v18).bind fun v45 =>
                    some (v45))
                  else
                    (some (false)))
                else
                  (some (false))))))))
    else
      (if (decide (v12 ≠ v20)) = true then
        (some (false))
      else
        (if (decide (v20 ≠ 0)) = true then
          (if (decide (v11 ≠ 0)) = true then
            (some (false))
          else
            ((ref05_AskErr v1 v2 v3 v4).bind fun v46 =>
            if (decide (v46 = 0)) = true then
              (if (decide (v19 = v20)) = true then
                (some (([v17 == 0, v18 == 0].all id)))
              else
                (some (false)))
            else
              (if (decide (v46 ≠ 0)) = true then
                (if (decide (v19 = v46)) = true then
                  (some (([v17 == 0, v18 == 0].all id)))
                else
                  (some (false)))
              else
                (if (decide (v19 = 0)) = true then
                  ((ref05_EnergyWithin v1 v2 v3 v4 v5 v6).bind fun (v47, v48) =>
                  if ([v17 == v47, v18 == v48].all id) = true then
                    ((base_Within v11 v17 v18).bind fun v49 =>
                    some (v49))
                  else
                    (some (false)))
                else
                  (some (false))))))
        else
          ((ref05_AskErr v1 v2 v3 v4).bind fun v50 =>
          if (decide (v50 = 0)) = true then
            (if (decide (v19 = 0)) = true then
              ((ref05_EnergyWithin v1 v2 v3 v4 v5 v6).bind fun (v51, v52) =>
              if ([v17 == v51, v18 == v52].all id) = true then
                ((base_Within v11 v17 v18).bind fun v53 =>
                some (v53))
              else
                (some (false)))
            else
              (some (false)))
          else
            (if (decide (v50 ≠ 0)) = true then
              (if (decide (v19 = v50)) = true then
                (some (([v17 == 0, v18 == 0].all id)))
              else
                (some (false)))
            else
              (if (decide (v19 = 0)) = true then
                ((ref05_EnergyWithin v1 v2 v3 v4 v5 v6).bind fun (v54, v55) =>
                if ([v17 == v54, v18 == v55].all id) = true then
                  ((base_Within v11 v17 v18).bind fun v56 =>
                  some (v56))
                else
                  (some (false)))
              else
                (some (false))))))))
  else
    (some (true))

end Go.Rex

namespace Go.Rex
open Go Go.Rex
noncomputable def figure_Lateral (v1 : Int) (v2 : (List Nat)) (v3 : Int) (v4 : (List Nat)) : Option (Int × Int × Int) :=
  (figure_plain v1 v2).bind fun (v8, v9) =>
  (figure_hear v8 v9 0 0).bind fun (v10, v11, v12, v13, v14) =>
  (figure_plain v3 v4).bind fun (v15, v16) =>
  (figure_hear v15 v16 0 0).bind fun (v17, v18, v19, v20, v21) =>
  (figure_refuse (decide (v1 ≠ v3)) 13).bind fun v22 =>
  (figure_firstError ([v14, v21, v22] : List Int)).bind fun v23 =>
  if (decide (v23 ≠ 0)) = true then
    (some (0, 0, v23))
  else
    ((figure_heard_split v17 v18 v19 v20 5000).bind fun v24 =>
    (figure_heard_split v17 v18 v19 v20 80000).bind fun v25 =>
    (figure_heard_energy v17 v18 v19 v20 v24 v25).bind fun (v26, v27) =>
    (figure_heard_early v10 v11 v12 v13 80000).bind fun (v28, v29) =>
    (figure_share v26 v28).bind fun (v30, v31, v32) =>
    some (v30, v31, v32))

end Go.Rex

namespace Go.Rex
open Go Go.Rex
noncomputable def ref05_Lateral (v1 : Int) (v2 : (List Nat)) (v3 : Int) (v4 : (List Nat)) : Option (Int × Int × Int) :=
  if (decide (v1 ≠ v3)) = true then
    (some (0, 0, 13))
  else
    ((ref05_SampleAt v1 5000).bind fun (v8, v9) =>
    (ref05_SampleAt v1 80000).bind fun (v10, v11) =>
    (ref05_Energy v3 v4 (if (if (v4.length : Int) < v10 then (v4.length : Int) else v10) < v8 then (if (v4.length : Int) < v10 then (v4.length : Int) else v10) else v8) (if (v4.length : Int) < v10 then (v4.length : Int) else v10)).bind fun v12 =>
    (ref05_Energy v1 v2 0 (if (v2.length : Int) < v10 then (v2.length : Int) else v10)).bind fun v13 =>
    (ref05_share v12 v13).bind fun (v14, v15, v16) =>
    some (v14, v15, v16))

end Go.Rex

namespace Go.Rex
open Go Go.Rex
noncomputable def law05_FigureLateral (v1 : Int) (v2 : (List Nat)) (v3 : Int) (v4 : (List Nat)) : Option Bool :=
  (law05_Few v1 v2).bind fun v6 =>
  if v6 = true then
    ((law05_Few v3 v4).bind fun v7 =>
    if v7 = true then
      ((base_CopyResponse v1 v2).bind fun (v8, v9) =>
      (base_CopyResponse v3 v4).bind fun (v10, v11) =>
      (figure_Lateral v8 v9 v10 v11).bind fun (v12, v13, v14) =>
      (ref05_ResponseErr v1 v2).bind fun v15 =>
      if (decide (v15 = 0)) = true then
        ((ref05_ResponseErr v3 v4).bind fun v16 =>
        if (decide (v16 = 0)) = true then
          ((ref05_Lateral v1 v2 v3 v4).bind fun (v17, v18, v19) =>
          if (decide (v14 = v19)) = true then
            (some (([v12 == v17, v13 == v18].all id)))
          else
            (some (false)))
        else
          (if (decide (v14 = v16)) = true then
            (some (([v12 == 0, v13 == 0].all id)))
          else
            (some (false))))
      else
        (if (decide (v14 = v15)) = true then
          (some (([v12 == 0, v13 == 0].all id)))
        else
          (some (false))))
    else
      (some (true)))
  else
    (some (true))

end Go.Rex

namespace Go.Rex
open Go Go.Rex
noncomputable def figure_SumsWithin_l1 (v12 : (List (Int × Int))) (v14 : Nat) : ((List (Int × Int)) × Int) → Option (((List (Int × Int)) × Int) ⊕ (((List (Int × Int))))) := fun (v15, v16) =>
  if (decide (v16 < (v14 : Int))) = true then
    ((getI (v12.take v14) v16).bind fun (v21, v22) =>
    (appI 16 v15 ([(v21, v22)] : List (Int × Int))).bind fun v23 =>
    some (.inl (v23, (IntKind.i64.wrap (v16 + 1)))))
  else
    (some (.inr v15))
noncomputable def figure_SumsWithin (v1 : Int) (v2 : (List Nat)) (v3 : Int) (v4 : Int) : Option ((List (Int × Int)) × Int) :=
  (figure_hear v1 v2 v3 v4).bind fun (v7, v8, v9, v10, v11) =>
  if (decide (v11 ≠ 0)) = true then
    (some (([] : List (Int × Int)), v11))
  else
    ((figure_heard_sums v7 v8 v9 v10).bind fun v12 =>
    (figure_heard_count v7 v8 v9 v10).bind fun v13 =>
    (cutI v12 v13).bind fun v14 =>
    (run (figure_SumsWithin_l1 v12 v14) (([] : List (Int × Int)), 0)).bind fun v24 =>
    some (v24, 0))

end Go.Rex

namespace Go.Rex
open Go Go.Rex
noncomputable def figure_Sums_l1 (v7 : (List (Int × Int))) : ((List Int) × Int) → Option (((List Int) × Int) ⊕ (((List Int)))) := fun (v9, v10) =>
  if (decide (v10 < (v7.length : Int))) = true then
    ((getI v7 v10).bind fun (v15, v16) =>
    (appI 8 v9 ([v15] : List Int)).bind fun v17 =>
    some (.inl (v17, (IntKind.i64.wrap (v10 + 1)))))
  else
    (some (.inr v9))
noncomputable def figure_Sums (v1 : Int) (v2 : (List Nat)) : Option ((List Int) × Int) :=
  (figure_plain v1 v2).bind fun (v5, v6) =>
  (figure_SumsWithin v5 v6 0 0).bind fun (v7, v8) =>
  if (decide (v8 ≠ 0)) = true then
    (some (([] : List Int), v8))
  else
    ((run (figure_Sums_l1 v7) (([] : List Int), 0)).bind fun v18 =>
    some (v18, 0))

end Go.Rex

namespace Go.Rex
open Go Go.Rex
noncomputable def ref05_SumsWithin_l1 (v1 : Int) (v2 : (List Nat)) (v3 : Int) (v4 : Int) : ((List (Int × Int)) × Int) → Option (((List (Int × Int)) × Int) ⊕ (((List (Int × Int))))) := fun (v6, v7) =>
  if (decide (v7 < (v2.length : Int))) = true then
    ((ref05_sum v1 v2 v3 v4 v7).bind fun (v12, v13) =>
    (appI 16 v6 ([(v12, v13)] : List (Int × Int))).bind fun v14 =>
    some (.inl (v14, (IntKind.i64.wrap (v7 + 1)))))
  else
    (some (.inr v6))
noncomputable def ref05_SumsWithin (v1 : Int) (v2 : (List Nat)) (v3 : Int) (v4 : Int) : Option ((List (Int × Int))) :=
  (run (ref05_SumsWithin_l1 v1 v2 v3 v4) (([] : List (Int × Int)), 0)).bind fun v15 =>
  some (v15)

end Go.Rex

namespace Go.Rex
open Go Go.Rex
noncomputable def ref05_Sums_l1 (v6 : (List (Int × Int))) : ((List Int) × Int) → Option (((List Int) × Int) ⊕ (((List Int)))) := fun (v7, v8) =>
  if (decide (v8 < (v6.length : Int))) = true then
    ((getI v6 v8).bind fun (v13, v14) =>
    (appI 8 v7 ([v13] : List Int)).bind fun v15 =>
    some (.inl (v15, (IntKind.i64.wrap (v8 + 1)))))
  else
    (some (.inr v7))
noncomputable def ref05_Sums (v1 : Int) (v2 : (List Nat)) : Option ((List Int)) :=
  (ref05_Plain v1 v2).bind fun (v4, v5) =>
  (ref05_SumsWithin v4 v5 0 0).bind fun v6 =>
  (run (ref05_Sums_l1 v6) (([] : List Int), 0)).bind fun v16 =>
  some (v16)

end Go.Rex

namespace Go.Rex
open Go Go.Rex
noncomputable def base_Ints_l1 (v1 : (List Int)) (v2 : (List Int)) : (Int) → Option ((Int) ⊕ ((Unit) ⊕ (Unit))) := fun v4 =>
  if (decide (v4 < (v1.length : Int))) = true then
    ((getI v1 v4).bind fun v7 =>
    (getI v2 v4).bind fun v8 =>
    if (decide (v7 ≠ v8)) = true then
      (some (.inr (.inl ())))
    else
      (some (.inl (IntKind.i64.wrap (v4 + 1)))))
  else
    (some (.inr (.inr ())))
noncomputable def base_Ints (v1 : (List Int)) (v2 : (List Int)) : Option (Bool) :=
  if (decide ((v1.length : Int) ≠ (v2.length : Int))) = true then
    (some (false))
  else
    ((run (base_Ints_l1 v1 v2) 0).bind fun v9 => match v9 with
    | (.inl _) =>
      some (false)
    | (.inr _) =>
      some (true))

end Go.Rex

namespace Go.Rex
open Go Go.Rex
noncomputable def base_Ranges_l1 (v1 : (List (Int × Int))) (v2 : (List (Int × Int))) : (Int) → Option ((Int) ⊕ ((Unit) ⊕ (Unit))) := fun v4 =>
  if (decide (v4 < (v1.length : Int))) = true then
    ((getI v1 v4).bind fun (v9, v10) =>
    (getI v2 v4).bind fun (v11, v12) =>
    if ([v9 == v11, v10 == v12].all id) = true then
      (some (.inl (IntKind.i64.wrap (v4 + 1))))
    else
      (some (.inr (.inl ()))))
  else
    (some (.inr (.inr ())))
noncomputable def base_Ranges (v1 : (List (Int × Int))) (v2 : (List (Int × Int))) : Option (Bool) :=
  if (decide ((v1.length : Int) ≠ (v2.length : Int))) = true then
    (some (false))
  else
    ((run (base_Ranges_l1 v1 v2) 0).bind fun v13 => match v13 with
    | (.inl _) =>
      some (false)
    | (.inr _) =>
      some (true))

end Go.Rex

namespace Go.Rex
open Go Go.Rex
noncomputable def law05_FigureSums_l1 (v9 : (List Int)) : (Int) → Option ((Int) ⊕ ((Unit) ⊕ (Unit))) := fun v25 =>
  if (decide (v25 < (v9.length : Int))) = true then
    ((getI v9 v25).bind fun v28 =>
    (getI v9 (IntKind.i64.wrap (v25 - 1))).bind fun v29 =>
    if (decide (v28 > v29)) = true then
      (some (.inr (.inl ())))
    else
      (some (.inl (IntKind.i64.wrap (v25 + 1)))))
  else
    (some (.inr (.inr ())))
noncomputable def law05_FigureSums (v1 : Int) (v2 : (List Nat)) (v3 : Int) (v4 : Int) : Option Bool :=
  (law05_Few v1 v2).bind fun v6 =>
  if v6 = true then
    ((base_CopyResponse v1 v2).bind fun (v7, v8) =>
    (figure_Sums v7 v8).bind fun (v9, v10) =>
    (ref05_Copy v1 v2 v3 v4).bind fun (v11, v12, v13, v14) =>
    (figure_SumsWithin v11 v12 v13 v14).bind fun (v15, v16) =>
    (ref05_ResponseErr v1 v2).bind fun v17 =>
    if (decide (v17 ≠ 0)) = true then
      (if (decide (v10 = v17)) = true then
        (if (decide (v16 = v17)) = true then
          (some ((decide ((IntKind.i64.wrap ((v9.length : Int) + (v15.length : Int))) = 0))))
        else
          (some (false)))
      else
        (some (false)))
    else
      (if (decide (v10 ≠ 0)) = true then
        (some (false))
      else
        ((ref05_Sums v1 v2).bind fun v18 =>
        (base_Ints v9 v18).bind fun v19 =>
        if v19 = true then
          ((base_CopyResponse v1 v2).bind fun (v20, v21) =>
          (figure_Energy v20 v21 0 (v2.length : Int)).bind fun (v22, v23) =>
          if (decide (v23 ≠ 0)) = true then
            (some (false))
          else
            (if (decide ((v9.length : Int) = 0)) = true then
              (some (false))
            else
              ((getI v9 0).bind fun v24 =>
              if (decide (v24 ≠ v22)) = true then
                (some (false))
              else
                ((run (law05_FigureSums_l1 v9) 1).bind fun v30 => match v30 with
                | (.inl _) =>
                  some (false)
                | (.inr _) =>
                  (ref05_AskErr v1 v2 v3 v4).bind fun v31 =>
                  if (decide (v31 ≠ 0)) = true then
                    (if (decide (v16 = v31)) = true then
                      (some ((decide ((v15.length : Int) = 0))))
                    else
                      (some (false)))
                  else
                    (if (decide (v16 = 0)) = true then
                      ((ref05_SumsWithin v1 v2 v3 v4).bind fun v32 =>
                      (base_Ranges v15 v32).bind fun v33 =>
                      some (v33))
                    else
                      (some (false)))))))
        else
          (some (false)))))
  else
    (some (true))

end Go.Rex
