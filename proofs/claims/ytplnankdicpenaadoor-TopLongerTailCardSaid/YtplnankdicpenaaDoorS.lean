/- The functions of the program and of the reference, as functions of lists and numbers. -/
import Derived.Test.YtplnankdicpenaaDoorRexG10
set_option linter.unusedSimpArgs false
set_option linter.unusedVariables false
set_option linter.defProp false
namespace Go.Rex
open Go Go.Rex
def e_f (x : Nat) : List TV := [.v (.float .f32 x)]
def e_i (x : Int) : List TV := [.v (.int .i64 x)]
def e_ii (x : (Int × Int)) : List TV := [.v (.int .i64 x.1), .v (.int .i64 x.2)]
def e_iii (x : (Int × Int × Int)) : List TV := [.v (.int .i64 x.1), .v (.int .i64 x.2.1), .v (.int .i64 x.2.2)]

end Go.Rex

namespace Go.Rex
open Go Go.Rex
noncomputable def law05_Few (v1 : Int) (v2 : (List Nat)) : Option (Bool) :=
  if (decide ((v2.length : Int) ≤ 700)) = true then
    (some (true))
  else
    (if (decide ((v2.length : Int) > 1024)) = true then
      (some ((decide ((v2.length : Int) ≤ 1026))))
    else
      (some (false)))

end Go.Rex

namespace Go.Rex
open Go Go.Rex
noncomputable def base_Within (v1 : Int) (v2 : Int) (v3 : Int) : Option (Bool) :=
  if (decide (v2 ≤ v1)) = true then
    (some ((decide (v1 ≤ v3))))
  else
    (some (false))

end Go.Rex

namespace Go.Rex
open Go Go.Rex
noncomputable def base_CopyResponse (v1 : Int) (v2 : (List Nat)) : Option (Int × (List Nat)) :=
  (appI 4 ([] : List Nat) v2).bind fun v5 =>
  some (v1, v5)

end Go.Rex

namespace Go.Rex
open Go Go.Rex
noncomputable def figure_refuse (v1 : Bool) (v2 : Int) : Option (Int) :=
  if v1 = true then
    (some (v2))
  else
    (some (0))

end Go.Rex

namespace Go.Rex
open Go Go.Rex
noncomputable def figure_within (v1 : Int) (v2 : Int) (v3 : Int) : Option (Int) :=
  if (decide (v1 < v2)) = true then
    ((figure_refuse true 2).bind fun v5 =>
    some (v5))
  else
    ((figure_refuse (decide (v1 > v3)) 2).bind fun v6 =>
    some (v6))

end Go.Rex

namespace Go.Rex
open Go Go.Rex
noncomputable def figure_rateError (v1 : Int) : Option (Int) :=
  (figure_within v1 8000 192000).bind fun v3 =>
  some (v3)

end Go.Rex

namespace Go.Rex
open Go Go.Rex
noncomputable def figure_firstError_l1 (v1 : (List Int)) : (Int) → Option ((Int) ⊕ ((Int) ⊕ (Unit))) := fun v3 =>
  if (decide (v3 < (v1.length : Int))) = true then
    ((getI v1 v3).bind fun v6 =>
    if (decide (v6 ≠ 0)) = true then
      (some (.inr (.inl v6)))
    else
      (some (.inl (IntKind.i64.wrap (v3 + 1)))))
  else
    (some (.inr (.inr ())))
noncomputable def figure_firstError (v1 : (List Int)) : Option (Int) :=
  (run (figure_firstError_l1 v1) 0).bind fun v7 => match v7 with
  | (.inl v8) =>
    some (v8)
  | (.inr _) =>
    some (0)

end Go.Rex

namespace Go.Rex
open Go Go.Rex
noncomputable def math_Trunc (v1 : Nat) : Option (Nat) :=
  (trI .zero v1).bind fun v3 =>
  some (v3)

end Go.Rex

namespace Go.Rex
open Go Go.Rex
noncomputable def math_Abs (v1 : Nat) : Option (Nat) :=
  (fbits .f64 v1).bind fun v3 =>
  some (((bitI .andNot .u64 v3 9223372036854775808)).toNat)

end Go.Rex

namespace Go.Rex
open Go Go.Rex
noncomputable def math_IsInf (v1 : Nat) (v2 : Int) : Option (Bool) :=
  if (decide (v2 = 0)) = true then
    ((math_Abs v1).bind fun v4 =>
    some ((fcmp .gtr .f64 v4 9218868437227405311)))
  else
    (if (decide (v2 < 0)) = true then
      (some ((fcmp .gtr .f64 (Op.negFloat .f64 v1) 9218868437227405311)))
    else
      (some ((fcmp .gtr .f64 v1 9218868437227405311))))

end Go.Rex

namespace Go.Rex
open Go Go.Rex
noncomputable def figure_isWhole (v1 : Nat) : Option (Bool) :=
  (f2f .f32 v1 .f64).bind fun v3 =>
  (math_Trunc v3).bind fun v4 =>
  if (fcmp .eql .f64 v3 v4) = true then
    ((math_IsInf v3 0).bind fun v5 =>
    some ((!v5)))
  else
    (some (false))

end Go.Rex

namespace Go.Rex
open Go Go.Rex
noncomputable def figure_sampleError (v1 : Nat) : Option (Int) :=
  (figure_isWhole v1).bind fun v3 =>
  (figure_refuse (!v3) 27).bind fun v4 =>
  if (fcmp .lss .f32 v1 3338665472) = true then
    ((figure_refuse true 2).bind fun v5 =>
    (figure_firstError ([v4, v5] : List Int)).bind fun v6 =>
    some (v6))
  else
    ((figure_refuse (fcmp .gtr .f32 v1 1191181824) 2).bind fun v7 =>
    (figure_firstError ([v4, v7] : List Int)).bind fun v8 =>
    some (v8))

end Go.Rex

namespace Go.Rex
open Go Go.Rex
noncomputable def figure_CheckResponse_l1 (v2 : (List Nat)) : (Int) → Option ((Int) ⊕ ((Int × Int) ⊕ (Unit))) := fun v9 =>
  if (decide (v9 < (v2.length : Int))) = true then
    ((getI v2 v9).bind fun v14 =>
    (figure_sampleError v14).bind fun v15 =>
    if (decide (v15 ≠ 0)) = true then
      (some (.inr (.inl (v9, v15))))
    else
      (some (.inl (IntKind.i64.wrap (v9 + 1)))))
  else
    (some (.inr (.inr ())))
noncomputable def figure_CheckResponse (v1 : Int) (v2 : (List Nat)) : Option (Int × Int) :=
  (figure_rateError v1).bind fun v5 =>
  (figure_refuse (decide ((v2.length : Int) = 0)) 10).bind fun v6 =>
  (figure_refuse (decide ((v2.length : Int) > 1024)) 8).bind fun v7 =>
  (figure_firstError ([v5, v6, v7] : List Int)).bind fun v8 =>
  if (decide (v8 ≠ 0)) = true then
    (some (0, v8))
  else
    ((run (figure_CheckResponse_l1 v2) 0).bind fun v16 => match v16 with
    | (.inl (v17, v18)) =>
      some (v17, v18)
    | (.inr _) =>
      some (0, 0))

end Go.Rex

namespace Go.Rex
open Go Go.Rex
noncomputable def figure_CheckAsk (v1 : Int) (v2 : (List Nat)) (v3 : Int) (v4 : Int) : Option (Int × Int) :=
  (figure_CheckResponse v1 v2).bind fun (v7, v8) =>
  if (decide (v8 ≠ 0)) = true then
    (some (v7, v8))
  else
    ((figure_within v3 0 32767).bind fun v9 =>
    (figure_within v4 0 1000000000000).bind fun v10 =>
    (figure_firstError ([v9, v10] : List Int)).bind fun v11 =>
    some (0, v11))

end Go.Rex

namespace Go.Rex
open Go Go.Rex
noncomputable def figure_hear (v1 : Int) (v2 : (List Nat)) (v3 : Int) (v4 : Int) : Option (Int × (List Nat) × Int × Int × Int) :=
  (figure_CheckAsk v1 v2 v3 v4).bind fun (v10, v11) =>
  some (v1, v2, v3, v4, v11)

end Go.Rex

namespace Go.Rex
open Go Go.Rex
noncomputable def figure_heard_count (v1 : Int) (v2 : (List Nat)) (v3 : Int) (v4 : Int) : Option (Int) :=
  some ((v2.length : Int))

end Go.Rex

namespace Go.Rex
open Go Go.Rex
noncomputable def figure_between (v1 : Int) (v2 : Int) : Option (Int × Int) :=
  some (v1, v2)

end Go.Rex

namespace Go.Rex
open Go Go.Rex
noncomputable def figure_heard_behind (v1 : Int) (v2 : (List Nat)) (v3 : Int) (v4 : Int) : Option (Int × Int) :=
  (figure_between 0 v4).bind fun (v7, v8) =>
  some (v7, v8)

end Go.Rex

namespace Go.Rex
open Go Go.Rex
noncomputable def figure_heard_square (v1 : Int) (v2 : (List Nat)) (v3 : Int) (v4 : Int) (v5 : Int) : Option (Int × Int) :=
  (getI v2 v5).bind fun v8 =>
  (f2i .f32 v8 .i64).bind fun v9 =>
  (figure_between (IntKind.i64.wrap ((if 0 > (IntKind.i64.wrap ((if (IntKind.i64.wrap (0 - v9)) > v9 then (IntKind.i64.wrap (0 - v9)) else v9) - v3)) then 0 else (IntKind.i64.wrap ((if (IntKind.i64.wrap (0 - v9)) > v9 then (IntKind.i64.wrap (0 - v9)) else v9) - v3))) * (if 0 > (IntKind.i64.wrap ((if (IntKind.i64.wrap (0 - v9)) > v9 then (IntKind.i64.wrap (0 - v9)) else v9) - v3)) then 0 else (IntKind.i64.wrap ((if (IntKind.i64.wrap (0 - v9)) > v9 then (IntKind.i64.wrap (0 - v9)) else v9) - v3))))) (IntKind.i64.wrap ((IntKind.i64.wrap ((if (IntKind.i64.wrap (0 - v9)) > v9 then (IntKind.i64.wrap (0 - v9)) else v9) + v3)) * (IntKind.i64.wrap ((if (IntKind.i64.wrap (0 - v9)) > v9 then (IntKind.i64.wrap (0 - v9)) else v9) + v3))))).bind fun (v10, v11) =>
  some (v10, v11)

end Go.Rex

namespace Go.Rex
open Go Go.Rex
noncomputable def figure_ends_plus (v1 : Int) (v2 : Int) (v3 : Int) (v4 : Int) : Option (Int × Int) :=
  (figure_between (IntKind.i64.wrap (v1 + v3)) (IntKind.i64.wrap (v2 + v4))).bind fun (v7, v8) =>
  some (v7, v8)

end Go.Rex

namespace Go.Rex
open Go Go.Rex
noncomputable def figure_heard_sums_l1 (v1 : Int) (v2 : (List Nat)) (v3 : Int) (v4 : Int) : ((List (Int × Int)) × Int) → Option (((List (Int × Int)) × Int) ⊕ (((List (Int × Int))))) := fun (v14, v15) =>
  if (decide (v15 ≥ 0)) = true then
    ((getI v14 (IntKind.i64.wrap (v15 + 1))).bind fun (v25, v26) =>
    (figure_heard_square v1 v2 v3 v4 v15).bind fun (v27, v28) =>
    (figure_ends_plus v25 v26 v27 v28).bind fun (v29, v30) =>
    (getI v14 v15).bind fun (v31, v32) =>
    some (.inl ((v14.set v15.toNat (v29, v30)), (IntKind.i64.wrap (v15 - 1)))))
  else
    (some (.inr v14))
noncomputable def figure_heard_sums (v1 : Int) (v2 : (List Nat)) (v3 : Int) (v4 : Int) : Option ((List (Int × Int))) :=
  (figure_heard_count v1 v2 v3 v4).bind fun v6 =>
  (mkI 16 (IntKind.i64.wrap (v6 + 1)) ((0, 0) : (Int × Int))).bind fun v7 =>
  (figure_heard_count v1 v2 v3 v4).bind fun v8 =>
  (figure_heard_behind v1 v2 v3 v4).bind fun (v9, v10) =>
  (getI v7 v8).bind fun (v11, v12) =>
  (figure_heard_count v1 v2 v3 v4).bind fun v13 =>
  (run (figure_heard_sums_l1 v1 v2 v3 v4) ((v7.set v8.toNat (v9, v10)), (IntKind.i64.wrap (v13 - 1)))).bind fun v33 =>
  some (v33)

end Go.Rex

namespace Go.Rex
open Go Go.Rex
noncomputable def figure_SumsWithin_l1 (v12 : (List (Int × Int))) (v14 : Nat) : ((List (Int × Int)) × Int) → Option (((List (Int × Int)) × Int) ⊕ (((List (Int × Int))))) := fun (v15, v16) =>
  if (decide (v16 < (v14 : Int))) = true then
    ((getI (v12.take v14) v16).bind fun (v21, v22) =>
    (appI 16 v15 ([(v21, v22)] : List (Int × Int))).bind fun v23 =>
    some (.inl (v23, (IntKind.i64.wrap (v16 + 1)))))
  else
    (some (.inr v15))
noncomputable def figure_SumsWithin (v1 : Int) (v2 : (List Nat)) (v3 : Int) (v4 : Int) : Option ((List (Int × Int)) × Int) :=
  (figure_hear v1 v2 v3 v4).bind fun (v7, v8, v9, v10, v11) =>
  if (decide (v11 ≠ 0)) = true then
    (some (([] : List (Int × Int)), v11))
  else
    ((figure_heard_sums v7 v8 v9 v10).bind fun v12 =>
    (figure_heard_count v7 v8 v9 v10).bind fun v13 =>
    (cutI v12 v13).bind fun v14 =>
    (run (figure_SumsWithin_l1 v12 v14) (([] : List (Int × Int)), 0)).bind fun v24 =>
    some (v24, 0))

end Go.Rex

namespace Go.Rex
open Go Go.Rex
noncomputable def figure_kindError (v1 : Int) : Option (Int) :=
  if (decide (v1 < 0)) = true then
    ((figure_refuse true 15).bind fun v3 =>
    some (v3))
  else
    ((figure_refuse (decide (v1 ≥ 3)) 15).bind fun v4 =>
    some (v4))

end Go.Rex

namespace Go.Rex
open Go Go.Rex
noncomputable def figure_heard_all (v1 : Int) (v2 : (List Nat)) (v3 : Int) (v4 : Int) : Option (Int × Int) :=
  (figure_heard_sums v1 v2 v3 v4).bind fun v7 =>
  (getI v7 0).bind fun (v8, v9) =>
  some (v8, v9)

end Go.Rex

namespace Go.Rex
open Go Go.Rex
noncomputable def figure_tenTo_l1 (v1 : Int) : (Int × Int) → Option ((Int × Int) ⊕ ((Int))) := fun (v3, v4) =>
  if (decide (v4 < v1)) = true then
    (some (.inl ((IntKind.i64.wrap (v3 * 10)), (IntKind.i64.wrap (v4 + 1)))))
  else
    (some (.inr v3))
noncomputable def figure_tenTo (v1 : Int) : Option (Int) :=
  (run (figure_tenTo_l1 v1) (1, 0)).bind fun v6 =>
  some (v6)

end Go.Rex

namespace Go.Rex
open Go Go.Rex
noncomputable def math_bits_Mul64 (v1 : Int) (v2 : Int) : Option (Int × Int) :=
  (shI .shr .u64 v1 32).bind fun v5 =>
  (shI .shr .u64 v2 32).bind fun v6 =>
  (shI .shr .u64 (IntKind.u64.wrap ((bitI .and .u64 v1 4294967295) * (bitI .and .u64 v2 4294967295))) 32).bind fun v7 =>
  (shI .shr .u64 (IntKind.u64.wrap ((IntKind.u64.wrap (v5 * (bitI .and .u64 v2 4294967295))) + v7)) 32).bind fun v8 =>
  (shI .shr .u64 (IntKind.u64.wrap ((bitI .and .u64 (IntKind.u64.wrap ((IntKind.u64.wrap (v5 * (bitI .and .u64 v2 4294967295))) + v7)) 4294967295) + (IntKind.u64.wrap ((bitI .and .u64 v1 4294967295) * v6)))) 32).bind fun v9 =>
  some ((IntKind.u64.wrap ((IntKind.u64.wrap ((IntKind.u64.wrap (v5 * v6)) + v8)) + v9)), (IntKind.u64.wrap (v1 * v2)))

end Go.Rex

namespace Go.Rex
open Go Go.Rex
noncomputable def figure_product (v1 : Int) (v2 : Int) : Option (Int × Int) :=
  (math_bits_Mul64 (IntKind.u64.wrap v1) (IntKind.u64.wrap v2)).bind fun (v5, v6) =>
  some (v5, v6)

end Go.Rex

namespace Go.Rex
open Go Go.Rex
noncomputable def figure_wide_isAtMost (v1 : Int) (v2 : Int) (v3 : Int) (v4 : Int) : Option (Bool) :=
  if (decide (v1 < v3)) = true then
    (some (true))
  else
    (if (decide (v1 = v3)) = true then
      (some ((decide (v2 ≤ v4))))
    else
      (some (false)))

end Go.Rex

namespace Go.Rex
open Go Go.Rex
noncomputable def figure_isPassed (v1 : Int) (v2 : Int) (v3 : Int) : Option (Bool) :=
  (figure_tenTo (IntKind.i64.wrap (v3.tdiv 2))).bind fun v5 =>
  (figure_tenTo (IntKind.i64.wrap (v3 - (IntKind.i64.wrap (v3.tdiv 2))))).bind fun v6 =>
  (figure_product (IntKind.i64.wrap (v2 * v5)) (IntKind.i64.wrap (v2 * v6))).bind fun (v7, v8) =>
  (figure_product v1 v1).bind fun (v9, v10) =>
  (figure_wide_isAtMost v7 v8 v9 v10).bind fun v11 =>
  some (v11)

end Go.Rex

namespace Go.Rex
open Go Go.Rex
noncomputable def figure_heard_passing_c1_4410 (v1 : Int) (v2 : Int) (v3 : (List (Int × Int))) (v4 : Int) : Option (Bool) :=
  (getI v3 0).bind fun (v6, v7) =>
  (figure_isPassed v7 v1 v4).bind fun v8 =>
  some (v8)

end Go.Rex

namespace Go.Rex
open Go Go.Rex
noncomputable def slices_IndexFunc_figure_ends_figure_ends_f4f3_l1 (v1 : (List (Int × Int))) (v2 : (List (Int × Int))) (v3 : Int) : (Int) → Option ((Int) ⊕ ((Int) ⊕ (Unit))) := fun v5 =>
  if (decide (v5 < (v1.length : Int))) = true then
    ((getI v1 v5).bind fun (v10, v11) =>
    (figure_heard_passing_c1_4410 v10 v11 v2 v3).bind fun v12 =>
    if v12 = true then
      (some (.inr (.inl v5)))
    else
      (some (.inl (IntKind.i64.wrap (v5 + 1)))))
  else
    (some (.inr (.inr ())))
noncomputable def slices_IndexFunc_figure_ends_figure_ends_f4f3 (v1 : (List (Int × Int))) (v2 : (List (Int × Int))) (v3 : Int) : Option (Int) :=
  (run (slices_IndexFunc_figure_ends_figure_ends_f4f3_l1 v1 v2 v3) 0).bind fun v13 => match v13 with
  | (.inl v14) =>
    some (v14)
  | (.inr _) =>
    some ((-1))

end Go.Rex

namespace Go.Rex
open Go Go.Rex
noncomputable def figure_heard_passing_c2_4410 (v1 : Int) (v2 : Int) (v3 : (List (Int × Int))) (v4 : Int) : Option (Bool) :=
  (getI v3 0).bind fun (v6, v7) =>
  (figure_isPassed v6 v2 v4).bind fun v8 =>
  some (v8)

end Go.Rex

namespace Go.Rex
open Go Go.Rex
noncomputable def slices_IndexFunc_figure_ends_figure_ends_da95_l1 (v1 : (List (Int × Int))) (v2 : (List (Int × Int))) (v3 : Int) : (Int) → Option ((Int) ⊕ ((Int) ⊕ (Unit))) := fun v5 =>
  if (decide (v5 < (v1.length : Int))) = true then
    ((getI v1 v5).bind fun (v10, v11) =>
    (figure_heard_passing_c2_4410 v10 v11 v2 v3).bind fun v12 =>
    if v12 = true then
      (some (.inr (.inl v5)))
    else
      (some (.inl (IntKind.i64.wrap (v5 + 1)))))
  else
    (some (.inr (.inr ())))
noncomputable def slices_IndexFunc_figure_ends_figure_ends_da95 (v1 : (List (Int × Int))) (v2 : (List (Int × Int))) (v3 : Int) : Option (Int) :=
  (run (slices_IndexFunc_figure_ends_figure_ends_da95_l1 v1 v2 v3) 0).bind fun v13 => match v13 with
  | (.inl v14) =>
    some (v14)
  | (.inr _) =>
    some ((-1))

end Go.Rex

namespace Go.Rex
open Go Go.Rex
noncomputable def figure_heard_passing (v1 : Int) (v2 : (List Nat)) (v3 : Int) (v4 : Int) (v5 : Int) : Option (Int × Int × Int) :=
  (figure_heard_sums v1 v2 v3 v4).bind fun v9 =>
  (slices_IndexFunc_figure_ends_figure_ends_f4f3 v9 v9 v5).bind fun v10 =>
  (slices_IndexFunc_figure_ends_figure_ends_da95 v9 v9 v5).bind fun v11 =>
  if (decide (v11 < 0)) = true then
    (some (0, 0, 12))
  else
    ((figure_heard_count v1 v2 v3 v4).bind fun v12 =>
    if (decide (v11 = v12)) = true then
      (some (0, 0, 12))
    else
      ((figure_between (if 0 > (IntKind.i64.wrap (v10 - 1)) then 0 else (IntKind.i64.wrap (v10 - 1))) v11).bind fun (v13, v14) =>
      some (v13, v14, 0)))

end Go.Rex

namespace Go.Rex
open Go Go.Rex
noncomputable def figure_ends_less (v1 : Int) (v2 : Int) (v3 : Int) (v4 : Int) : Option (Int × Int) :=
  (figure_between (if 0 > (IntKind.i64.wrap (v1 - v4)) then 0 else (IntKind.i64.wrap (v1 - v4))) (IntKind.i64.wrap (v2 - v3))).bind fun (v7, v8) =>
  some (v7, v8)

end Go.Rex

namespace Go.Rex
open Go Go.Rex
noncomputable def figure_ends_times (v1 : Int) (v2 : Int) (v3 : Int) : Option (Int × Int) :=
  (figure_between (IntKind.i64.wrap (v1 * v3)) (IntKind.i64.wrap (v2 * v3))).bind fun (v6, v7) =>
  some (v6, v7)

end Go.Rex

namespace Go.Rex
open Go Go.Rex
noncomputable def figure_down (v1 : Int) (v2 : Int) : Option (Int) :=
  if v2 = 0 then none else
  (some ((IntKind.i64.wrap (v1.tdiv v2))))

end Go.Rex

namespace Go.Rex
open Go Go.Rex
noncomputable def figure_up (v1 : Int) (v2 : Int) : Option (Int) :=
  if v2 = 0 then none else
  (some ((IntKind.i64.wrap ((IntKind.i64.wrap ((IntKind.i64.wrap (v1 + v2)) - 1)).tdiv v2))))

end Go.Rex

namespace Go.Rex
open Go Go.Rex
noncomputable def figure_heard_time (v1 : Int) (v2 : (List Nat)) (v3 : Int) (v4 : Int) (v5 : Int) (v6 : Int) : Option (Int × Int) :=
  (figure_ends_times v5 v6 1000000).bind fun (v9, v10) =>
  (figure_down v9 v1).bind fun v11 =>
  (figure_up v10 v1).bind fun v12 =>
  (figure_between v11 v12).bind fun (v13, v14) =>
  some (v13, v14)

end Go.Rex

namespace Go.Rex
open Go Go.Rex
noncomputable def figure_heard_decay (v1 : Int) (v2 : (List Nat)) (v3 : Int) (v4 : Int) (v5 : Int) : Option (Int × Int × Int) :=
  (figure_heard_all v1 v2 v3 v4).bind fun (v9, v10) =>
  if (decide (v9 = 0)) = true then
    (some (0, 0, 11))
  else
    ((getI ([(0, 2, 6), (1, 5, 3), (1, 7, 2)] : List (Int × Int × Int)) v5).bind fun (v11, v12, v13) =>
    if (decide (v11 > 0)) = true then
      ((figure_heard_passing v1 v2 v3 v4 v11).bind fun (v14, v15, v16) =>
      if (decide (v16 ≠ 0)) = true then
        (some (0, 0, v16))
      else
        ((figure_heard_passing v1 v2 v3 v4 v12).bind fun (v17, v18, v19) =>
        if (decide (v19 ≠ 0)) = true then
          (some (0, 0, v19))
        else
          ((figure_ends_less v17 v18 v14 v15).bind fun (v20, v21) =>
          (figure_ends_times v20 v21 v13).bind fun (v22, v23) =>
          (figure_heard_time v1 v2 v3 v4 v22 v23).bind fun (v24, v25) =>
          some (v24, v25, 0))))
    else
      ((figure_heard_passing v1 v2 v3 v4 v12).bind fun (v26, v27, v28) =>
      if (decide (v28 ≠ 0)) = true then
        (some (0, 0, v28))
      else
        ((figure_ends_less v26 v27 0 0).bind fun (v29, v30) =>
        (figure_ends_times v29 v30 v13).bind fun (v31, v32) =>
        (figure_heard_time v1 v2 v3 v4 v31 v32).bind fun (v33, v34) =>
        some (v33, v34, 0))))

end Go.Rex

namespace Go.Rex
open Go Go.Rex
noncomputable def figure_DecayWithin (v1 : Int) (v2 : (List Nat)) (v3 : Int) (v4 : Int) (v5 : Int) : Option (Int × Int × Int) :=
  (figure_hear v1 v2 v3 v4).bind fun (v9, v10, v11, v12, v13) =>
  (figure_kindError v5).bind fun v14 =>
  (figure_firstError ([v13, v14] : List Int)).bind fun v15 =>
  if (decide (v15 ≠ 0)) = true then
    (some (0, 0, v15))
  else
    ((figure_heard_decay v9 v10 v11 v12 v5).bind fun (v16, v17, v18) =>
    some (v16, v17, v18))

end Go.Rex

namespace Go.Rex
open Go Go.Rex
noncomputable def figure_timeError (v1 : Int) : Option (Int) :=
  (figure_within v1 0 1000000).bind fun v3 =>
  some (v3)

end Go.Rex

namespace Go.Rex
open Go Go.Rex
noncomputable def figure_sampleAt (v1 : Int) (v2 : Int) : Option (Int) :=
  (figure_up (IntKind.i64.wrap (v2 * v1)) 1000000).bind fun v4 =>
  some (v4)

end Go.Rex

namespace Go.Rex
open Go Go.Rex
noncomputable def figure_heard_split (v1 : Int) (v2 : (List Nat)) (v3 : Int) (v4 : Int) (v5 : Int) : Option (Int) :=
  (figure_sampleAt v1 v5).bind fun v7 =>
  (figure_heard_count v1 v2 v3 v4).bind fun v8 =>
  some ((if v8 < v7 then v8 else v7))

end Go.Rex

namespace Go.Rex
open Go Go.Rex
noncomputable def figure_heard_energy_l1 (v1 : Int) (v2 : (List Nat)) (v3 : Int) (v4 : Int) (v6 : Int) : (Int × Int × Int) → Option ((Int × Int × Int) ⊕ ((Int × Int))) := fun (v9, v10, v11) =>
  if (decide (v11 < v6)) = true then
    ((figure_heard_square v1 v2 v3 v4 v11).bind fun (v18, v19) =>
    (figure_ends_plus v9 v10 v18 v19).bind fun (v20, v21) =>
    some (.inl (v20, v21, (IntKind.i64.wrap (v11 + 1)))))
  else
    (some (.inr (v9, v10)))
noncomputable def figure_heard_energy (v1 : Int) (v2 : (List Nat)) (v3 : Int) (v4 : Int) (v5 : Int) (v6 : Int) : Option (Int × Int) :=
  (run (figure_heard_energy_l1 v1 v2 v3 v4 v6) (0, 0, v5)).bind fun (v22, v23) =>
  some (v22, v23)

end Go.Rex

namespace Go.Rex
open Go Go.Rex
noncomputable def figure_heard_early (v1 : Int) (v2 : (List Nat)) (v3 : Int) (v4 : Int) (v5 : Int) : Option (Int × Int) :=
  (figure_heard_split v1 v2 v3 v4 v5).bind fun v8 =>
  (figure_heard_energy v1 v2 v3 v4 0 v8).bind fun (v9, v10) =>
  some (v9, v10)

end Go.Rex

namespace Go.Rex
open Go Go.Rex
noncomputable def figure_heard_late (v1 : Int) (v2 : (List Nat)) (v3 : Int) (v4 : Int) (v5 : Int) : Option (Int × Int) :=
  (figure_heard_sums v1 v2 v3 v4).bind fun v8 =>
  (figure_heard_split v1 v2 v3 v4 v5).bind fun v9 =>
  (getI v8 v9).bind fun (v10, v11) =>
  some (v10, v11)

end Go.Rex

namespace Go.Rex
open Go Go.Rex
noncomputable def figure_heard_definition (v1 : Int) (v2 : (List Nat)) (v3 : Int) (v4 : Int) (v5 : Int) : Option (Int × Int × Int) :=
  (figure_heard_early v1 v2 v3 v4 v5).bind fun (v9, v10) =>
  (figure_heard_late v1 v2 v3 v4 v5).bind fun (v11, v12) =>
  if (decide (v9 = 0)) = true then
    (if (decide (v11 = 0)) = true then
      (some (0, 0, 11))
    else
      ((figure_ends_times v9 v10 1000).bind fun (v13, v14) =>
      (figure_down v13 (IntKind.i64.wrap (v9 + v12))).bind fun v15 =>
      (figure_up v14 (IntKind.i64.wrap (v10 + v11))).bind fun v16 =>
      (figure_between v15 v16).bind fun (v17, v18) =>
      some (v17, v18, 0)))
  else
    ((figure_ends_times v9 v10 1000).bind fun (v19, v20) =>
    (figure_down v19 (IntKind.i64.wrap (v9 + v12))).bind fun v21 =>
    (figure_up v20 (IntKind.i64.wrap (v10 + v11))).bind fun v22 =>
    (figure_between v21 v22).bind fun (v23, v24) =>
    some (v23, v24, 0))

end Go.Rex

namespace Go.Rex
open Go Go.Rex
noncomputable def figure_DefinitionWithin (v1 : Int) (v2 : (List Nat)) (v3 : Int) (v4 : Int) (v5 : Int) : Option (Int × Int × Int) :=
  (figure_hear v1 v2 v3 v4).bind fun (v9, v10, v11, v12, v13) =>
  (figure_timeError v5).bind fun v14 =>
  (figure_firstError ([v13, v14] : List Int)).bind fun v15 =>
  if (decide (v15 ≠ 0)) = true then
    (some (0, 0, v15))
  else
    ((figure_heard_definition v9 v10 v11 v12 v5).bind fun (v16, v17, v18) =>
    some (v16, v17, v18))

end Go.Rex

namespace Go.Rex
open Go Go.Rex
noncomputable def top_TopLongerTail_l1 (v19 : (List (Int × Int))) (v21 : (List (Int × Int))) : (Int) → Option ((Int) ⊕ ((Unit) ⊕ (Unit))) := fun v23 =>
  if (decide (v23 < (v19.length : Int))) = true then
    ((getI v21 v23).bind fun (v28, v29) =>
    (getI v19 v23).bind fun (v30, v31) =>
    if (decide (v28 > v30)) = true then
      (some (.inr (.inl ())))
    else
      (if (decide (v29 < v31)) = true then
        (some (.inr (.inl ())))
      else
        (some (.inl (IntKind.i64.wrap (v23 + 1))))))
  else
    (some (.inr (.inr ())))
noncomputable def top_TopLongerTail_l2 (v3 : Int) (v4 : Int) (v5 : Int) (v6 : Int) (v15 : Int) (v16 : (List Nat)) (v17 : Int) (v18 : (List Nat)) : (Int) → Option ((Int) ⊕ ((Unit) ⊕ (Unit))) := fun v33 =>
  if (decide (v33 ≤ 2)) = true then
    ((figure_DecayWithin v17 v18 v3 v4 v33).bind fun (v40, v41, v42) =>
    (figure_DecayWithin v15 v16 (IntKind.i64.wrap (v3 + v5)) (IntKind.i64.wrap (v4 + v6)) v33).bind fun (v43, v44, v45) =>
    if (decide (v45 = 0)) = true then
      (if (decide (v42 ≠ 0)) = true then
        (some (.inr (.inl ())))
      else
        (if (decide (v43 > v40)) = true then
          (some (.inr (.inl ())))
        else
          (if (decide (v44 < v41)) = true then
            (some (.inr (.inl ())))
          else
            (some (.inl (IntKind.i64.wrap (v33 + 1)))))))
    else
      (some (.inl (IntKind.i64.wrap (v33 + 1)))))
  else
    (some (.inr (.inr ())))
noncomputable def top_TopLongerTail (v1 : Int) (v2 : (List Nat)) (v3 : Int) (v4 : Int) (v5 : Int) (v6 : Int) (v7 : Int) : Option Bool :=
  (law05_Few v1 v2).bind fun v9 =>
  if v9 = true then
    ((base_Within v5 0 1000).bind fun v10 =>
    if v10 = true then
      ((base_Within v6 0 1000000).bind fun v11 =>
      if v11 = true then
        ((base_Within v3 0 31767).bind fun v12 =>
        if v12 = true then
          ((base_Within v4 0 999999000000).bind fun v13 =>
          if v13 = true then
            ((base_Within v7 0 1000000).bind fun v14 =>
            if v14 = true then
              ((base_CopyResponse v1 v2).bind fun (v15, v16) =>
              (base_CopyResponse v1 v2).bind fun (v17, v18) =>
              (figure_SumsWithin v17 v18 v3 v4).bind fun (v19, v20) =>
              (figure_SumsWithin v15 v16 (IntKind.i64.wrap (v3 + v5)) (IntKind.i64.wrap (v4 + v6))).bind fun (v21, v22) =>
              if (decide (v20 ≠ 0)) = true then
                (some ((decide (v22 = v20))))
              else
                (if (decide (v22 ≠ 0)) = true then
                  (some (false))
                else
                  (if (decide ((v19.length : Int) ≠ (v21.length : Int))) = true then
                    (some (false))
                  else
                    (if (decide ((v19.length : Int) ≠ (v2.length : Int))) = true then
                      (some (false))
                    else
                      ((run (top_TopLongerTail_l1 v19 v21) 0).bind fun v32 => match v32 with
                      | (.inl _) =>
                        some (false)
                      | (.inr _) =>
                        (run (top_TopLongerTail_l2 v3 v4 v5 v6 v15 v16 v17 v18) 0).bind fun v46 => match v46 with
                        | (.inl _) =>
                          some (false)
                        | (.inr _) =>
                          (figure_DefinitionWithin v17 v18 v3 v4 v7).bind fun (v47, v48, v49) =>
                          (figure_DefinitionWithin v15 v16 (IntKind.i64.wrap (v3 + v5)) (IntKind.i64.wrap (v4 + v6)) v7).bind fun (v50, v51, v52) =>
                          if (decide (v52 ≠ 0)) = true then
                            (some (true))
                          else
                            (if (decide (v49 = 0)) = true then
                              (if (decide (v50 ≤ v47)) = true then
                                (some ((decide (v51 ≥ v48))))
                              else
                                (some (false)))
                            else
                              (some (false))))))))
            else
              (some (true)))
          else
            (some (true)))
        else
          (some (true)))
      else
        (some (true)))
    else
      (some (true)))
  else
    (some (true))

end Go.Rex

namespace Go.Rex
open Go Go.Rex
noncomputable def base_IsWhole (v1 : Nat) : Option (Bool) :=
  if (fcmp .neq .f64 v1 v1) = true then
    (some (false))
  else
    ((farith .sub .f64 v1 v1).bind fun v3 =>
    if (fcmp .neq .f64 v3 0) = true then
      (some (false))
    else
      (if (fcmp .geq .f64 v1 14069741636278059008) = true then
        (if (fcmp .leq .f64 v1 4846369599423283200) = true then
          ((f2i .f64 v1 .i64).bind fun v4 =>
          some ((fcmp .eql .f64 (FloatKind.f64.nearest v4) v1)))
        else
          (some (true)))
      else
        (some (true))))

end Go.Rex

namespace Go.Rex
open Go Go.Rex
noncomputable def ref05_isRate (v1 : Int) : Option (Bool) :=
  (base_Within v1 8000 192000).bind fun v3 =>
  some (v3)

end Go.Rex

namespace Go.Rex
open Go Go.Rex
noncomputable def ref05_CheckResponse_l1 (v2 : (List Nat)) : (Int) → Option ((Int) ⊕ ((Int × Int) ⊕ (Unit))) := fun v6 =>
  if (decide (v6 < (v2.length : Int))) = true then
    ((getI v2 v6).bind fun v12 =>
    (f2f .f32 v12 .f64).bind fun v13 =>
    (base_IsWhole v13).bind fun v14 =>
    if v14 = true then
      (if (fcmp .gtr .f64 v13 4674736138332667904) = true then
        (some (.inr (.inl (v6, 2))))
      else
        (if (fcmp .lss .f64 v13 13898108175187443712) = true then
          (some (.inr (.inl (v6, 2))))
        else
          (some (.inl (IntKind.i64.wrap (v6 + 1))))))
    else
      (some (.inr (.inl (v6, 27)))))
  else
    (some (.inr (.inr ())))
noncomputable def ref05_CheckResponse (v1 : Int) (v2 : (List Nat)) : Option (Int × Int) :=
  (ref05_isRate v1).bind fun v5 =>
  if v5 = true then
    (if (decide ((v2.length : Int) = 0)) = true then
      (some (0, 10))
    else
      (if (decide ((v2.length : Int) > 1024)) = true then
        (some (0, 8))
      else
        ((run (ref05_CheckResponse_l1 v2) 0).bind fun v15 => match v15 with
        | (.inl (v16, v17)) =>
          some (v16, v17)
        | (.inr _) =>
          some (0, 0))))
  else
    (some (0, 2))

end Go.Rex

namespace Go.Rex
open Go Go.Rex
noncomputable def ref05_CheckAsk (v1 : Int) (v2 : (List Nat)) (v3 : Int) (v4 : Int) : Option (Int × Int) :=
  (ref05_CheckResponse v1 v2).bind fun (v7, v8) =>
  if (decide (v8 ≠ 0)) = true then
    (some (v7, v8))
  else
    ((base_Within v3 0 32767).bind fun v9 =>
    if v9 = true then
      ((base_Within v4 0 1000000000000).bind fun v10 =>
      if v10 = true then
        (some (0, 0))
      else
        (some (0, 2)))
    else
      (some (0, 2)))

end Go.Rex

namespace Go.Rex
open Go Go.Rex
noncomputable def ref05_Copy (v1 : Int) (v2 : (List Nat)) (v3 : Int) (v4 : Int) : Option (Int × (List Nat) × Int × Int) :=
  (base_CopyResponse v1 v2).bind fun (v9, v10) =>
  some (v9, v10, v3, v4)

end Go.Rex

namespace Go.Rex
open Go Go.Rex
noncomputable def figure_SampleAt (v1 : Int) (v2 : Int) : Option (Int × Int) :=
  (figure_rateError v1).bind fun v5 =>
  (figure_timeError v2).bind fun v6 =>
  (figure_firstError ([v5, v6] : List Int)).bind fun v7 =>
  if (decide (v7 ≠ 0)) = true then
    (some (0, v7))
  else
    ((figure_sampleAt v1 v2).bind fun v8 =>
    some (v8, 0))

end Go.Rex

namespace Go.Rex
open Go Go.Rex
noncomputable def ref05_TimeErr (v1 : Int) : Option (Int) :=
  (base_Within v1 0 1000000).bind fun v3 =>
  if v3 = true then
    (some (0))
  else
    (some (2))

end Go.Rex

namespace Go.Rex
open Go Go.Rex
noncomputable def base_Floor (v1 : Int) (v2 : Int) : Option (Int) :=
  if v2 = 0 then none else
  (if (decide ((v1.tmod v2) < 0)) = true then
    (some ((IntKind.i64.wrap ((IntKind.i64.wrap (v1.tdiv v2)) - 1))))
  else
    (some ((IntKind.i64.wrap (v1.tdiv v2)))))

end Go.Rex

namespace Go.Rex
open Go Go.Rex
noncomputable def base_Ceil (v1 : Int) (v2 : Int) : Option (Int) :=
  (base_Floor (IntKind.i64.wrap (0 - v1)) v2).bind fun v4 =>
  some ((IntKind.i64.wrap (0 - v4)))

end Go.Rex

namespace Go.Rex
open Go Go.Rex
noncomputable def ref05_SampleAt (v1 : Int) (v2 : Int) : Option (Int × Int) :=
  (ref05_isRate v1).bind fun v5 =>
  if v5 = true then
    ((ref05_TimeErr v2).bind fun v6 =>
    if (decide (v6 ≠ 0)) = true then
      (some (0, v6))
    else
      ((base_Ceil (IntKind.i64.wrap (v2 * v1)) 1000000).bind fun v7 =>
      some (v7, 0)))
  else
    (some (0, 2))

end Go.Rex

namespace Go.Rex
open Go Go.Rex
noncomputable def law05_FigureResponses (v1 : Int) (v2 : (List Nat)) (v3 : Int) (v4 : Int) (v5 : Int) (v6 : Int) : Option Bool :=
  (law05_Few v1 v2).bind fun v8 =>
  if v8 = true then
    ((base_CopyResponse v1 v2).bind fun (v9, v10) =>
    (figure_CheckResponse v9 v10).bind fun (v11, v12) =>
    (ref05_Copy v1 v2 v3 v4).bind fun (v13, v14, v15, v16) =>
    (figure_CheckAsk v13 v14 v15 v16).bind fun (v17, v18) =>
    (figure_SampleAt v5 v6).bind fun (v19, v20) =>
    (ref05_CheckResponse v1 v2).bind fun (v21, v22) =>
    (ref05_CheckAsk v1 v2 v3 v4).bind fun (v23, v24) =>
    (ref05_SampleAt v5 v6).bind fun (v25, v26) =>
    if (decide (v12 = v22)) = true then
      (if (decide (v11 = v21)) = true then
        (if (decide (v18 = v24)) = true then
          (if (decide (v17 = v23)) = true then
            (if (decide (v20 = v26)) = true then
              (some ((decide (v19 = v25))))
            else
              (some (false)))
          else
            (some (false)))
        else
          (some (false)))
      else
        (some (false)))
    else
      (some (false)))
  else
    (some (true))

end Go.Rex

namespace Go.Rex
open Go Go.Rex
noncomputable def figure_plain (v1 : Int) (v2 : (List Nat)) : Option (Int × (List Nat)) :=
  some (v1, v2)

end Go.Rex

namespace Go.Rex
open Go Go.Rex
noncomputable def figure_heard_windowError (v1 : Int) (v2 : (List Nat)) (v3 : Int) (v4 : Int) (v5 : Int) (v6 : Int) : Option (Int) :=
  (figure_heard_count v1 v2 v3 v4).bind fun v8 =>
  (figure_within v6 0 v8).bind fun v9 =>
  (figure_within v5 0 v6).bind fun v10 =>
  (figure_firstError ([v9, v10] : List Int)).bind fun v11 =>
  some (v11)

end Go.Rex

namespace Go.Rex
open Go Go.Rex
noncomputable def figure_EnergyWithin (v1 : Int) (v2 : (List Nat)) (v3 : Int) (v4 : Int) (v5 : Int) (v6 : Int) : Option (Int × Int × Int) :=
  (figure_hear v1 v2 v3 v4).bind fun (v10, v11, v12, v13, v14) =>
  (figure_heard_windowError v10 v11 v12 v13 v5 v6).bind fun v15 =>
  (figure_firstError ([v14, v15] : List Int)).bind fun v16 =>
  if (decide (v16 ≠ 0)) = true then
    (some (0, 0, v16))
  else
    ((figure_heard_energy v10 v11 v12 v13 v5 v6).bind fun (v17, v18) =>
    (figure_heard_count v10 v11 v12 v13).bind fun v19 =>
    if (decide (v6 = v19)) = true then
      ((figure_heard_behind v10 v11 v12 v13).bind fun (v20, v21) =>
      (figure_ends_plus v17 v18 v20 v21).bind fun (v22, v23) =>
      some (v22, v23, 0))
    else
      (some (v17, v18, 0)))

end Go.Rex

namespace Go.Rex
open Go Go.Rex
noncomputable def figure_Energy (v1 : Int) (v2 : (List Nat)) (v3 : Int) (v4 : Int) : Option (Int × Int) :=
  (figure_plain v1 v2).bind fun (v7, v8) =>
  (figure_EnergyWithin v7 v8 0 0 v3 v4).bind fun (v9, v10, v11) =>
  some (v9, v11)

end Go.Rex

namespace Go.Rex
open Go Go.Rex
noncomputable def ref05_ResponseErr (v1 : Int) (v2 : (List Nat)) : Option (Int) :=
  (ref05_CheckResponse v1 v2).bind fun (v4, v5) =>
  some (v5)

end Go.Rex

namespace Go.Rex
open Go Go.Rex
noncomputable def ref05_WindowErr (v1 : Int) (v2 : (List Nat)) (v3 : Int) (v4 : Int) : Option (Int) :=
  (base_Within v4 0 (v2.length : Int)).bind fun v6 =>
  if v6 = true then
    ((base_Within v3 0 v4).bind fun v7 =>
    if v7 = true then
      (some (0))
    else
      (some (2)))
  else
    (some (2))

end Go.Rex

namespace Go.Rex
open Go Go.Rex
noncomputable def ref05_Plain (v1 : Int) (v2 : (List Nat)) : Option (Int × (List Nat)) :=
  some (v1, v2)

end Go.Rex

namespace Go.Rex
open Go Go.Rex
noncomputable def base_Size (v1 : Int) : Option (Int) :=
  some ((if (IntKind.i64.wrap (0 - v1)) > v1 then (IntKind.i64.wrap (0 - v1)) else v1))

end Go.Rex

namespace Go.Rex
open Go Go.Rex
noncomputable def ref05_square (v1 : Int) (v2 : (List Nat)) (v3 : Int) (v4 : Int) (v5 : Int) : Option (Int × Int) :=
  (getI v2 v5).bind fun v8 =>
  (f2i .f32 v8 .i64).bind fun v9 =>
  (base_Size v9).bind fun v10 =>
  some ((IntKind.i64.wrap ((if (IntKind.i64.wrap (v10 - v3)) > 0 then (IntKind.i64.wrap (v10 - v3)) else 0) * (if (IntKind.i64.wrap (v10 - v3)) > 0 then (IntKind.i64.wrap (v10 - v3)) else 0))), (IntKind.i64.wrap ((IntKind.i64.wrap (v10 + v3)) * (IntKind.i64.wrap (v10 + v3)))))

end Go.Rex

namespace Go.Rex
open Go Go.Rex
noncomputable def ref05_EnergyWithin_l1 (v1 : Int) (v2 : (List Nat)) (v3 : Int) (v4 : Int) (v6 : Int) : (Int × Int × Int) → Option ((Int × Int × Int) ⊕ ((Int × Int))) := fun (v9, v10, v11) =>
  if (decide (v11 < v6)) = true then
    ((ref05_square v1 v2 v3 v4 v11).bind fun (v16, v17) =>
    some (.inl ((IntKind.i64.wrap (v9 + v16)), (IntKind.i64.wrap (v10 + v17)), (IntKind.i64.wrap (v11 + 1)))))
  else
    (some (.inr (v9, v10)))
noncomputable def ref05_EnergyWithin (v1 : Int) (v2 : (List Nat)) (v3 : Int) (v4 : Int) (v5 : Int) (v6 : Int) : Option (Int × Int) :=
  (run (ref05_EnergyWithin_l1 v1 v2 v3 v4 v6) (0, 0, v5)).bind fun (v18, v19) =>
  if (decide (v6 = (v2.length : Int))) = true then
    (some (v18, (IntKind.i64.wrap (v19 + v4))))
  else
    (some (v18, v19))

end Go.Rex

namespace Go.Rex
open Go Go.Rex
noncomputable def ref05_Energy (v1 : Int) (v2 : (List Nat)) (v3 : Int) (v4 : Int) : Option (Int) :=
  (ref05_Plain v1 v2).bind fun (v6, v7) =>
  (ref05_EnergyWithin v6 v7 0 0 v3 v4).bind fun (v8, v9) =>
  some (v8)

end Go.Rex

namespace Go.Rex
open Go Go.Rex
noncomputable def ref05_AskErr (v1 : Int) (v2 : (List Nat)) (v3 : Int) (v4 : Int) : Option (Int) :=
  (ref05_CheckAsk v1 v2 v3 v4).bind fun (v6, v7) =>
  some (v7)

end Go.Rex

namespace Go.Rex
open Go Go.Rex
noncomputable def law05_FigureEnergies (v1 : Int) (v2 : (List Nat)) (v3 : Int) (v4 : Int) (v5 : Int) (v6 : Int) : Option Bool :=
  (law05_Few v1 v2).bind fun v8 =>
  if v8 = true then
    ((base_CopyResponse v1 v2).bind fun (v9, v10) =>
    (figure_Energy v9 v10 v5 v6).bind fun (v11, v12) =>
    (ref05_Copy v1 v2 v3 v4).bind fun (v13, v14, v15, v16) =>
    (figure_EnergyWithin v13 v14 v15 v16 v5 v6).bind fun (v17, v18, v19) =>
    (ref05_ResponseErr v1 v2).bind fun v20 =>
    if (decide (v20 = 0)) = true then
      ((ref05_WindowErr v1 v2 v5 v6).bind fun v21 =>
      if (decide (v12 ≠ v21)) = true then
        (some (false))
      else
        (if (decide (v21 ≠ 0)) = true then
          (if (decide (v11 ≠ 0)) = true then
            (some (false))
          else
            (if (decide (v21 = 0)) = true then
              ((ref05_Energy v1 v2 v5 v6).bind fun v22 =>
              if (decide (v11 ≠ v22)) = true then
                (some (false))
              else
                ((ref05_AskErr v1 v2 v3 v4).bind fun v23 =>
                if (decide (v23 = 0)) = true then
                  (if (decide (v19 = v21)) = true then
                    (some (([v17 == 0, v18 == 0].all id)))
                  else
                    (some (false)))
                else
                  (if (decide (v23 ≠ 0)) = true then
                    (if (decide (v19 = v23)) = true then
                      (some (([v17 == 0, v18 == 0].all id)))
                    else
                      (some (false)))
                  else
                    (if (decide (v19 = 0)) = true then
                      ((ref05_EnergyWithin v1 v2 v3 v4 v5 v6).bind fun (v24, v25) =>
                      if ([v17 == v24, v18 == v25].all id) = true then
                        ((base_Within v11 v17 v18).bind fun v26 =>
                        some (v26))
                      else
                        (some (false)))
                    else
                      (some (false))))))
            else
              ((ref05_AskErr v1 v2 v3 v4).bind fun v27 =>
              if (decide (v27 = 0)) = true then
                (if (decide (v19 = v21)) = true then
                  (some (([v17 == 0, v18 == 0].all id)))
                else
                  (some (false)))
              else
                (if (decide (v27 ≠ 0)) = true then
                  (if (decide (v19 = v27)) = true then
                    (some (([v17 == 0, v18 == 0].all id)))
                  else
                    (some (false)))
                else
                  (if (decide (v19 = 0)) = true then
                    ((ref05_EnergyWithin v1 v2 v3 v4 v5 v6).bind fun (v28, v29) =>
                    if ([v17 == v28, v18 == v29].all id) = true then
                      ((base_Within v11 v17 v18).bind fun v30 =>
                      some (v30))
                    else
                      (some (false)))
                  else
                    (some (false)))))))
        else
          (if (decide (v21 = 0)) = true then
            ((ref05_Energy v1 v2 v5 v6).bind fun v31 =>
            if (decide (v11 ≠ v31)) = true then
              (some (false))
            else
              ((ref05_AskErr v1 v2 v3 v4).bind fun v32 =>
              if (decide (v32 = 0)) = true then
                (if (decide (v19 = 0)) = true then
                  ((ref05_EnergyWithin v1 v2 v3 v4 v5 v6).bind fun (v33, v34) =>
                  if ([v17 == v33, v18 == v34].all id) = true then
                    ((base_Within v11 v17 v18).bind fun v35 =>
                    some (v35))
                  else
                    (some (false)))
                else
                  (some (false)))
              else
                (if (decide (v32 ≠ 0)) = true then
                  (if (decide (v19 = v32)) = true then
                    (some (([v17 == 0, v18 == 0].all id)))
                  else
                    (some (false)))
                else
                  (if (decide (v19 = 0)) = true then
                    ((ref05_EnergyWithin v1 v2 v3 v4 v5 v6).bind fun (v36, v37) =>
                    if ([v17 == v36, v18 == v37].all id) = true then
                      ((base_Within v11 v17 v18).bind fun v38 =>
                      some (v38))
                    else
                      (some (false)))
                  else
                    (some (false))))))
          else
            ((ref05_AskErr v1 v2 v3 v4).bind fun v39 =>
            if (decide (v39 = 0)) = true then
              (if (decide (v19 = 0)) = true then
                ((ref05_EnergyWithin v1 v2 v3 v4 v5 v6).bind fun (v40, v41) =>
                if ([v17 == v40, v18 == v41].all id) = true then
                  ((base_Within v11 v17 v18).bind fun v42 =>
                  some (v42))
                else
                  (some (false)))
              else
                (some (false)))
            else
              (if (decide (v39 ≠ 0)) = true then
                (if (decide (v19 = v39)) = true then
                  (some (([v17 == 0, v18 == 0].all id)))
                else
                  (some (false)))
              else
                (if (decide (v19 = 0)) = true then
                  ((ref05_EnergyWithin v1 v2 v3 v4 v5 v6).bind fun (v43, v44) =>
                  if ([v17 == v43, v18 == v44].all id) = true then
                    ((base_Within v11 v17 v18).bind fun v45 =>
                    some (v45))
                  else
                    (some (false)))
                else
                  (some (false))))))))
    else
      (if (decide (v12 ≠ v20)) = true then
        (some (false))
      else
        (if (decide (v20 ≠ 0)) = true then
          (if (decide (v11 ≠ 0)) = true then
            (some (false))
          else
            ((ref05_AskErr v1 v2 v3 v4).bind fun v46 =>
            if (decide (v46 = 0)) = true then
              (if (decide (v19 = v20)) = true then
                (some (([v17 == 0, v18 == 0].all id)))
              else
                (some (false)))
            else
              (if (decide (v46 ≠ 0)) = true then
                (if (decide (v19 = v46)) = true then
                  (some (([v17 == 0, v18 == 0].all id)))
                else
                  (some (false)))
              else
                (if (decide (v19 = 0)) = true then
                  ((ref05_EnergyWithin v1 v2 v3 v4 v5 v6).bind fun (v47, v48) =>
                  if ([v17 == v47, v18 == v48].all id) = true then
                    ((base_Within v11 v17 v18).bind fun v49 =>
                    some (v49))
                  else
                    (some (false)))
                else
                  (some (false))))))
        else
          ((ref05_AskErr v1 v2 v3 v4).bind fun v50 =>
          if (decide (v50 = 0)) = true then
            (if (decide (v19 = 0)) = true then
              ((ref05_EnergyWithin v1 v2 v3 v4 v5 v6).bind fun (v51, v52) =>
              if ([v17 == v51, v18 == v52].all id) = true then
                ((base_Within v11 v17 v18).bind fun v53 =>
                some (v53))
              else
                (some (false)))
            else
              (some (false)))
          else
            (if (decide (v50 ≠ 0)) = true then
              (if (decide (v19 = v50)) = true then
                (some (([v17 == 0, v18 == 0].all id)))
              else
                (some (false)))
            else
              (if (decide (v19 = 0)) = true then
                ((ref05_EnergyWithin v1 v2 v3 v4 v5 v6).bind fun (v54, v55) =>
                if ([v17 == v54, v18 == v55].all id) = true then
                  ((base_Within v11 v17 v18).bind fun v56 =>
                  some (v56))
                else
                  (some (false)))
              else
                (some (false))))))))
  else
    (some (true))

end Go.Rex

namespace Go.Rex
open Go Go.Rex
noncomputable def figure_commonDivisor_l1 : (Int × Int) → Option ((Int × Int) ⊕ ((Int))) := fun (v4, v5) =>
  if (decide (v4 > 0)) = true then
    (if v4 = 0 then none else
    (some (.inl ((v5.tmod v4), v4))))
  else
    (some (.inr v5))
noncomputable def figure_commonDivisor (v1 : Int) (v2 : Int) : Option (Int) :=
  (run (figure_commonDivisor_l1) (v1, v2)).bind fun v7 =>
  some (v7)

end Go.Rex

namespace Go.Rex
open Go Go.Rex
noncomputable def figure_fraction (v1 : Int) (v2 : Int) : Option (Int × Int × Int) :=
  (figure_commonDivisor v1 v2).bind fun v6 =>
  if v6 = 0 then none else
  (if (decide ((IntKind.i64.wrap (v1.tdiv v6)) > 1000000000)) = true then
    (some (0, 0, 8))
  else
    (if (decide ((IntKind.i64.wrap (v2.tdiv v6)) > 1000000000)) = true then
      (some (0, 0, 8))
    else
      (some ((IntKind.i64.wrap (v1.tdiv v6)), (IntKind.i64.wrap (v2.tdiv v6)), 0))))

end Go.Rex

namespace Go.Rex
open Go Go.Rex
noncomputable def figure_share (v1 : Int) (v2 : Int) : Option (Int × Int × Int) :=
  if (decide (v2 = 0)) = true then
    (some (0, 0, 11))
  else
    ((figure_fraction v1 v2).bind fun (v6, v7, v8) =>
    some (v6, v7, v8))

end Go.Rex

namespace Go.Rex
open Go Go.Rex
noncomputable def figure_Lateral (v1 : Int) (v2 : (List Nat)) (v3 : Int) (v4 : (List Nat)) : Option (Int × Int × Int) :=
  (figure_plain v1 v2).bind fun (v8, v9) =>
  (figure_hear v8 v9 0 0).bind fun (v10, v11, v12, v13, v14) =>
  (figure_plain v3 v4).bind fun (v15, v16) =>
  (figure_hear v15 v16 0 0).bind fun (v17, v18, v19, v20, v21) =>
  (figure_refuse (decide (v1 ≠ v3)) 13).bind fun v22 =>
  (figure_firstError ([v14, v21, v22] : List Int)).bind fun v23 =>
  if (decide (v23 ≠ 0)) = true then
    (some (0, 0, v23))
  else
    ((figure_heard_split v17 v18 v19 v20 5000).bind fun v24 =>
    (figure_heard_split v17 v18 v19 v20 80000).bind fun v25 =>
    (figure_heard_energy v17 v18 v19 v20 v24 v25).bind fun (v26, v27) =>
    (figure_heard_early v10 v11 v12 v13 80000).bind fun (v28, v29) =>
    (figure_share v26 v28).bind fun (v30, v31, v32) =>
    some (v30, v31, v32))

end Go.Rex

namespace Go.Rex
open Go Go.Rex
noncomputable def base_Gcd_l1 : (Int × Int) → Option ((Int × Int) ⊕ ((Int))) := fun (v4, v5) =>
  if (decide (v5 ≠ 0)) = true then
    (if v5 = 0 then none else
    (some (.inl (v5, (v4.tmod v5)))))
  else
    (some (.inr v4))
noncomputable def base_Gcd (v1 : Int) (v2 : Int) : Option (Int) :=
  (run (base_Gcd_l1) (v1, v2)).bind fun v7 =>
  (base_Size v7).bind fun v8 =>
  some (v8)

end Go.Rex

namespace Go.Rex
open Go Go.Rex
noncomputable def base_Lowest (v1 : Int) (v2 : Int) : Option (Int × Int) :=
  (base_Gcd v1 v2).bind fun v5 =>
  if (decide (v2 < 0)) = true then
    (if (IntKind.i64.wrap (0 - v5)) = 0 then none else
    (some ((IntKind.i64.wrap (v1.tdiv (IntKind.i64.wrap (0 - v5)))), (IntKind.i64.wrap (v2.tdiv (IntKind.i64.wrap (0 - v5)))))))
  else
    (if v5 = 0 then none else
    (some ((IntKind.i64.wrap (v1.tdiv v5)), (IntKind.i64.wrap (v2.tdiv v5)))))

end Go.Rex

namespace Go.Rex
open Go Go.Rex
noncomputable def ref05_share (v1 : Int) (v2 : Int) : Option (Int × Int × Int) :=
  if (decide (v2 = 0)) = true then
    (some (0, 0, 11))
  else
    ((base_Lowest v1 v2).bind fun (v6, v7) =>
    if (decide (v6 > 1000000000)) = true then
      (some (0, 0, 8))
    else
      (if (decide (v7 > 1000000000)) = true then
        (some (0, 0, 8))
      else
        (some (v6, v7, 0))))

end Go.Rex

namespace Go.Rex
open Go Go.Rex
noncomputable def ref05_Lateral (v1 : Int) (v2 : (List Nat)) (v3 : Int) (v4 : (List Nat)) : Option (Int × Int × Int) :=
  if (decide (v1 ≠ v3)) = true then
    (some (0, 0, 13))
  else
    ((ref05_SampleAt v1 5000).bind fun (v8, v9) =>
    (ref05_SampleAt v1 80000).bind fun (v10, v11) =>
    (ref05_Energy v3 v4 (if (if (v4.length : Int) < v10 then (v4.length : Int) else v10) < v8 then (if (v4.length : Int) < v10 then (v4.length : Int) else v10) else v8) (if (v4.length : Int) < v10 then (v4.length : Int) else v10)).bind fun v12 =>
    (ref05_Energy v1 v2 0 (if (v2.length : Int) < v10 then (v2.length : Int) else v10)).bind fun v13 =>
    (ref05_share v12 v13).bind fun (v14, v15, v16) =>
    some (v14, v15, v16))

end Go.Rex

namespace Go.Rex
open Go Go.Rex
noncomputable def law05_FigureLateral (v1 : Int) (v2 : (List Nat)) (v3 : Int) (v4 : (List Nat)) : Option Bool :=
  (law05_Few v1 v2).bind fun v6 =>
  if v6 = true then
    ((law05_Few v3 v4).bind fun v7 =>
    if v7 = true then
      ((base_CopyResponse v1 v2).bind fun (v8, v9) =>
      (base_CopyResponse v3 v4).bind fun (v10, v11) =>
      (figure_Lateral v8 v9 v10 v11).bind fun (v12, v13, v14) =>
      (ref05_ResponseErr v1 v2).bind fun v15 =>
      if (decide (v15 = 0)) = true then
        ((ref05_ResponseErr v3 v4).bind fun v16 =>
        if (decide (v16 = 0)) = true then
          ((ref05_Lateral v1 v2 v3 v4).bind fun (v17, v18, v19) =>
          if (decide (v14 = v19)) = true then
            (some (([v12 == v17, v13 == v18].all id)))
          else
            (some (false)))
        else
          (if (decide (v14 = v16)) = true then
            (some (([v12 == 0, v13 == 0].all id)))
          else
            (some (false))))
      else
        (if (decide (v14 = v15)) = true then
          (some (([v12 == 0, v13 == 0].all id)))
        else
          (some (false))))
    else
      (some (true)))
  else
    (some (true))

end Go.Rex

namespace Go.Rex
open Go Go.Rex
noncomputable def figure_Sums_l1 (v7 : (List (Int × Int))) : ((List Int) × Int) → Option (((List Int) × Int) ⊕ (((List Int)))) := fun (v9, v10) =>
  if (decide (v10 < (v7.length : Int))) = true then
    ((getI v7 v10).bind fun (v15, v16) =>
    (appI 8 v9 ([v15] : List Int)).bind fun v17 =>
    some (.inl (v17, (IntKind.i64.wrap (v10 + 1)))))
  else
    (some (.inr v9))
noncomputable def figure_Sums (v1 : Int) (v2 : (List Nat)) : Option ((List Int) × Int) :=
  (figure_plain v1 v2).bind fun (v5, v6) =>
  (figure_SumsWithin v5 v6 0 0).bind fun (v7, v8) =>
  if (decide (v8 ≠ 0)) = true then
    (some (([] : List Int), v8))
  else
    ((run (figure_Sums_l1 v7) (([] : List Int), 0)).bind fun v18 =>
    some (v18, 0))

end Go.Rex

namespace Go.Rex
open Go Go.Rex
noncomputable def ref05_sum (v1 : Int) (v2 : (List Nat)) (v3 : Int) (v4 : Int) (v5 : Int) : Option (Int × Int) :=
  (ref05_EnergyWithin v1 v2 v3 v4 v5 (v2.length : Int)).bind fun (v8, v9) =>
  some (v8, v9)

end Go.Rex

namespace Go.Rex
open Go Go.Rex
noncomputable def ref05_SumsWithin_l1 (v1 : Int) (v2 : (List Nat)) (v3 : Int) (v4 : Int) : ((List (Int × Int)) × Int) → Option (((List (Int × Int)) × Int) ⊕ (((List (Int × Int))))) := fun (v6, v7) =>
  if (decide (v7 < (v2.length : Int))) = true then
    ((ref05_sum v1 v2 v3 v4 v7).bind fun (v12, v13) =>
    (appI 16 v6 ([(v12, v13)] : List (Int × Int))).bind fun v14 =>
    some (.inl (v14, (IntKind.i64.wrap (v7 + 1)))))
  else
    (some (.inr v6))
noncomputable def ref05_SumsWithin (v1 : Int) (v2 : (List Nat)) (v3 : Int) (v4 : Int) : Option ((List (Int × Int))) :=
  (run (ref05_SumsWithin_l1 v1 v2 v3 v4) (([] : List (Int × Int)), 0)).bind fun v15 =>
  some (v15)

end Go.Rex

namespace Go.Rex
open Go Go.Rex
noncomputable def ref05_Sums_l1 (v6 : (List (Int × Int))) : ((List Int) × Int) → Option (((List Int) × Int) ⊕ (((List Int)))) := fun (v7, v8) =>
  if (decide (v8 < (v6.length : Int))) = true then
    ((getI v6 v8).bind fun (v13, v14) =>
    (appI 8 v7 ([v13] : List Int)).bind fun v15 =>
    some (.inl (v15, (IntKind.i64.wrap (v8 + 1)))))
  else
    (some (.inr v7))
noncomputable def ref05_Sums (v1 : Int) (v2 : (List Nat)) : Option ((List Int)) :=
  (ref05_Plain v1 v2).bind fun (v4, v5) =>
  (ref05_SumsWithin v4 v5 0 0).bind fun v6 =>
  (run (ref05_Sums_l1 v6) (([] : List Int), 0)).bind fun v16 =>
  some (v16)

end Go.Rex

namespace Go.Rex
open Go Go.Rex
noncomputable def base_Ints_l1 (v1 : (List Int)) (v2 : (List Int)) : (Int) → Option ((Int) ⊕ ((Unit) ⊕ (Unit))) := fun v4 =>
  if (decide (v4 < (v1.length : Int))) = true then
    ((getI v1 v4).bind fun v7 =>
    (getI v2 v4).bind fun v8 =>
    if (decide (v7 ≠ v8)) = true then
      (some (.inr (.inl ())))
    else
      (some (.inl (IntKind.i64.wrap (v4 + 1)))))
  else
    (some (.inr (.inr ())))
noncomputable def base_Ints (v1 : (List Int)) (v2 : (List Int)) : Option (Bool) :=
  if (decide ((v1.length : Int) ≠ (v2.length : Int))) = true then
    (some (false))
  else
    ((run (base_Ints_l1 v1 v2) 0).bind fun v9 => match v9 with
    | (.inl _) =>
      some (false)
    | (.inr _) =>
      some (true))

end Go.Rex

namespace Go.Rex
open Go Go.Rex
noncomputable def base_Ranges_l1 (v1 : (List (Int × Int))) (v2 : (List (Int × Int))) : (Int) → Option ((Int) ⊕ ((Unit) ⊕ (Unit))) := fun v4 =>
  if (decide (v4 < (v1.length : Int))) = true then
    ((getI v1 v4).bind fun (v9, v10) =>
    (getI v2 v4).bind fun (v11, v12) =>
    if ([v9 == v11, v10 == v12].all id) = true then
      (some (.inl (IntKind.i64.wrap (v4 + 1))))
    else
      (some (.inr (.inl ()))))
  else
    (some (.inr (.inr ())))
noncomputable def base_Ranges (v1 : (List (Int × Int))) (v2 : (List (Int × Int))) : Option (Bool) :=
  if (decide ((v1.length : Int) ≠ (v2.length : Int))) = true then
    (some (false))
  else
    ((run (base_Ranges_l1 v1 v2) 0).bind fun v13 => match v13 with
    | (.inl _) =>
      some (false)
    | (.inr _) =>
      some (true))

end Go.Rex

namespace Go.Rex
open Go Go.Rex
noncomputable def law05_FigureSums_l1 (v9 : (List Int)) : (Int) → Option ((Int) ⊕ ((Unit) ⊕ (Unit))) := fun v25 =>
  if (decide (v25 < (v9.length : Int))) = true then
    ((getI v9 v25).bind fun v28 =>
    (getI v9 (IntKind.i64.wrap (v25 - 1))).bind fun v29 =>
    if (decide (v28 > v29)) = true then
      (some (.inr (.inl ())))
    else
      (some (.inl (IntKind.i64.wrap (v25 + 1)))))
  else
    (some (.inr (.inr ())))
noncomputable def law05_FigureSums (v1 : Int) (v2 : (List Nat)) (v3 : Int) (v4 : Int) : Option Bool :=
  (law05_Few v1 v2).bind fun v6 =>
  if v6 = true then
    ((base_CopyResponse v1 v2).bind fun (v7, v8) =>
    (figure_Sums v7 v8).bind fun (v9, v10) =>
    (ref05_Copy v1 v2 v3 v4).bind fun (v11, v12, v13, v14) =>
    (figure_SumsWithin v11 v12 v13 v14).bind fun (v15, v16) =>
    (ref05_ResponseErr v1 v2).bind fun v17 =>
    if (decide (v17 ≠ 0)) = true then
      (if (decide (v10 = v17)) = true then
        (if (decide (v16 = v17)) = true then
          (some ((decide ((IntKind.i64.wrap ((v9.length : Int) + (v15.length : Int))) = 0))))
        else
          (some (false)))
      else
        (some (false)))
    else
      (if (decide (v10 ≠ 0)) = true then
        (some (false))
      else
        ((ref05_Sums v1 v2).bind fun v18 =>
        (base_Ints v9 v18).bind fun v19 =>
        if v19 = true then
          ((base_CopyResponse v1 v2).bind fun (v20, v21) =>
          (figure_Energy v20 v21 0 (v2.length : Int)).bind fun (v22, v23) =>
          if (decide (v23 ≠ 0)) = true then
            (some (false))
          else
            (if (decide ((v9.length : Int) = 0)) = true then
              (some (false))
            else
              ((getI v9 0).bind fun v24 =>
              if (decide (v24 ≠ v22)) = true then
                (some (false))
              else
                ((run (law05_FigureSums_l1 v9) 1).bind fun v30 => match v30 with
                | (.inl _) =>
                  some (false)
                | (.inr _) =>
                  (ref05_AskErr v1 v2 v3 v4).bind fun v31 =>
                  if (decide (v31 ≠ 0)) = true then
                    (if (decide (v16 = v31)) = true then
                      (some ((decide ((v15.length : Int) = 0))))
                    else
                      (some (false)))
                  else
                    (if (decide (v16 = 0)) = true then
                      ((ref05_SumsWithin v1 v2 v3 v4).bind fun v32 =>
                      (base_Ranges v15 v32).bind fun v33 =>
                      some (v33))
                    else
                      (some (false)))))))
        else
          (some (false)))))
  else
    (some (true))

end Go.Rex

namespace Go.Rex
open Go Go.Rex
noncomputable def figure_Definition (v1 : Int) (v2 : (List Nat)) (v3 : Int) : Option (Int × Int × Int) :=
  (figure_plain v1 v2).bind fun (v7, v8) =>
  (figure_hear v7 v8 0 0).bind fun (v9, v10, v11, v12, v13) =>
  (figure_timeError v3).bind fun v14 =>
  (figure_firstError ([v13, v14] : List Int)).bind fun v15 =>
  if (decide (v15 ≠ 0)) = true then
    (some (0, 0, v15))
  else
    ((figure_heard_early v9 v10 v11 v12 v3).bind fun (v16, v17) =>
    (figure_heard_all v9 v10 v11 v12).bind fun (v18, v19) =>
    (figure_share v16 v18).bind fun (v20, v21, v22) =>
    some (v20, v21, v22))

end Go.Rex

namespace Go.Rex
open Go Go.Rex
noncomputable def ref05_parts (v1 : Int) (v2 : (List Nat)) (v3 : Int) (v4 : Int) (v5 : Int) : Option (Int × Int × Int × Int) :=
  (ref05_SampleAt v1 v5).bind fun (v10, v11) =>
  (ref05_EnergyWithin v1 v2 v3 v4 0 (if (v2.length : Int) < v10 then (v2.length : Int) else v10)).bind fun (v12, v13) =>
  if (decide ((if (v2.length : Int) < v10 then (v2.length : Int) else v10) = (v2.length : Int))) = true then
    ((ref05_EnergyWithin v1 v2 v3 v4 (if (v2.length : Int) < v10 then (v2.length : Int) else v10) (v2.length : Int)).bind fun (v14, v15) =>
    some (v12, (IntKind.i64.wrap (v13 - v4)), v14, v15))
  else
    ((ref05_EnergyWithin v1 v2 v3 v4 (if (v2.length : Int) < v10 then (v2.length : Int) else v10) (v2.length : Int)).bind fun (v16, v17) =>
    some (v12, v13, v16, v17))

end Go.Rex

namespace Go.Rex
open Go Go.Rex
noncomputable def ref05_Definition (v1 : Int) (v2 : (List Nat)) (v3 : Int) : Option (Int × Int × Int) :=
  (ref05_Plain v1 v2).bind fun (v7, v8) =>
  (ref05_parts v7 v8 0 0 v3).bind fun (v9, v10, v11, v12) =>
  (ref05_Plain v1 v2).bind fun (v13, v14) =>
  (ref05_sum v13 v14 0 0 0).bind fun (v15, v16) =>
  (ref05_share v9 v15).bind fun (v17, v18, v19) =>
  some (v17, v18, v19)

end Go.Rex

namespace Go.Rex
open Go Go.Rex
noncomputable def ref05_DefinitionWithin (v1 : Int) (v2 : (List Nat)) (v3 : Int) (v4 : Int) (v5 : Int) : Option (Int × Int × Int) :=
  (ref05_parts v1 v2 v3 v4 v5).bind fun (v9, v10, v11, v12) =>
  if (decide ((IntKind.i64.wrap (v9 + v11)) = 0)) = true then
    (some (0, 0, 11))
  else
    ((base_Floor (IntKind.i64.wrap (1000 * v9)) (IntKind.i64.wrap (v9 + v12))).bind fun v13 =>
    (base_Ceil (IntKind.i64.wrap (1000 * v10)) (IntKind.i64.wrap (v10 + v11))).bind fun v14 =>
    some (v13, v14, 0))

end Go.Rex

namespace Go.Rex
open Go Go.Rex
noncomputable def base_Compare_l1 : (Int × Int × Int × Int) → Option ((Int × Int × Int × Int) ⊕ ((Int))) := fun (v6, v7, v8, v9) =>
  (base_Floor v6 v7).bind fun v13 =>
  (base_Floor v8 v9).bind fun v14 =>
  if (decide (v13 < v14)) = true then
    (some (.inr (-1)))
  else
    (if (decide (v13 > v14)) = true then
      (some (.inr 1))
    else
      (if (decide ((IntKind.i64.wrap (v6 - (IntKind.i64.wrap (v13 * v7)))) = 0)) = true then
        (if (decide ((IntKind.i64.wrap (v8 - (IntKind.i64.wrap (v14 * v9)))) = 0)) = true then
          (some (.inr 0))
        else
          (some (.inr (-1))))
      else
        (if (decide ((IntKind.i64.wrap (v8 - (IntKind.i64.wrap (v14 * v9)))) = 0)) = true then
          (some (.inr 1))
        else
          (some (.inl (v9, (IntKind.i64.wrap (v8 - (IntKind.i64.wrap (v14 * v9)))), v7, (IntKind.i64.wrap (v6 - (IntKind.i64.wrap (v13 * v7))))))))))
noncomputable def base_Compare (v1 : Int) (v2 : Int) (v3 : Int) (v4 : Int) : Option (Int) :=
  (run (base_Compare_l1) (v1, v2, v3, v4)).bind fun v15 =>
  some (v15)

end Go.Rex

namespace Go.Rex
open Go Go.Rex
noncomputable def law05_FigureDefinitions (v1 : Int) (v2 : (List Nat)) (v3 : Int) (v4 : Int) (v5 : Int) : Option Bool :=
  (law05_Few v1 v2).bind fun v7 =>
  if v7 = true then
    ((base_CopyResponse v1 v2).bind fun (v8, v9) =>
    (figure_Definition v8 v9 v5).bind fun (v10, v11, v12) =>
    (ref05_Copy v1 v2 v3 v4).bind fun (v13, v14, v15, v16) =>
    (figure_DefinitionWithin v13 v14 v15 v16 v5).bind fun (v17, v18, v19) =>
    (ref05_ResponseErr v1 v2).bind fun v20 =>
    (ref05_AskErr v1 v2 v3 v4).bind fun v21 =>
    (ref05_TimeErr v5).bind fun v22 =>
    if (decide (v22 ≠ 0)) = true then
      (if (decide (v20 = 0)) = true then
        (if (decide (v21 = 0)) = true then
          (if (decide (v22 = 0)) = true then
            ((ref05_Definition v1 v2 v5).bind fun (v23, v24, v25) =>
            (ref05_DefinitionWithin v1 v2 v3 v4 v5).bind fun (v26, v27, v28) =>
            if (decide (v12 ≠ v25)) = true then
              (some (false))
            else
              (if ([v10 == v23, v11 == v24].all id) = true then
                (if (decide (v19 ≠ v28)) = true then
                  (some (false))
                else
                  (if ([v17 == v26, v18 == v27].all id) = true then
                    (if (decide (v25 ≠ 0)) = true then
                      (some (true))
                    else
                      (if (decide (v28 ≠ 0)) = true then
                        (some (true))
                      else
                        (if (decide (v4 ≠ 0)) = true then
                          (some (true))
                        else
                          ((base_Compare v17 1000 v10 v11).bind fun v29 =>
                          if (decide (v29 ≤ 0)) = true then
                            ((base_Compare v10 v11 v18 1000).bind fun v30 =>
                            some ((decide (v30 ≤ 0))))
                          else
                            (some (false))))))
                  else
                    (some (false))))
              else
                (some (false))))
          else
            (if (decide (v12 ≠ v22)) = true then
              (some (false))
            else
              (if ([v10 == 0, v11 == 0].all id) = true then
                (if (decide (v19 ≠ v22)) = true then
                  (some (false))
                else
                  (if ([v17 == 0, v18 == 0].all id) = true then
                    (some (true))
                  else
                    (some (false))))
              else
                (some (false)))))
        else
          (if (decide (v22 = 0)) = true then
            ((ref05_Definition v1 v2 v5).bind fun (v31, v32, v33) =>
            if (decide (v12 ≠ v33)) = true then
              (some (false))
            else
              (if ([v10 == v31, v11 == v32].all id) = true then
                (if (decide (v19 ≠ v21)) = true then
                  (some (false))
                else
                  (if ([v17 == 0, v18 == 0].all id) = true then
                    (if (decide (v33 ≠ 0)) = true then
                      (some (true))
                    else
                      (if (decide (v21 ≠ 0)) = true then
                        (some (true))
                      else
                        (if (decide (v4 ≠ 0)) = true then
                          (some (true))
                        else
                          ((base_Compare v17 1000 v10 v11).bind fun v34 =>
                          if (decide (v34 ≤ 0)) = true then
                            ((base_Compare v10 v11 v18 1000).bind fun v35 =>
                            some ((decide (v35 ≤ 0))))
                          else
                            (some (false))))))
                  else
                    (some (false))))
              else
                (some (false))))
          else
            (if (decide (v12 ≠ v22)) = true then
              (some (false))
            else
              (if ([v10 == 0, v11 == 0].all id) = true then
                (if (decide (v19 ≠ v21)) = true then
                  (some (false))
                else
                  (if ([v17 == 0, v18 == 0].all id) = true then
                    (some (true))
                  else
                    (some (false))))
              else
                (some (false))))))
      else
        (if (decide (v21 = 0)) = true then
          (if (decide (v22 = 0)) = true then
            ((ref05_DefinitionWithin v1 v2 v3 v4 v5).bind fun (v36, v37, v38) =>
            if (decide (v12 ≠ v20)) = true then
              (some (false))
            else
              (if ([v10 == 0, v11 == 0].all id) = true then
                (if (decide (v19 ≠ v38)) = true then
                  (some (false))
                else
                  (if ([v17 == v36, v18 == v37].all id) = true then
                    (if (decide (v20 ≠ 0)) = true then
                      (some (true))
                    else
                      (if (decide (v38 ≠ 0)) = true then
                        (some (true))
                      else
                        (if (decide (v4 ≠ 0)) = true then
                          (some (true))
                        else
                          ((base_Compare v17 1000 v10 v11).bind fun v39 =>
                          if (decide (v39 ≤ 0)) = true then
                            ((base_Compare v10 v11 v18 1000).bind fun v40 =>
                            some ((decide (v40 ≤ 0))))
                          else
                            (some (false))))))
                  else
                    (some (false))))
              else
                (some (false))))
          else
            (if (decide (v12 ≠ v20)) = true then
              (some (false))
            else
              (if ([v10 == 0, v11 == 0].all id) = true then
                (if (decide (v19 ≠ v22)) = true then
                  (some (false))
                else
                  (if ([v17 == 0, v18 == 0].all id) = true then
                    (if (decide (v20 ≠ 0)) = true then
                      (some (true))
                    else
                      (some (true)))
                  else
                    (some (false))))
              else
                (some (false)))))
        else
          (if (decide (v12 ≠ v20)) = true then
            (some (false))
          else
            (if ([v10 == 0, v11 == 0].all id) = true then
              (if (decide (v19 ≠ v21)) = true then
                (some (false))
              else
                (if ([v17 == 0, v18 == 0].all id) = true then
                  (if (decide (v20 ≠ 0)) = true then
                    (some (true))
                  else
                    (if (decide (v21 ≠ 0)) = true then
                      (some (true))
                    else
                      (if (decide (v4 ≠ 0)) = true then
                        (some (true))
                      else
                        ((base_Compare v17 1000 v10 v11).bind fun v41 =>
                        if (decide (v41 ≤ 0)) = true then
                          ((base_Compare v10 v11 v18 1000).bind fun v42 =>
                          some ((decide (v42 ≤ 0))))
                        else
                          (some (false))))))
                else
                  (some (false))))
            else
              (some (false))))))
    else
      (if (decide (v20 = 0)) = true then
        ((ref05_Definition v1 v2 v5).bind fun (v43, v44, v45) =>
        if (decide (v21 = 0)) = true then
          ((ref05_DefinitionWithin v1 v2 v3 v4 v5).bind fun (v46, v47, v48) =>
          if (decide (v12 ≠ v45)) = true then
            (some (false))
          else
            (if ([v10 == v43, v11 == v44].all id) = true then
              (if (decide (v19 ≠ v48)) = true then
                (some (false))
              else
                (if ([v17 == v46, v18 == v47].all id) = true then
                  (if (decide (v45 ≠ 0)) = true then
                    (some (true))
                  else
                    (if (decide (v48 ≠ 0)) = true then
                      (some (true))
                    else
                      (if (decide (v4 ≠ 0)) = true then
                        (some (true))
                      else
                        ((base_Compare v17 1000 v10 v11).bind fun v49 =>
                        if (decide (v49 ≤ 0)) = true then
                          ((base_Compare v10 v11 v18 1000).bind fun v50 =>
                          some ((decide (v50 ≤ 0))))
                        else
                          (some (false))))))
                else
                  (some (false))))
            else
              (some (false))))
        else
          (if (decide (v12 ≠ v45)) = true then
            (some (false))
          else
            (if ([v10 == v43, v11 == v44].all id) = true then
              (if (decide (v19 ≠ v21)) = true then
                (some (false))
              else
                (if ([v17 == 0, v18 == 0].all id) = true then
                  (if (decide (v45 ≠ 0)) = true then
                    (some (true))
                  else
                    (if (decide (v21 ≠ 0)) = true then
                      (some (true))
                    else
                      (if (decide (v4 ≠ 0)) = true then
                        (some (true))
                      else
                        ((base_Compare v17 1000 v10 v11).bind fun v51 =>
                        if (decide (v51 ≤ 0)) = true then
                          ((base_Compare v10 v11 v18 1000).bind fun v52 =>
                          some ((decide (v52 ≤ 0))))
                        else
                          (some (false))))))
                else
                  (some (false))))
            else
              (some (false)))))
      else
        (if (decide (v21 = 0)) = true then
          ((ref05_DefinitionWithin v1 v2 v3 v4 v5).bind fun (v53, v54, v55) =>
          if (decide (v12 ≠ v20)) = true then
            (some (false))
          else
            (if ([v10 == 0, v11 == 0].all id) = true then
              (if (decide (v19 ≠ v55)) = true then
                (some (false))
              else
                (if ([v17 == v53, v18 == v54].all id) = true then
                  (if (decide (v20 ≠ 0)) = true then
                    (some (true))
                  else
                    (if (decide (v55 ≠ 0)) = true then
                      (some (true))
                    else
                      (if (decide (v4 ≠ 0)) = true then
                        (some (true))
                      else
                        ((base_Compare v17 1000 v10 v11).bind fun v56 =>
                        if (decide (v56 ≤ 0)) = true then
                          ((base_Compare v10 v11 v18 1000).bind fun v57 =>
                          some ((decide (v57 ≤ 0))))
                        else
                          (some (false))))))
                else
                  (some (false))))
            else
              (some (false))))
        else
          (if (decide (v12 ≠ v20)) = true then
            (some (false))
          else
            (if ([v10 == 0, v11 == 0].all id) = true then
              (if (decide (v19 ≠ v21)) = true then
                (some (false))
              else
                (if ([v17 == 0, v18 == 0].all id) = true then
                  (if (decide (v20 ≠ 0)) = true then
                    (some (true))
                  else
                    (if (decide (v21 ≠ 0)) = true then
                      (some (true))
                    else
                      (if (decide (v4 ≠ 0)) = true then
                        (some (true))
                      else
                        ((base_Compare v17 1000 v10 v11).bind fun v58 =>
                        if (decide (v58 ≤ 0)) = true then
                          ((base_Compare v10 v11 v18 1000).bind fun v59 =>
                          some ((decide (v59 ≤ 0))))
                        else
                          (some (false))))))
                else
                  (some (false))))
            else
              (some (false)))))))
  else
    (some (true))

end Go.Rex

namespace Go.Rex
open Go Go.Rex
noncomputable def figure_FirstBelow_c1_4410 (v1 : Int) (v2 : Int) (v3 : (List (Int × Int))) (v4 : Int) : Option (Bool) :=
  (getI v3 0).bind fun (v6, v7) =>
  (figure_isPassed v6 v1 v4).bind fun v8 =>
  some (v8)

end Go.Rex

namespace Go.Rex
open Go Go.Rex
noncomputable def slices_IndexFunc_figure_ends_figure_ends_4dac_l1 (v1 : (List (Int × Int))) (v2 : (List (Int × Int))) (v3 : Int) : (Int) → Option ((Int) ⊕ ((Int) ⊕ (Unit))) := fun v5 =>
  if (decide (v5 < (v1.length : Int))) = true then
    ((getI v1 v5).bind fun (v10, v11) =>
    (figure_FirstBelow_c1_4410 v10 v11 v2 v3).bind fun v12 =>
    if v12 = true then
      (some (.inr (.inl v5)))
    else
      (some (.inl (IntKind.i64.wrap (v5 + 1)))))
  else
    (some (.inr (.inr ())))
noncomputable def slices_IndexFunc_figure_ends_figure_ends_4dac (v1 : (List (Int × Int))) (v2 : (List (Int × Int))) (v3 : Int) : Option (Int) :=
  (run (slices_IndexFunc_figure_ends_figure_ends_4dac_l1 v1 v2 v3) 0).bind fun v13 => match v13 with
  | (.inl v14) =>
    some (v14)
  | (.inr _) =>
    some ((-1))

end Go.Rex

namespace Go.Rex
open Go Go.Rex
noncomputable def figure_FirstBelow (v1 : Int) (v2 : (List Nat)) (v3 : Int) : Option (Int × Int) :=
  (figure_plain v1 v2).bind fun (v6, v7) =>
  (figure_hear v6 v7 0 0).bind fun (v8, v9, v10, v11, v12) =>
  (figure_within v3 0 12).bind fun v13 =>
  (figure_firstError ([v12, v13] : List Int)).bind fun v14 =>
  if (decide (v14 ≠ 0)) = true then
    (some (0, v14))
  else
    ((figure_heard_sums v8 v9 v10 v11).bind fun v15 =>
    (getI v15 0).bind fun (v16, v17) =>
    if (decide (v16 = 0)) = true then
      (some (0, 11))
    else
      ((slices_IndexFunc_figure_ends_figure_ends_4dac v15 v15 v3).bind fun v18 =>
      some (v18, 0)))

end Go.Rex

namespace Go.Rex
open Go Go.Rex
noncomputable def ref05_ten_l1 (v1 : Int) : (Int × Int) → Option ((Int × Int) ⊕ ((Int))) := fun (v3, v4) =>
  if (decide (v4 < v1)) = true then
    (some (.inl ((IntKind.i64.wrap (10 * v3)), (IntKind.i64.wrap (v4 + 1)))))
  else
    (some (.inr v3))
noncomputable def ref05_ten (v1 : Int) : Option (Int) :=
  (run (ref05_ten_l1 v1) (1, 0)).bind fun v6 =>
  some (v6)

end Go.Rex

namespace Go.Rex
open Go Go.Rex
noncomputable def ref05_passed (v1 : Int) (v2 : Int) (v3 : Int) : Option (Bool) :=
  (ref05_ten (IntKind.i64.wrap (v3.tdiv 2))).bind fun v5 =>
  if (decide ((v3.tmod 2) = 0)) = true then
    (some ((decide ((IntKind.i64.wrap (v1 * v5)) ≤ v2))))
  else
    (if (decide ((IntKind.i64.wrap (v1 * v5)) > v2)) = true then
      (some ((decide ((IntKind.i64.wrap (v1 * v5)) ≤ v2))))
    else
      ((base_Compare (IntKind.i64.wrap (10 * (IntKind.i64.wrap (v1 * v5)))) v2 v2 (if (IntKind.i64.wrap (v1 * v5)) > 1 then (IntKind.i64.wrap (v1 * v5)) else 1)).bind fun v6 =>
      some ((decide (v6 ≤ 0)))))

end Go.Rex

namespace Go.Rex
open Go Go.Rex
noncomputable def ref05_FirstBelow_l1 (v1 : Int) (v2 : (List Nat)) (v3 : Int) : (Int) → Option ((Int) ⊕ ((Int))) := fun v5 =>
  (ref05_Plain v1 v2).bind fun (v16, v17) =>
  (ref05_sum v16 v17 0 0 v5).bind fun (v18, v19) =>
  (ref05_Plain v1 v2).bind fun (v20, v21) =>
  (ref05_sum v20 v21 0 0 0).bind fun (v22, v23) =>
  (ref05_passed v18 v22 v3).bind fun v24 =>
  if v24 = true then
    (some (.inr v5))
  else
    (some (.inl (IntKind.i64.wrap (v5 + 1))))
noncomputable def ref05_FirstBelow (v1 : Int) (v2 : (List Nat)) (v3 : Int) : Option (Int) :=
  (run (ref05_FirstBelow_l1 v1 v2 v3) 0).bind fun v25 =>
  some (v25)

end Go.Rex

namespace Go.Rex
open Go Go.Rex
noncomputable def law05_FigureDrops (v1 : Int) (v2 : (List Nat)) (v3 : Int) : Option Bool :=
  (law05_Few v1 v2).bind fun v5 =>
  if v5 = true then
    ((base_CopyResponse v1 v2).bind fun (v6, v7) =>
    (figure_FirstBelow v6 v7 v3).bind fun (v8, v9) =>
    (ref05_ResponseErr v1 v2).bind fun v10 =>
    if (decide (v10 = 0)) = true then
      ((base_Within v3 0 12).bind fun v11 =>
      if v11 = true then
        ((ref05_Sums v1 v2).bind fun v12 =>
        (getI v12 0).bind fun v13 =>
        if (decide (v13 = 0)) = true then
          (if (decide (v9 = 11)) = true then
            (some ((decide (v8 = 0))))
          else
            (some (false)))
        else
          (if (decide (v10 ≠ 0)) = true then
            (if (decide (v9 = v10)) = true then
              (some ((decide (v8 = 0))))
            else
              (some (false)))
          else
            (if (decide (v9 ≠ 0)) = true then
              (some (false))
            else
              ((ref05_FirstBelow v1 v2 v3).bind fun v14 =>
              if (decide (v8 ≠ v14)) = true then
                (some (false))
              else
                (if (decide (v3 = 12)) = true then
                  (some (true))
                else
                  ((base_CopyResponse v1 v2).bind fun (v15, v16) =>
                  (figure_FirstBelow v15 v16 (IntKind.i64.wrap (v3 + 1))).bind fun (v17, v18) =>
                  if (decide (v18 = 0)) = true then
                    (if (decide (v8 ≤ v17)) = true then
                      (some ((decide (v17 ≤ (v2.length : Int)))))
                    else
                      (some (false)))
                  else
                    (some (false))))))))
      else
        (if (decide (v9 = 2)) = true then
          (some ((decide (v8 = 0))))
        else
          (some (false))))
    else
      (if (decide (v10 ≠ 0)) = true then
        (if (decide (v9 = v10)) = true then
          (some ((decide (v8 = 0))))
        else
          (some (false)))
      else
        (if (decide (v9 ≠ 0)) = true then
          (some (false))
        else
          ((ref05_FirstBelow v1 v2 v3).bind fun v19 =>
          if (decide (v8 ≠ v19)) = true then
            (some (false))
          else
            (if (decide (v3 = 12)) = true then
              (some (true))
            else
              ((base_CopyResponse v1 v2).bind fun (v20, v21) =>
              (figure_FirstBelow v20 v21 (IntKind.i64.wrap (v3 + 1))).bind fun (v22, v23) =>
              if (decide (v23 = 0)) = true then
                (if (decide (v8 ≤ v22)) = true then
                  (some ((decide (v22 ≤ (v2.length : Int)))))
                else
                  (some (false)))
              else
                (some (false))))))))
  else
    (some (true))

end Go.Rex

namespace Go.Rex
open Go Go.Rex
noncomputable def figure_modulo (v1 : Int) (v2 : Int) : Option (Int) :=
  if v2 = 0 then none else
  (some (((IntKind.i64.wrap ((v1.tmod v2) + v2)).tmod v2)))

end Go.Rex

namespace Go.Rex
open Go Go.Rex
noncomputable def figure_powerOf (v1 : Int) : Option (Int × Int × Int) :=
  (figure_modulo v1 10).bind fun v5 =>
  (getI ([1000000000, 1258925411, 1584893192, 1995262314, 2511886431, 3162277660, 3981071705, 5011872336, 6309573444, 7943282347] : List Int) v5).bind fun v6 =>
  (figure_between v6 v6).bind fun (v7, v8) =>
  if (decide (v5 > 0)) = true then
    ((figure_tenTo (if 0 > (IntKind.i64.wrap ((IntKind.i64.wrap (v1 - v5)).tdiv 10)) then 0 else (IntKind.i64.wrap ((IntKind.i64.wrap (v1 - v5)).tdiv 10)))).bind fun v9 =>
    (figure_ends_times v7 (IntKind.i64.wrap (v8 + 1)) v9).bind fun (v10, v11) =>
    (figure_tenTo (if 0 > (IntKind.i64.wrap (0 - (IntKind.i64.wrap ((IntKind.i64.wrap (v1 - v5)).tdiv 10)))) then 0 else (IntKind.i64.wrap (0 - (IntKind.i64.wrap ((IntKind.i64.wrap (v1 - v5)).tdiv 10)))))).bind fun v12 =>
    some (v10, v11, (IntKind.i64.wrap (1000000000 * v12))))
  else
    ((figure_tenTo (if 0 > (IntKind.i64.wrap ((IntKind.i64.wrap (v1 - v5)).tdiv 10)) then 0 else (IntKind.i64.wrap ((IntKind.i64.wrap (v1 - v5)).tdiv 10)))).bind fun v13 =>
    (figure_ends_times v7 v8 v13).bind fun (v14, v15) =>
    (figure_tenTo (if 0 > (IntKind.i64.wrap (0 - (IntKind.i64.wrap ((IntKind.i64.wrap (v1 - v5)).tdiv 10)))) then 0 else (IntKind.i64.wrap (0 - (IntKind.i64.wrap ((IntKind.i64.wrap (v1 - v5)).tdiv 10)))))).bind fun v16 =>
    some (v14, v15, (IntKind.i64.wrap (1000000000 * v16))))

end Go.Rex

namespace Go.Rex
open Go Go.Rex
noncomputable def figure_quotient_reaches (v1 : Int) (v2 : Int) (v3 : Int) : Option (Bool) :=
  (figure_powerOf v3).bind fun (v5, v6, v7) =>
  (figure_product v6 v2).bind fun (v8, v9) =>
  (figure_product v1 v7).bind fun (v10, v11) =>
  (figure_wide_isAtMost v8 v9 v10 v11).bind fun v12 =>
  some (v12)

end Go.Rex

namespace Go.Rex
open Go Go.Rex
noncomputable def figure_quotient_keepsTo (v1 : Int) (v2 : Int) (v3 : Int) : Option (Bool) :=
  (figure_powerOf v3).bind fun (v5, v6, v7) =>
  (figure_product v1 v7).bind fun (v8, v9) =>
  (figure_product v5 v2).bind fun (v10, v11) =>
  (figure_wide_isAtMost v8 v9 v10 v11).bind fun v12 =>
  some (v12)

end Go.Rex

namespace Go.Rex
open Go Go.Rex
noncomputable def figure_LevelOf_l1 (v1 : Int) (v2 : Int) : (Int) → Option ((Int) ⊕ ((Int))) := fun v11 =>
  (figure_quotient_reaches v1 v2 (IntKind.i64.wrap (v11 + 1))).bind fun v14 =>
  if v14 = true then
    (some (.inl (IntKind.i64.wrap (v11 + 1))))
  else
    (some (.inr v11))
noncomputable def figure_LevelOf_l2 (v1 : Int) (v2 : Int) : (Int) → Option ((Int) ⊕ ((Int))) := fun v16 =>
  (figure_quotient_keepsTo v1 v2 (IntKind.i64.wrap (v16 - 1))).bind fun v19 =>
  if v19 = true then
    (some (.inl (IntKind.i64.wrap (v16 - 1))))
  else
    (some (.inr v16))
noncomputable def figure_LevelOf (v1 : Int) (v2 : Int) : Option (Int × Int × Int) :=
  (figure_within v1 1 10000000000000).bind fun v6 =>
  (figure_within v2 1 10000000000000).bind fun v7 =>
  (figure_firstError ([v6, v7] : List Int)).bind fun v8 =>
  if (decide (v8 ≠ 0)) = true then
    (some (0, 0, v8))
  else
    ((figure_quotient_reaches v1 v2 (-90)).bind fun v9 =>
    if v9 = true then
      ((figure_quotient_keepsTo v1 v2 90).bind fun v10 =>
      if v10 = true then
        ((run (figure_LevelOf_l1 v1 v2) (-90)).bind fun v15 =>
        (run (figure_LevelOf_l2 v1 v2) 90).bind fun v20 =>
        some (v15, v20, 0))
      else
        (some (0, 0, 8)))
    else
      (some (0, 0, 8)))

end Go.Rex

namespace Go.Rex
open Go Go.Rex
noncomputable def base_Mod (v1 : Int) (v2 : Int) : Option (Int) :=
  if v2 = 0 then none else
  (if (decide ((v1.tmod v2) < 0)) = true then
    (some ((IntKind.i64.wrap ((v1.tmod v2) + v2))))
  else
    (some ((v1.tmod v2))))

end Go.Rex

namespace Go.Rex
open Go Go.Rex
noncomputable def ref05_tenths (v1 : Int) : Option (Int) :=
  (getI ([1000000000, 1258925411, 1584893192, 1995262314, 2511886431, 3162277660, 3981071705, 5011872336, 6309573444, 7943282347] : List Int) v1).bind fun v3 =>
  some (v3)

end Go.Rex

namespace Go.Rex
open Go Go.Rex
noncomputable def ref05_against (v1 : Int) (v2 : Int) (v3 : Int) (v4 : Int) : Option (Int) :=
  (base_Mod v3 10).bind fun v6 =>
  (base_Floor v3 10).bind fun v7 =>
  (ref05_tenths v6).bind fun v8 =>
  if (decide (v6 > 0)) = true then
    (if (decide (v7 ≥ 0)) = true then
      ((ref05_ten v7).bind fun v9 =>
      (base_Compare v1 v2 (IntKind.i64.wrap ((IntKind.i64.wrap (v8 + v4)) * v9)) 1000000000).bind fun v10 =>
      some (v10))
    else
      ((ref05_ten (IntKind.i64.wrap (9 - v7))).bind fun v11 =>
      (base_Compare v1 v2 (IntKind.i64.wrap (v8 + v4)) v11).bind fun v12 =>
      some (v12)))
  else
    (if (decide (v7 ≥ 0)) = true then
      ((ref05_ten v7).bind fun v13 =>
      (base_Compare v1 v2 (IntKind.i64.wrap (v8 * v13)) 1000000000).bind fun v14 =>
      some (v14))
    else
      ((ref05_ten (IntKind.i64.wrap (9 - v7))).bind fun v15 =>
      (base_Compare v1 v2 v8 v15).bind fun v16 =>
      some (v16)))

end Go.Rex

namespace Go.Rex
open Go Go.Rex
noncomputable def ref05_LevelOf_l1 (v1 : Int) (v2 : Int) : (Int) → Option ((Int) ⊕ ((Int))) := fun v10 =>
  (ref05_against v1 v2 v10 1).bind fun v13 =>
  if (decide (v13 < 0)) = true then
    (some (.inl (IntKind.i64.wrap (v10 - 1))))
  else
    (some (.inr v10))
noncomputable def ref05_LevelOf_l2 (v1 : Int) (v2 : Int) : (Int) → Option ((Int) ⊕ ((Int))) := fun v15 =>
  (ref05_against v1 v2 v15 0).bind fun v18 =>
  if (decide (v18 > 0)) = true then
    (some (.inl (IntKind.i64.wrap (v15 + 1))))
  else
    (some (.inr v15))
noncomputable def ref05_LevelOf (v1 : Int) (v2 : Int) : Option (Int × Int × Int) :=
  (base_Within v1 1 10000000000000).bind fun v6 =>
  if v6 = true then
    ((base_Within v2 1 10000000000000).bind fun v7 =>
    if v7 = true then
      ((base_Compare v1 v2 1000000000 1).bind fun v8 =>
      if (decide (v8 > 0)) = true then
        (some (0, 0, 8))
      else
        ((base_Compare v1 v2 1 1000000000).bind fun v9 =>
        if (decide (v9 < 0)) = true then
          (some (0, 0, 8))
        else
          ((run (ref05_LevelOf_l1 v1 v2) 90).bind fun v14 =>
          (run (ref05_LevelOf_l2 v1 v2) (-90)).bind fun v19 =>
          some (v14, v19, 0))))
    else
      (some (0, 0, 2)))
  else
    (some (0, 0, 2))

end Go.Rex

namespace Go.Rex
open Go Go.Rex
noncomputable def law05_FigureLevels (v1 : Int) (v2 : Int) : Option Bool :=
  (figure_LevelOf v1 v2).bind fun (v4, v5, v6) =>
  (ref05_LevelOf v1 v2).bind fun (v7, v8, v9) =>
  if (decide (v6 ≠ v9)) = true then
    (some (false))
  else
    (if ([v4 == v7, v5 == v8].all id) = true then
      (if (decide (v9 ≠ 0)) = true then
        (some (true))
      else
        ((figure_LevelOf v2 v1).bind fun (v10, v11, v12) =>
        (figure_LevelOf v1 v1).bind fun (v13, v14, v15) =>
        if (decide (v12 = 0)) = true then
          (if (decide (v4 ≤ v5)) = true then
            (if (decide (v5 ≤ (IntKind.i64.wrap (v4 + 2)))) = true then
              ((base_Within v10 (IntKind.i64.wrap ((IntKind.i64.wrap (0 - v5)) - 1)) (IntKind.i64.wrap ((IntKind.i64.wrap (0 - v5)) + 1))).bind fun v16 =>
              if v16 = true then
                (if (decide (v15 = 0)) = true then
                  (some (([v13 == 0, v14 == 0].all id)))
                else
                  (some (false)))
              else
                (some (false)))
            else
              (some (false)))
          else
            (some (false)))
        else
          (some (false))))
    else
      (some (false)))

end Go.Rex

namespace Go.Rex
open Go Go.Rex
noncomputable def figure_heard_clarity (v1 : Int) (v2 : (List Nat)) (v3 : Int) (v4 : Int) (v5 : Int) : Option (Int × Int × Int) :=
  (figure_heard_early v1 v2 v3 v4 v5).bind fun (v9, v10) =>
  (figure_heard_late v1 v2 v3 v4 v5).bind fun (v11, v12) =>
  (figure_sampleAt v1 v5).bind fun v13 =>
  (figure_heard_count v1 v2 v3 v4).bind fun v14 =>
  (figure_refuse (decide (v13 ≥ v14)) 12).bind fun v15 =>
  if (decide (v9 = 0)) = true then
    ((figure_refuse true 11).bind fun v16 =>
    (figure_firstError ([v15, v16] : List Int)).bind fun v17 =>
    if (decide (v17 ≠ 0)) = true then
      (some (0, 0, v17))
    else
      ((figure_LevelOf v9 v12).bind fun (v18, v19, v20) =>
      if (decide (v20 ≠ 0)) = true then
        (some (0, 0, v20))
      else
        ((figure_LevelOf v10 v11).bind fun (v21, v22, v23) =>
        if (decide (v23 ≠ 0)) = true then
          (some (0, 0, v23))
        else
          ((figure_between v18 v22).bind fun (v24, v25) =>
          some (v24, v25, 0)))))
  else
    ((figure_refuse (decide (v11 = 0)) 11).bind fun v26 =>
    (figure_firstError ([v15, v26] : List Int)).bind fun v27 =>
    if (decide (v27 ≠ 0)) = true then
      (some (0, 0, v27))
    else
      ((figure_LevelOf v9 v12).bind fun (v28, v29, v30) =>
      if (decide (v30 ≠ 0)) = true then
        (some (0, 0, v30))
      else
        ((figure_LevelOf v10 v11).bind fun (v31, v32, v33) =>
        if (decide (v33 ≠ 0)) = true then
          (some (0, 0, v33))
        else
          ((figure_between v28 v32).bind fun (v34, v35) =>
          some (v34, v35, 0)))))

end Go.Rex

namespace Go.Rex
open Go Go.Rex
noncomputable def figure_Clarity (v1 : Int) (v2 : (List Nat)) (v3 : Int) (v4 : Int) (v5 : Int) : Option (Int × Int × Int) :=
  (figure_hear v1 v2 v3 v4).bind fun (v9, v10, v11, v12, v13) =>
  (figure_timeError v5).bind fun v14 =>
  (figure_firstError ([v13, v14] : List Int)).bind fun v15 =>
  if (decide (v15 ≠ 0)) = true then
    (some (0, 0, v15))
  else
    ((figure_heard_clarity v9 v10 v11 v12 v5).bind fun (v16, v17, v18) =>
    some (v16, v17, v18))

end Go.Rex

namespace Go.Rex
open Go Go.Rex
noncomputable def ref05_Clarity (v1 : Int) (v2 : (List Nat)) (v3 : Int) (v4 : Int) (v5 : Int) : Option (Int × Int × Int) :=
  (ref05_SampleAt v1 v5).bind fun (v9, v10) =>
  if (decide (v9 ≥ (v2.length : Int))) = true then
    (some (0, 0, 12))
  else
    ((ref05_parts v1 v2 v3 v4 v5).bind fun (v11, v12, v13, v14) =>
    if (decide (v11 = 0)) = true then
      (some (0, 0, 11))
    else
      (if (decide (v13 = 0)) = true then
        (some (0, 0, 11))
      else
        ((ref05_LevelOf v11 v14).bind fun (v15, v16, v17) =>
        if (decide (v17 ≠ 0)) = true then
          (some (0, 0, v17))
        else
          ((ref05_LevelOf v12 v13).bind fun (v18, v19, v20) =>
          if (decide (v20 ≠ 0)) = true then
            (some (0, 0, v20))
          else
            (some (v15, v19, 0))))))

end Go.Rex

namespace Go.Rex
open Go Go.Rex
noncomputable def law05_FigureClarity (v1 : Int) (v2 : (List Nat)) (v3 : Int) (v4 : Int) (v5 : Int) : Option Bool :=
  (law05_Few v1 v2).bind fun v7 =>
  if v7 = true then
    ((ref05_Copy v1 v2 v3 v4).bind fun (v8, v9, v10, v11) =>
    (figure_Clarity v8 v9 v10 v11 v5).bind fun (v12, v13, v14) =>
    (ref05_AskErr v1 v2 v3 v4).bind fun v15 =>
    if (decide (v15 = 0)) = true then
      ((ref05_TimeErr v5).bind fun v16 =>
      if (decide (v16 = 0)) = true then
        ((ref05_Clarity v1 v2 v3 v4 v5).bind fun (v17, v18, v19) =>
        if (decide (v14 = v19)) = true then
          (some (([v12 == v17, v13 == v18].all id)))
        else
          (some (false)))
      else
        (if (decide (v14 = v16)) = true then
          (some (([v12 == 0, v13 == 0].all id)))
        else
          (some (false))))
    else
      (if (decide (v14 = v15)) = true then
        (some (([v12 == 0, v13 == 0].all id)))
      else
        (some (false))))
  else
    (some (true))

end Go.Rex

namespace Go.Rex
open Go Go.Rex
noncomputable def figure_Decay (v1 : Int) (v2 : (List Nat)) (v3 : Int) : Option (Int × Int × Int) :=
  (figure_plain v1 v2).bind fun (v7, v8) =>
  (figure_DecayWithin v7 v8 0 0 v3).bind fun (v9, v10, v11) =>
  some (v9, v10, v11)

end Go.Rex

namespace Go.Rex
open Go Go.Rex
noncomputable def ref05_IsKind (v1 : Int) : Option (Bool) :=
  (base_Within v1 0 2).bind fun v3 =>
  some (v3)

end Go.Rex

namespace Go.Rex
open Go Go.Rex
noncomputable def ref05_passing_l1 (v1 : Int) (v2 : (List Nat)) (v3 : Int) (v4 : Int) (v5 : Int) (v9 : Int) (v10 : Int) : (Int × Int) → Option ((Int × Int) ⊕ ((Int × Int) ⊕ (Unit))) := fun (v11, v12) =>
  if (decide (v12 < (v2.length : Int))) = true then
    ((ref05_sum v1 v2 v3 v4 v12).bind fun (v21, v22) =>
    if (decide (v11 < 0)) = true then
      ((ref05_passed v21 v10 v5).bind fun v23 =>
      if v23 = true then
        ((ref05_passed v22 v9 v5).bind fun v24 =>
        if v24 = true then
          (some (.inr (.inl ((if (IntKind.i64.wrap (v12 - 1)) > 0 then (IntKind.i64.wrap (v12 - 1)) else 0), v12))))
        else
          (some (.inl (v12, (IntKind.i64.wrap (v12 + 1))))))
      else
        ((ref05_passed v22 v9 v5).bind fun v25 =>
        if v25 = true then
          (some (.inr (.inl ((if (IntKind.i64.wrap (v11 - 1)) > 0 then (IntKind.i64.wrap (v11 - 1)) else 0), v12))))
        else
          (some (.inl (v11, (IntKind.i64.wrap (v12 + 1)))))))
    else
      ((ref05_passed v22 v9 v5).bind fun v26 =>
      if v26 = true then
        (some (.inr (.inl ((if (IntKind.i64.wrap (v11 - 1)) > 0 then (IntKind.i64.wrap (v11 - 1)) else 0), v12))))
      else
        (some (.inl (v11, (IntKind.i64.wrap (v12 + 1)))))))
  else
    (some (.inr (.inr ())))
noncomputable def ref05_passing (v1 : Int) (v2 : (List Nat)) (v3 : Int) (v4 : Int) (v5 : Int) : Option (Int × Int × Bool) :=
  (ref05_sum v1 v2 v3 v4 0).bind fun (v9, v10) =>
  (run (ref05_passing_l1 v1 v2 v3 v4 v5 v9 v10) ((-1), 0)).bind fun v27 => match v27 with
  | (.inl (v28, v29)) =>
    some (v28, v29, true)
  | (.inr _) =>
    some (0, 0, false)

end Go.Rex

namespace Go.Rex
open Go Go.Rex
noncomputable def ref05_DecayWithin (v1 : Int) (v2 : (List Nat)) (v3 : Int) (v4 : Int) (v5 : Int) : Option (Int × Int × Int) :=
  (ref05_sum v1 v2 v3 v4 0).bind fun (v9, v10) =>
  if (decide (v9 = 0)) = true then
    (some (0, 0, 11))
  else
    (if (decide (v5 = 0)) = true then
      ((ref05_passing v1 v2 v3 v4 2).bind fun (v11, v12, v13) =>
      if v13 = true then
        ((base_Floor (IntKind.i64.wrap ((IntKind.i64.wrap (6 * v11)) * 1000000)) v1).bind fun v14 =>
        (base_Ceil (IntKind.i64.wrap ((IntKind.i64.wrap (6 * v12)) * 1000000)) v1).bind fun v15 =>
        some (v14, v15, 0))
      else
        (some (0, 0, 12)))
    else
      (if (decide (v5 = 2)) = true then
        ((ref05_passing v1 v2 v3 v4 1).bind fun (v16, v17, v18) =>
        (ref05_passing v1 v2 v3 v4 7).bind fun (v19, v20, v21) =>
        if v18 = true then
          (if v21 = true then
            ((base_Floor (IntKind.i64.wrap ((IntKind.i64.wrap (2 * (if (IntKind.i64.wrap (v19 - v17)) > 0 then (IntKind.i64.wrap (v19 - v17)) else 0))) * 1000000)) v1).bind fun v22 =>
            (base_Ceil (IntKind.i64.wrap ((IntKind.i64.wrap (2 * (IntKind.i64.wrap (v20 - v16)))) * 1000000)) v1).bind fun v23 =>
            some (v22, v23, 0))
          else
            (some (0, 0, 12)))
        else
          (some (0, 0, 12)))
      else
        ((ref05_passing v1 v2 v3 v4 1).bind fun (v24, v25, v26) =>
        (ref05_passing v1 v2 v3 v4 5).bind fun (v27, v28, v29) =>
        if v26 = true then
          (if v29 = true then
            ((base_Floor (IntKind.i64.wrap ((IntKind.i64.wrap (3 * (if (IntKind.i64.wrap (v27 - v25)) > 0 then (IntKind.i64.wrap (v27 - v25)) else 0))) * 1000000)) v1).bind fun v30 =>
            (base_Ceil (IntKind.i64.wrap ((IntKind.i64.wrap (3 * (IntKind.i64.wrap (v28 - v24)))) * 1000000)) v1).bind fun v31 =>
            some (v30, v31, 0))
          else
            (some (0, 0, 12)))
        else
          (some (0, 0, 12)))))

end Go.Rex

namespace Go.Rex
open Go Go.Rex
noncomputable def law05_FigureDecays (v1 : Int) (v2 : (List Nat)) (v3 : Int) (v4 : Int) (v5 : Int) : Option Bool :=
  (law05_Few v1 v2).bind fun v7 =>
  if v7 = true then
    ((base_CopyResponse v1 v2).bind fun (v8, v9) =>
    (figure_Decay v8 v9 v5).bind fun (v10, v11, v12) =>
    (ref05_Copy v1 v2 v3 v4).bind fun (v13, v14, v15, v16) =>
    (figure_DecayWithin v13 v14 v15 v16 v5).bind fun (v17, v18, v19) =>
    (ref05_ResponseErr v1 v2).bind fun v20 =>
    (ref05_AskErr v1 v2 v3 v4).bind fun v21 =>
    (ref05_IsKind v5).bind fun v22 =>
    if v22 = true then
      (if (decide (v20 = 0)) = true then
        ((ref05_Plain v1 v2).bind fun (v23, v24) =>
        (ref05_DecayWithin v23 v24 0 0 v5).bind fun (v25, v26, v27) =>
        if (decide (v21 = 0)) = true then
          ((ref05_DecayWithin v1 v2 v3 v4 v5).bind fun (v28, v29, v30) =>
          if (decide (v12 = v27)) = true then
            (if ([v10 == v25, v11 == v26].all id) = true then
              (if (decide (v19 = v30)) = true then
                (some (([v17 == v28, v18 == v29].all id)))
              else
                (some (false)))
            else
              (some (false)))
          else
            (some (false)))
        else
          (if (decide (v12 = v27)) = true then
            (if ([v10 == v25, v11 == v26].all id) = true then
              (if (decide (v19 = v21)) = true then
                (some (([v17 == 0, v18 == 0].all id)))
              else
                (some (false)))
            else
              (some (false)))
          else
            (some (false))))
      else
        (if (decide (v21 = 0)) = true then
          ((ref05_DecayWithin v1 v2 v3 v4 v5).bind fun (v31, v32, v33) =>
          if (decide (v12 = v20)) = true then
            (if ([v10 == 0, v11 == 0].all id) = true then
              (if (decide (v19 = v33)) = true then
                (some (([v17 == v31, v18 == v32].all id)))
              else
                (some (false)))
            else
              (some (false)))
          else
            (some (false)))
        else
          (if (decide (v12 = v20)) = true then
            (if ([v10 == 0, v11 == 0].all id) = true then
              (if (decide (v19 = v21)) = true then
                (some (([v17 == 0, v18 == 0].all id)))
              else
                (some (false)))
            else
              (some (false)))
          else
            (some (false)))))
    else
      (if (decide (v20 = 0)) = true then
        (if (decide (v21 = 0)) = true then
          (if (decide (v12 = 15)) = true then
            (if ([v10 == 0, v11 == 0].all id) = true then
              (if (decide (v19 = 15)) = true then
                (some (([v17 == 0, v18 == 0].all id)))
              else
                (some (false)))
            else
              (some (false)))
          else
            (some (false)))
        else
          (if (decide (v12 = 15)) = true then
            (if ([v10 == 0, v11 == 0].all id) = true then
              (if (decide (v19 = v21)) = true then
                (some (([v17 == 0, v18 == 0].all id)))
              else
                (some (false)))
            else
              (some (false)))
          else
            (some (false))))
      else
        (if (decide (v21 = 0)) = true then
          (if (decide (v12 = v20)) = true then
            (if ([v10 == 0, v11 == 0].all id) = true then
              (if (decide (v19 = 15)) = true then
                (some (([v17 == 0, v18 == 0].all id)))
              else
                (some (false)))
            else
              (some (false)))
          else
            (some (false)))
        else
          (if (decide (v12 = v20)) = true then
            (if ([v10 == 0, v11 == 0].all id) = true then
              (if (decide (v19 = v21)) = true then
                (some (([v17 == 0, v18 == 0].all id)))
              else
                (some (false)))
            else
              (some (false)))
          else
            (some (false))))))
  else
    (some (true))

end Go.Rex

namespace Go.Rex
open Go Go.Rex
noncomputable def figure_heard_moment_l1 (v1 : Int) (v2 : (List Nat)) (v3 : Int) (v4 : Int) (v7 : Int) : (Int × Int × Int) → Option ((Int × Int × Int) ⊕ ((Int × Int))) := fun (v8, v9, v10) =>
  if (decide (v10 < v7)) = true then
    ((figure_heard_square v1 v2 v3 v4 v10).bind fun (v19, v20) =>
    (figure_ends_times v19 v20 v10).bind fun (v21, v22) =>
    (figure_ends_plus v8 v9 v21 v22).bind fun (v23, v24) =>
    some (.inl (v23, v24, (IntKind.i64.wrap (v10 + 1)))))
  else
    (some (.inr (v8, v9)))
noncomputable def figure_heard_moment (v1 : Int) (v2 : (List Nat)) (v3 : Int) (v4 : Int) : Option (Int × Int) :=
  (figure_heard_count v1 v2 v3 v4).bind fun v7 =>
  (run (figure_heard_moment_l1 v1 v2 v3 v4 v7) (0, 0, 0)).bind fun (v25, v26) =>
  some (v25, v26)

end Go.Rex

namespace Go.Rex
open Go Go.Rex
def txt_c95356 : ByteArray := ⟨#[0, 1, 2, 2, 3, 3, 3, 3, 4, 4, 4, 4, 4, 4, 4, 4, 5, 5, 5, 5, 5, 5, 5, 5, 5, 5, 5, 5, 5, 5, 5, 5, 6, 6, 6, 6, 6, 6, 6, 6, 6, 6, 6, 6, 6, 6, 6, 6, 6, 6, 6, 6, 6, 6, 6, 6, 6, 6, 6, 6, 6, 6, 6, 6, 7, 7, 7, 7, 7, 7, 7, 7, 7, 7, 7, 7, 7, 7, 7, 7, 7, 7, 7, 7, 7, 7, 7, 7, 7, 7, 7, 7, 7, 7, 7, 7, 7, 7, 7, 7, 7, 7, 7, 7, 7, 7, 7, 7, 7, 7, 7, 7, 7, 7, 7, 7, 7, 7, 7, 7, 7, 7, 7, 7, 7, 7, 7, 7, 8, 8, 8, 8, 8, 8, 8, 8, 8, 8, 8, 8, 8, 8, 8, 8, 8, 8, 8, 8, 8, 8, 8, 8, 8, 8, 8, 8, 8, 8, 8, 8, 8, 8, 8, 8, 8, 8, 8, 8, 8, 8, 8, 8, 8, 8, 8, 8, 8, 8, 8, 8, 8, 8, 8, 8, 8, 8, 8, 8, 8, 8, 8, 8, 8, 8, 8, 8, 8, 8, 8, 8, 8, 8, 8, 8, 8, 8, 8, 8, 8, 8, 8, 8, 8, 8, 8, 8, 8, 8, 8, 8, 8, 8, 8, 8, 8, 8, 8, 8, 8, 8, 8, 8, 8, 8, 8, 8, 8, 8, 8, 8, 8, 8, 8, 8, 8, 8, 8, 8, 8, 8, 8, 8, 8, 8, 8, 8]⟩
noncomputable def math_bits_Len64 (v1 : Int) : Option (Int) :=
  if (decide (v1 ≥ 4294967296)) = true then
    ((shI .shr .u64 v1 32).bind fun v3 =>
    if (decide (v3 ≥ 65536)) = true then
      ((shI .shr .u64 v3 16).bind fun v4 =>
      if (decide (v4 ≥ 256)) = true then
        ((shI .shr .u64 v4 8).bind fun v5 =>
        (strI txt_c95356 (IntKind.u8.wrap v5)).bind fun v6 =>
        some ((IntKind.i64.wrap (56 + (IntKind.i64.wrap v6)))))
      else
        ((strI txt_c95356 (IntKind.u8.wrap v4)).bind fun v7 =>
        some ((IntKind.i64.wrap (48 + (IntKind.i64.wrap v7))))))
    else
      (if (decide (v3 ≥ 256)) = true then
        ((shI .shr .u64 v3 8).bind fun v8 =>
        (strI txt_c95356 (IntKind.u8.wrap v8)).bind fun v9 =>
        some ((IntKind.i64.wrap (40 + (IntKind.i64.wrap v9)))))
      else
        ((strI txt_c95356 (IntKind.u8.wrap v3)).bind fun v10 =>
        some ((IntKind.i64.wrap (32 + (IntKind.i64.wrap v10)))))))
  else
    (if (decide (v1 ≥ 65536)) = true then
      ((shI .shr .u64 v1 16).bind fun v11 =>
      if (decide (v11 ≥ 256)) = true then
        ((shI .shr .u64 v11 8).bind fun v12 =>
        (strI txt_c95356 (IntKind.u8.wrap v12)).bind fun v13 =>
        some ((IntKind.i64.wrap (24 + (IntKind.i64.wrap v13)))))
      else
        ((strI txt_c95356 (IntKind.u8.wrap v11)).bind fun v14 =>
        some ((IntKind.i64.wrap (16 + (IntKind.i64.wrap v14))))))
    else
      (if (decide (v1 ≥ 256)) = true then
        ((shI .shr .u64 v1 8).bind fun v15 =>
        (strI txt_c95356 (IntKind.u8.wrap v15)).bind fun v16 =>
        some ((IntKind.i64.wrap (8 + (IntKind.i64.wrap v16)))))
      else
        ((strI txt_c95356 (IntKind.u8.wrap v1)).bind fun v17 =>
        some ((IntKind.i64.wrap (0 + (IntKind.i64.wrap v17)))))))

end Go.Rex

namespace Go.Rex
open Go Go.Rex
noncomputable def math_bits_LeadingZeros64 (v1 : Int) : Option (Int) :=
  (math_bits_Len64 v1).bind fun v3 =>
  some ((IntKind.i64.wrap (64 - v3)))

end Go.Rex

namespace Go.Rex
open Go Go.Rex
noncomputable def math_bits_Div64_l1 (v7 : Int) (v8 : Int) (v12 : Int) : (Int × Int) → Option ((Int × Int) ⊕ ((Int))) := fun (v13, v14) =>
  if (decide (v13 ≥ 4294967296)) = true then
    (if (decide ((IntKind.u64.wrap (v14 + v8)) ≥ 4294967296)) = true then
      (some (.inr (IntKind.u64.wrap (v13 - 1))))
    else
      (some (.inl ((IntKind.u64.wrap (v13 - 1)), (IntKind.u64.wrap (v14 + v8))))))
  else
    (if (decide ((IntKind.u64.wrap (v13 * (bitI .and .u64 v7 4294967295))) > (IntKind.u64.wrap ((IntKind.u64.wrap (4294967296 * v14)) + v12)))) = true then
      (if (decide ((IntKind.u64.wrap (v14 + v8)) ≥ 4294967296)) = true then
        (some (.inr (IntKind.u64.wrap (v13 - 1))))
      else
        (some (.inl ((IntKind.u64.wrap (v13 - 1)), (IntKind.u64.wrap (v14 + v8))))))
    else
      (some (.inr v13)))
noncomputable def math_bits_Div64_l2 (v7 : Int) (v8 : Int) (v11 : Int) : (Int × Int) → Option ((Int × Int) ⊕ ((Int))) := fun (v17, v18) =>
  if (decide (v18 ≥ 4294967296)) = true then
    (if (decide ((IntKind.u64.wrap (v17 + v8)) ≥ 4294967296)) = true then
      (some (.inr (IntKind.u64.wrap (v18 - 1))))
    else
      (some (.inl ((IntKind.u64.wrap (v17 + v8)), (IntKind.u64.wrap (v18 - 1))))))
  else
    (if (decide ((IntKind.u64.wrap (v18 * (bitI .and .u64 v7 4294967295))) > (IntKind.u64.wrap ((IntKind.u64.wrap (4294967296 * v17)) + (bitI .and .u64 v11 4294967295))))) = true then
      (if (decide ((IntKind.u64.wrap (v17 + v8)) ≥ 4294967296)) = true then
        (some (.inr (IntKind.u64.wrap (v18 - 1))))
      else
        (some (.inl ((IntKind.u64.wrap (v17 + v8)), (IntKind.u64.wrap (v18 - 1))))))
    else
      (some (.inr v18)))
noncomputable def math_bits_Div64 (v1 : Int) (v2 : Int) (v3 : Int) : Option (Int × Int) :=
  if (decide (v3 = 0)) = true then
    (none)
  else
    (if (decide (v3 ≤ v1)) = true then
      (none)
    else
      (if (decide (v1 = 0)) = true then
        (if v3 = 0 then none else
        (some ((IntKind.u64.wrap (v2.tdiv v3)), (v2.tmod v3))))
      else
        ((math_bits_LeadingZeros64 v3).bind fun v6 =>
        (shI .shl .u64 v3 (IntKind.u64.wrap v6)).bind fun v7 =>
        (shI .shr .u64 v7 32).bind fun v8 =>
        (shI .shl .u64 v1 (IntKind.u64.wrap v6)).bind fun v9 =>
        (shI .shr .u64 v2 (IntKind.u64.wrap (64 - (IntKind.u64.wrap v6)))).bind fun v10 =>
        (shI .shl .u64 v2 (IntKind.u64.wrap v6)).bind fun v11 =>
        (shI .shr .u64 v11 32).bind fun v12 =>
        if v8 = 0 then none else
        ((run (math_bits_Div64_l1 v7 v8 v12) ((IntKind.u64.wrap ((bitI .or .u64 v9 v10).tdiv v8)), (IntKind.u64.wrap ((bitI .or .u64 v9 v10) - (IntKind.u64.wrap ((IntKind.u64.wrap ((bitI .or .u64 v9 v10).tdiv v8)) * v8)))))).bind fun v16 =>
        (run (math_bits_Div64_l2 v7 v8 v11) ((IntKind.u64.wrap ((IntKind.u64.wrap ((IntKind.u64.wrap ((IntKind.u64.wrap ((bitI .or .u64 v9 v10) * 4294967296)) + v12)) - (IntKind.u64.wrap (v16 * v7)))) - (IntKind.u64.wrap ((IntKind.u64.wrap ((IntKind.u64.wrap ((IntKind.u64.wrap ((IntKind.u64.wrap ((bitI .or .u64 v9 v10) * 4294967296)) + v12)) - (IntKind.u64.wrap (v16 * v7)))).tdiv v8)) * v8)))), (IntKind.u64.wrap ((IntKind.u64.wrap ((IntKind.u64.wrap ((IntKind.u64.wrap ((bitI .or .u64 v9 v10) * 4294967296)) + v12)) - (IntKind.u64.wrap (v16 * v7)))).tdiv v8)))).bind fun v20 =>
        (shI .shr .u64 (IntKind.u64.wrap ((IntKind.u64.wrap ((IntKind.u64.wrap ((IntKind.u64.wrap ((IntKind.u64.wrap ((IntKind.u64.wrap ((bitI .or .u64 v9 v10) * 4294967296)) + v12)) - (IntKind.u64.wrap (v16 * v7)))) * 4294967296)) + (bitI .and .u64 v11 4294967295))) - (IntKind.u64.wrap (v20 * v7)))) (IntKind.u64.wrap v6)).bind fun v21 =>
        some ((IntKind.u64.wrap ((IntKind.u64.wrap (v16 * 4294967296)) + v20)), v21)))))

end Go.Rex

namespace Go.Rex
open Go Go.Rex
noncomputable def figure_wide_over (v1 : Int) (v2 : Int) (v3 : Int) : Option (Int × Int) :=
  (math_bits_Div64 v1 v2 (IntKind.u64.wrap v3)).bind fun (v6, v7) =>
  if (decide (v7 > 0)) = true then
    (some ((IntKind.i64.wrap v6), (IntKind.i64.wrap ((IntKind.i64.wrap v6) + 1))))
  else
    (some ((IntKind.i64.wrap v6), (IntKind.i64.wrap v6)))

end Go.Rex

namespace Go.Rex
open Go Go.Rex
noncomputable def figure_heard_centre (v1 : Int) (v2 : (List Nat)) (v3 : Int) (v4 : Int) : Option (Int × Int × Int) :=
  (figure_heard_all v1 v2 v3 v4).bind fun (v8, v9) =>
  (figure_heard_moment v1 v2 v3 v4).bind fun (v10, v11) =>
  (figure_refuse (decide (v4 ≠ 0)) 23).bind fun v12 =>
  (figure_refuse (decide (v8 = 0)) 11).bind fun v13 =>
  (figure_firstError ([v12, v13] : List Int)).bind fun v14 =>
  if (decide (v14 ≠ 0)) = true then
    (some (0, 0, v14))
  else
    ((figure_product v10 1000000).bind fun (v15, v16) =>
    (figure_wide_over v15 v16 (IntKind.i64.wrap (v9 * v1))).bind fun (v17, v18) =>
    (figure_product v11 1000000).bind fun (v19, v20) =>
    (figure_wide_over v19 v20 (IntKind.i64.wrap (v8 * v1))).bind fun (v21, v22) =>
    (figure_heard_count v1 v2 v3 v4).bind fun v23 =>
    (figure_between (IntKind.i64.wrap (v23 - 1)) (IntKind.i64.wrap (v23 - 1))).bind fun (v24, v25) =>
    (figure_heard_time v1 v2 v3 v4 v24 v25).bind fun (v26, v27) =>
    (figure_between v17 (if v27 < v22 then v27 else v22)).bind fun (v28, v29) =>
    some (v28, v29, 0))

end Go.Rex

namespace Go.Rex
open Go Go.Rex
noncomputable def figure_Centre (v1 : Int) (v2 : (List Nat)) (v3 : Int) (v4 : Int) : Option (Int × Int × Int) :=
  (figure_hear v1 v2 v3 v4).bind fun (v8, v9, v10, v11, v12) =>
  if (decide (v12 ≠ 0)) = true then
    (some (0, 0, v12))
  else
    ((figure_heard_centre v8 v9 v10 v11).bind fun (v13, v14, v15) =>
    some (v13, v14, v15))

end Go.Rex

namespace Go.Rex
open Go Go.Rex
noncomputable def ref05_Centre_l1 (v1 : Int) (v2 : (List Nat)) (v3 : Int) (v4 : Int) : (Int × Int × Int) → Option ((Int × Int × Int) ⊕ ((Int × Int))) := fun (v10, v11, v12) =>
  if (decide (v12 < (v2.length : Int))) = true then
    ((ref05_square v1 v2 v3 v4 v12).bind fun (v17, v18) =>
    some (.inl ((IntKind.i64.wrap (v10 + (IntKind.i64.wrap (v12 * v17)))), (IntKind.i64.wrap (v11 + (IntKind.i64.wrap (v12 * v18)))), (IntKind.i64.wrap (v12 + 1)))))
  else
    (some (.inr (v10, v11)))
noncomputable def ref05_Centre (v1 : Int) (v2 : (List Nat)) (v3 : Int) (v4 : Int) : Option (Int × Int × Int) :=
  if (decide (v4 ≠ 0)) = true then
    (some (0, 0, 23))
  else
    ((ref05_sum v1 v2 v3 v4 0).bind fun (v8, v9) =>
    if (decide (v8 = 0)) = true then
      (some (0, 0, 11))
    else
      ((run (ref05_Centre_l1 v1 v2 v3 v4) (0, 0, 0)).bind fun (v19, v20) =>
      if v9 = 0 then none else
      ((base_Floor (IntKind.i64.wrap ((v19.tmod v9) * 1000000)) v9).bind fun v21 =>
      (base_Floor (IntKind.i64.wrap ((IntKind.i64.wrap ((IntKind.i64.wrap (v19.tdiv v9)) * 1000000)) + v21)) v1).bind fun v22 =>
      (base_Ceil (IntKind.i64.wrap ((IntKind.i64.wrap ((v2.length : Int) - 1)) * 1000000)) v1).bind fun v23 =>
      if v8 = 0 then none else
      (if (decide ((IntKind.i64.wrap (v20.tdiv v8)) < (v2.length : Int))) = true then
        ((base_Ceil (IntKind.i64.wrap ((v20.tmod v8) * 1000000)) v8).bind fun v24 =>
        (base_Ceil (IntKind.i64.wrap ((IntKind.i64.wrap ((IntKind.i64.wrap (v20.tdiv v8)) * 1000000)) + v24)) v1).bind fun v25 =>
        some (v22, (if v25 < v23 then v25 else v23), 0))
      else
        (some (v22, v23, 0))))))

end Go.Rex

namespace Go.Rex
open Go Go.Rex
noncomputable def law05_FigureCentres (v1 : Int) (v2 : (List Nat)) (v3 : Int) (v4 : Int) : Option Bool :=
  (law05_Few v1 v2).bind fun v6 =>
  if v6 = true then
    ((ref05_Copy v1 v2 v3 v4).bind fun (v7, v8, v9, v10) =>
    (figure_Centre v7 v8 v9 v10).bind fun (v11, v12, v13) =>
    (ref05_AskErr v1 v2 v3 v4).bind fun v14 =>
    if (decide (v14 = 0)) = true then
      ((ref05_Centre v1 v2 v3 v4).bind fun (v15, v16, v17) =>
      if (decide (v13 = v17)) = true then
        (some (([v11 == v15, v12 == v16].all id)))
      else
        (some (false)))
    else
      (if (decide (v13 = v14)) = true then
        (some (([v11 == 0, v12 == 0].all id)))
      else
        (some (false))))
  else
    (some (true))

end Go.Rex

namespace Go.Rex
open Go Go.Rex
noncomputable def law05_FigureScales_l1 (v2 : (List Nat)) (v3 : Int) : ((List Nat) × Int) → Option (((List Nat) × Int) ⊕ ((Unit) ⊕ ((List Nat)))) := fun (v12, v13) =>
  if (decide (v13 < (v2.length : Int))) = true then
    ((getI v2 v13).bind fun v18 =>
    if (fcmp .gtr .f32 v18 1133903872) = true then
      (some (.inr (.inl ())))
    else
      (if (fcmp .lss .f32 v18 3281387520) = true then
        (some (.inr (.inl ())))
      else
        ((farith .mul .f32 (FloatKind.f32.nearest v3) v18).bind fun v19 =>
        (getI v12 v13).bind fun v20 =>
        some (.inl ((v12.set v13.toNat v19), (IntKind.i64.wrap (v13 + 1)))))))
  else
    (some (.inr (.inr v12)))
noncomputable def law05_FigureScales_l2 (v1 : Int) (v2 : (List Nat)) (v10 : Int) (v22 : (List Nat)) : (Int) → Option ((Int) ⊕ ((Unit) ⊕ (Unit))) := fun v23 =>
  if (decide (v23 ≤ 12)) = true then
    ((base_CopyResponse v1 v2).bind fun (v32, v33) =>
    (figure_FirstBelow v32 v33 v23).bind fun (v34, v35) =>
    (base_CopyResponse v10 v22).bind fun (v36, v37) =>
    (figure_FirstBelow v36 v37 v23).bind fun (v38, v39) =>
    if (decide (v35 ≠ v39)) = true then
      (some (.inr (.inl ())))
    else
      (if (decide (v34 ≠ v38)) = true then
        (some (.inr (.inl ())))
      else
        (some (.inl (IntKind.i64.wrap (v23 + 1))))))
  else
    (some (.inr (.inr ())))
noncomputable def law05_FigureScales_l3 (v1 : Int) (v2 : (List Nat)) (v10 : Int) (v22 : (List Nat)) : (Int) → Option ((Int) ⊕ ((Unit) ⊕ (Unit))) := fun v41 =>
  if (decide (v41 ≤ 2)) = true then
    ((base_CopyResponse v1 v2).bind fun (v52, v53) =>
    (figure_Decay v52 v53 v41).bind fun (v54, v55, v56) =>
    (base_CopyResponse v10 v22).bind fun (v57, v58) =>
    (figure_Decay v57 v58 v41).bind fun (v59, v60, v61) =>
    if (decide (v56 ≠ v61)) = true then
      (some (.inr (.inl ())))
    else
      (if ([v54 == v59, v55 == v60].all id) = true then
        (some (.inl (IntKind.i64.wrap (v41 + 1))))
      else
        (some (.inr (.inl ())))))
  else
    (some (.inr (.inr ())))
noncomputable def law05_FigureScales (v1 : Int) (v2 : (List Nat)) (v3 : Int) (v4 : Int) : Option Bool :=
  (law05_Few v1 v2).bind fun v6 =>
  if v6 = true then
    ((ref05_ResponseErr v1 v2).bind fun v7 =>
    if (decide (v7 ≠ 0)) = true then
      (some (true))
    else
      ((base_Within v3 1 100).bind fun v8 =>
      if v8 = true then
        ((ref05_TimeErr v4).bind fun v9 =>
        if (decide (v9 ≠ 0)) = true then
          (some (true))
        else
          ((base_CopyResponse v1 v2).bind fun (v10, v11) =>
          (run (law05_FigureScales_l1 v2 v3) (v11, 0)).bind fun v21 => match v21 with
          | (.inl _) =>
            some (true)
          | (.inr v22) =>
            (run (law05_FigureScales_l2 v1 v2 v10 v22) 0).bind fun v40 => match v40 with
            | (.inl _) =>
              some (false)
            | (.inr _) =>
              (run (law05_FigureScales_l3 v1 v2 v10 v22) 0).bind fun v62 => match v62 with
              | (.inl _) =>
                some (false)
              | (.inr _) =>
                (ref05_Copy v1 v2 0 0).bind fun (v63, v64, v65, v66) =>
                (figure_Clarity v63 v64 v65 v66 v4).bind fun (v67, v68, v69) =>
                (ref05_Copy v10 v22 0 0).bind fun (v70, v71, v72, v73) =>
                (figure_Clarity v70 v71 v72 v73 v4).bind fun (v74, v75, v76) =>
                (base_CopyResponse v1 v2).bind fun (v77, v78) =>
                (figure_Definition v77 v78 v4).bind fun (v79, v80, v81) =>
                (base_CopyResponse v10 v22).bind fun (v82, v83) =>
                (figure_Definition v82 v83 v4).bind fun (v84, v85, v86) =>
                (ref05_Copy v1 v2 0 0).bind fun (v87, v88, v89, v90) =>
                (figure_Centre v87 v88 v89 v90).bind fun (v91, v92, v93) =>
                (ref05_Copy v10 v22 0 0).bind fun (v94, v95, v96, v97) =>
                (figure_Centre v94 v95 v96 v97).bind fun (v98, v99, v100) =>
                if (decide (v69 = v76)) = true then
                  (if ([v67 == v74, v68 == v75].all id) = true then
                    (if (decide (v81 = v86)) = true then
                      (if ([v79 == v84, v80 == v85].all id) = true then
                        (if (decide (v93 = v100)) = true then
                          (some (([v91 == v98, v92 == v99].all id)))
                        else
                          (some (false)))
                      else
                        (some (false)))
                    else
                      (some (false)))
                  else
                    (some (false)))
                else
                  (some (false))))
      else
        (some (true))))
  else
    (some (true))

end Go.Rex

namespace Go.Rex
open Go Go.Rex
noncomputable def law05_meets (v1 : Int) (v2 : Int) (v3 : Int) (v4 : Int) : Option (Bool) :=
  some ((decide ((if v3 > v1 then v3 else v1) ≤ (if v4 < v2 then v4 else v2))))

end Go.Rex

namespace Go.Rex
open Go Go.Rex
noncomputable def law05_FigureWithin_l1 (v3 : Int) (v5 : (List Int)) : ((List Nat) × Int) → Option (((List Nat) × Int) ⊕ ((Unit) ⊕ ((List Nat)))) := fun (v14, v15) =>
  if (decide (v15 < (v14.length : Int))) = true then
    (if (decide (v15 < (v5.length : Int))) = true then
      ((getI v5 v15).bind fun v21 =>
      (base_Within v21 (IntKind.i64.wrap (0 - v3)) v3).bind fun v22 =>
      if v22 = true then
        ((getI v14 v15).bind fun v23 =>
        (farith .add .f32 v23 (FloatKind.f32.nearest v21)).bind fun v24 =>
        some (.inl ((v14.set v15.toNat v24), (IntKind.i64.wrap (v15 + 1)))))
      else
        (some (.inr (.inl ()))))
    else
      (some (.inr (.inr v14))))
  else
    (some (.inr (.inr v14)))
noncomputable def law05_FigureWithin_l2 (v6 : (List Int)) : ((List Nat) × Int × Int) → Option (((List Nat) × Int × Int) ⊕ ((Unit) ⊕ ((List Nat) × Int))) := fun (v27, v28, v29) =>
  if (decide (v29 < (v6.length : Int))) = true then
    ((getI v6 v29).bind fun v35 =>
    (base_Within v35 (-32767) 32767).bind fun v36 =>
    if v36 = true then
      ((appI 4 v27 ([(FloatKind.f32.nearest v35)] : List Nat)).bind fun v37 =>
      some (.inl (v37, (IntKind.i64.wrap (v28 + (IntKind.i64.wrap (v35 * v35)))), (IntKind.i64.wrap (v29 + 1)))))
    else
      (some (.inr (.inl ()))))
  else
    (some (.inr (.inr (v27, v28))))
noncomputable def law05_FigureWithin_l3 (v1 : Int) (v2 : (List Nat)) (v3 : Int) (v4 : Int) (v12 : Int) (v39 : (List Nat)) : (Int) → Option ((Int) ⊕ ((Unit) ⊕ (Unit))) := fun v42 =>
  if (decide (v42 ≤ 2)) = true then
    ((base_CopyResponse v12 v39).bind fun (v56, v57) =>
    (figure_Decay v56 v57 v42).bind fun (v58, v59, v60) =>
    (ref05_Copy v1 v2 v3 v4).bind fun (v61, v62, v63, v64) =>
    (figure_DecayWithin v61 v62 v63 v64 v42).bind fun (v65, v66, v67) =>
    if (decide (v67 = 0)) = true then
      (if (decide (v60 ≠ 0)) = true then
        (some (.inr (.inl ())))
      else
        ((law05_meets v58 v59 v65 v66).bind fun v68 =>
        if v68 = true then
          (some (.inl (IntKind.i64.wrap (v42 + 1))))
        else
          (some (.inr (.inl ())))))
    else
      (some (.inl (IntKind.i64.wrap (v42 + 1)))))
  else
    (some (.inr (.inr ())))
noncomputable def law05_FigureWithin (v1 : Int) (v2 : (List Nat)) (v3 : Int) (v4 : Int) (v5 : (List Int)) (v6 : (List Int)) (v7 : Int) : Option Bool :=
  (law05_Few v1 v2).bind fun v9 =>
  if v9 = true then
    ((ref05_AskErr v1 v2 v3 v4).bind fun v10 =>
    if (decide (v10 ≠ 0)) = true then
      (some (true))
    else
      (if (decide ((v5.length : Int) > 700)) = true then
        (some (true))
      else
        (if (decide ((v6.length : Int) > 10)) = true then
          (some (true))
        else
          ((ref05_TimeErr v7).bind fun v11 =>
          if (decide (v11 ≠ 0)) = true then
            (some (true))
          else
            ((base_CopyResponse v1 v2).bind fun (v12, v13) =>
            (run (law05_FigureWithin_l1 v3 v5) (v13, 0)).bind fun v25 => match v25 with
            | (.inl _) =>
              some (true)
            | (.inr v26) =>
              (run (law05_FigureWithin_l2 v6) (v26, 0, 0)).bind fun v38 => match v38 with
              | (.inl _) =>
                some (true)
              | (.inr (v39, v40)) =>
                if (decide (v40 > v4)) = true then
                  (some (true))
                else
                  ((ref05_ResponseErr v12 v39).bind fun v41 =>
                  if (decide (v41 ≠ 0)) = true then
                    (some (true))
                  else
                    ((run (law05_FigureWithin_l3 v1 v2 v3 v4 v12 v39) 0).bind fun v69 => match v69 with
                    | (.inl _) =>
                      some (false)
                    | (.inr _) =>
                      (ref05_Copy v12 v39 0 0).bind fun (v70, v71, v72, v73) =>
                      (figure_Clarity v70 v71 v72 v73 v7).bind fun (v74, v75, v76) =>
                      (ref05_Copy v1 v2 v3 v4).bind fun (v77, v78, v79, v80) =>
                      (figure_Clarity v77 v78 v79 v80 v7).bind fun (v81, v82, v83) =>
                      if (decide (v76 = 0)) = true then
                        (if (decide (v83 = 0)) = true then
                          ((law05_meets v74 v75 v81 v82).bind fun v84 =>
                          if v84 = true then
                            ((ref05_Copy v12 v39 0 0).bind fun (v85, v86, v87, v88) =>
                            (figure_DefinitionWithin v85 v86 v87 v88 v7).bind fun (v89, v90, v91) =>
                            (ref05_Copy v1 v2 v3 v4).bind fun (v92, v93, v94, v95) =>
                            (figure_DefinitionWithin v92 v93 v94 v95 v7).bind fun (v96, v97, v98) =>
                            if (decide (v91 = 0)) = true then
                              (if (decide (v98 = 0)) = true then
                                ((law05_meets v89 v90 v96 v97).bind fun v99 =>
                                if v99 = true then
                                  ((ref05_Copy v12 v39 0 0).bind fun (v100, v101, v102, v103) =>
                                  (figure_Centre v100 v101 v102 v103).bind fun (v104, v105, v106) =>
                                  (ref05_Copy v1 v2 v3 v4).bind fun (v107, v108, v109, v110) =>
                                  (figure_Centre v107 v108 v109 v110).bind fun (v111, v112, v113) =>
                                  if (decide (v106 ≠ 0)) = true then
                                    (some (true))
                                  else
                                    (if (decide (v113 ≠ 0)) = true then
                                      (some (true))
                                    else
                                      (if (decide ((v6.length : Int) > 0)) = true then
                                        (some (true))
                                      else
                                        ((law05_meets v104 v105 v111 v112).bind fun v114 =>
                                        some (v114)))))
                                else
                                  (some (false)))
                              else
                                ((ref05_Copy v12 v39 0 0).bind fun (v115, v116, v117, v118) =>
                                (figure_Centre v115 v116 v117 v118).bind fun (v119, v120, v121) =>
                                (ref05_Copy v1 v2 v3 v4).bind fun (v122, v123, v124, v125) =>
                                (figure_Centre v122 v123 v124 v125).bind fun (v126, v127, v128) =>
                                if (decide (v121 ≠ 0)) = true then
                                  (some (true))
                                else
                                  (if (decide (v128 ≠ 0)) = true then
                                    (some (true))
                                  else
                                    (if (decide ((v6.length : Int) > 0)) = true then
                                      (some (true))
                                    else
                                      ((law05_meets v119 v120 v126 v127).bind fun v129 =>
                                      some (v129))))))
                            else
                              ((ref05_Copy v12 v39 0 0).bind fun (v130, v131, v132, v133) =>
                              (figure_Centre v130 v131 v132 v133).bind fun (v134, v135, v136) =>
                              (ref05_Copy v1 v2 v3 v4).bind fun (v137, v138, v139, v140) =>
                              (figure_Centre v137 v138 v139 v140).bind fun (v141, v142, v143) =>
                              if (decide (v136 ≠ 0)) = true then
                                (some (true))
                              else
                                (if (decide (v143 ≠ 0)) = true then
                                  (some (true))
                                else
                                  (if (decide ((v6.length : Int) > 0)) = true then
                                    (some (true))
                                  else
                                    ((law05_meets v134 v135 v141 v142).bind fun v144 =>
                                    some (v144))))))
                          else
                            (some (false)))
                        else
                          ((ref05_Copy v12 v39 0 0).bind fun (v145, v146, v147, v148) =>
                          (figure_DefinitionWithin v145 v146 v147 v148 v7).bind fun (v149, v150, v151) =>
                          (ref05_Copy v1 v2 v3 v4).bind fun (v152, v153, v154, v155) =>
                          (figure_DefinitionWithin v152 v153 v154 v155 v7).bind fun (v156, v157, v158) =>
                          if (decide (v151 = 0)) = true then
                            (if (decide (v158 = 0)) = true then
                              ((law05_meets v149 v150 v156 v157).bind fun v159 =>
                              if v159 = true then
                                ((ref05_Copy v12 v39 0 0).bind fun (v160, v161, v162, v163) =>
                                (figure_Centre v160 v161 v162 v163).bind fun (v164, v165, v166) =>
                                (ref05_Copy v1 v2 v3 v4).bind fun (v167, v168, v169, v170) =>
                                (figure_Centre v167 v168 v169 v170).bind fun (v171, v172, v173) =>
                                if (decide (v166 ≠ 0)) = true then
                                  (some (true))
                                else
                                  (if (decide (v173 ≠ 0)) = true then
                                    (some (true))
                                  else
                                    (if (decide ((v6.length : Int) > 0)) = true then
                                      (some (true))
                                    else
                                      ((law05_meets v164 v165 v171 v172).bind fun v174 =>
                                      some (v174)))))
                              else
                                (some (false)))
                            else
                              ((ref05_Copy v12 v39 0 0).bind fun (v175, v176, v177, v178) =>
                              (figure_Centre v175 v176 v177 v178).bind fun (v179, v180, v181) =>
                              (ref05_Copy v1 v2 v3 v4).bind fun (v182, v183, v184, v185) =>
                              (figure_Centre v182 v183 v184 v185).bind fun (v186, v187, v188) =>
                              if (decide (v181 ≠ 0)) = true then
                                (some (true))
                              else
                                (if (decide (v188 ≠ 0)) = true then
                                  (some (true))
                                else
                                  (if (decide ((v6.length : Int) > 0)) = true then
                                    (some (true))
                                  else
                                    ((law05_meets v179 v180 v186 v187).bind fun v189 =>
                                    some (v189))))))
                          else
                            ((ref05_Copy v12 v39 0 0).bind fun (v190, v191, v192, v193) =>
                            (figure_Centre v190 v191 v192 v193).bind fun (v194, v195, v196) =>
                            (ref05_Copy v1 v2 v3 v4).bind fun (v197, v198, v199, v200) =>
                            (figure_Centre v197 v198 v199 v200).bind fun (v201, v202, v203) =>
                            if (decide (v196 ≠ 0)) = true then
                              (some (true))
                            else
                              (if (decide (v203 ≠ 0)) = true then
                                (some (true))
                              else
                                (if (decide ((v6.length : Int) > 0)) = true then
                                  (some (true))
                                else
                                  ((law05_meets v194 v195 v201 v202).bind fun v204 =>
                                  some (v204)))))))
                      else
                        ((ref05_Copy v12 v39 0 0).bind fun (v205, v206, v207, v208) =>
                        (figure_DefinitionWithin v205 v206 v207 v208 v7).bind fun (v209, v210, v211) =>
                        (ref05_Copy v1 v2 v3 v4).bind fun (v212, v213, v214, v215) =>
                        (figure_DefinitionWithin v212 v213 v214 v215 v7).bind fun (v216, v217, v218) =>
                        if (decide (v211 = 0)) = true then
                          (if (decide (v218 = 0)) = true then
                            ((law05_meets v209 v210 v216 v217).bind fun v219 =>
                            if v219 = true then
                              ((ref05_Copy v12 v39 0 0).bind fun (v220, v221, v222, v223) =>
                              (figure_Centre v220 v221 v222 v223).bind fun (v224, v225, v226) =>
                              (ref05_Copy v1 v2 v3 v4).bind fun (v227, v228, v229, v230) =>
                              (figure_Centre v227 v228 v229 v230).bind fun (v231, v232, v233) =>
                              if (decide (v226 ≠ 0)) = true then
                                (some (true))
                              else
                                (if (decide (v233 ≠ 0)) = true then
                                  (some (true))
                                else
                                  (if (decide ((v6.length : Int) > 0)) = true then
                                    (some (true))
                                  else
                                    ((law05_meets v224 v225 v231 v232).bind fun v234 =>
                                    some (v234)))))
                            else
                              (some (false)))
                          else
                            ((ref05_Copy v12 v39 0 0).bind fun (v235, v236, v237, v238) =>
                            (figure_Centre v235 v236 v237 v238).bind fun (v239, v240, v241) =>
                            (ref05_Copy v1 v2 v3 v4).bind fun (v242, v243, v244, v245) =>
                            (figure_Centre v242 v243 v244 v245).bind fun (v246, v247, v248) =>
                            if (decide (v241 ≠ 0)) = true then
                              (some (true))
                            else
                              (if (decide (v248 ≠ 0)) = true then
                                (some (true))
                              else
                                (if (decide ((v6.length : Int) > 0)) = true then
                                  (some (true))
                                else
                                  ((law05_meets v239 v240 v246 v247).bind fun v249 =>
                                  some (v249))))))
                        else
                          ((ref05_Copy v12 v39 0 0).bind fun (v250, v251, v252, v253) =>
                          (figure_Centre v250 v251 v252 v253).bind fun (v254, v255, v256) =>
                          (ref05_Copy v1 v2 v3 v4).bind fun (v257, v258, v259, v260) =>
                          (figure_Centre v257 v258 v259 v260).bind fun (v261, v262, v263) =>
                          if (decide (v256 ≠ 0)) = true then
                            (some (true))
                          else
                            (if (decide (v263 ≠ 0)) = true then
                              (some (true))
                            else
                              (if (decide ((v6.length : Int) > 0)) = true then
                                (some (true))
                              else
                                ((law05_meets v254 v255 v261 v262).bind fun v264 =>
                                some (v264)))))))))))))
  else
    (some (true))

end Go.Rex
