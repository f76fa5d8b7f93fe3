/- The functions of the program and of the reference, as functions of lists and numbers. -/
import Derived.Test.YtjhneebncpmneaaGreatDoorRexG10
set_option linter.unusedSimpArgs false
set_option linter.unusedVariables false
set_option linter.defProp false
namespace Go.Rex
open Go Go.Rex
def e_f(x:Nat):List TV := [.v (.float .f32 x)]
def e_i(x:Int):List TV := [.v (.int .i64 x)]
def e_ii(x:(Int×Int)):List TV := [.v (.int .i64 x.1), .v (.int .i64 x.2)]
def e_iii(x:(Int×Int×Int)):List TV := [.v (.int .i64 x.1), .v (.int .i64 x.2.1), .v (.int .i64 x.2.2)]
def gM:ByteArray := ⟨#[0, 1, 2, 2, 3, 3, 3, 3, 4, 4, 4, 4, 4, 4, 4, 4, 5, 5, 5, 5, 5, 5, 5, 5, 5, 5, 5, 5, 5, 5, 5, 5, 6, 6, 6, 6, 6, 6, 6, 6, 6, 6, 6, 6, 6, 6, 6, 6, 6, 6, 6, 6, 6, 6, 6, 6, 6, 6, 6, 6, 6, 6, 6, 6, 7, 7, 7, 7, 7, 7, 7, 7, 7, 7, 7, 7, 7, 7, 7, 7, 7, 7, 7, 7, 7, 7, 7, 7, 7, 7, 7, 7, 7, 7, 7, 7, 7, 7, 7, 7, 7, 7, 7, 7, 7, 7, 7, 7, 7, 7, 7, 7, 7, 7, 7, 7, 7, 7, 7, 7, 7, 7, 7, 7, 7, 7, 7, 7, 8, 8, 8, 8, 8, 8, 8, 8, 8, 8, 8, 8, 8, 8, 8, 8, 8, 8, 8, 8, 8, 8, 8, 8, 8, 8, 8, 8, 8, 8, 8, 8, 8, 8, 8, 8, 8, 8, 8, 8, 8, 8, 8, 8, 8, 8, 8, 8, 8, 8, 8, 8, 8, 8, 8, 8, 8, 8, 8, 8, 8, 8, 8, 8, 8, 8, 8, 8, 8, 8, 8, 8, 8, 8, 8, 8, 8, 8, 8, 8, 8, 8, 8, 8, 8, 8, 8, 8, 8, 8, 8, 8, 8, 8, 8, 8, 8, 8, 8, 8, 8, 8, 8, 8, 8, 8, 8, 8, 8, 8, 8, 8, 8, 8, 8, 8, 8, 8, 8, 8, 8, 8, 8, 8, 8, 8, 8, 8]⟩
end Go.Rex
namespace Go.Rex
open Go Go.Rex
noncomputable def eG(v1:Int)(v2:(List Nat)):Option (Bool) :=
 if (decide ((v2.length:Int)≤700))=true then
  (some (true))
 else
  (if (decide ((v2.length:Int)>1024))=true then
   (some ((decide ((v2.length:Int)≤1026))))
  else
   (some (false)))
end Go.Rex
namespace Go.Rex
open Go Go.Rex
noncomputable def bD(v1:Int)(v2:Int)(v3:Int):Option (Bool) :=
 if (decide (v2≤v1))=true then
  (some ((decide (v1≤v3))))
 else
  (some (false))
end Go.Rex
namespace Go.Rex
open Go Go.Rex
noncomputable def mD(v1:Int):Option (Bool) :=
 (bD v1 8000 192000).bind fun v3 =>
 some (v3)
end Go.Rex
namespace Go.Rex
open Go Go.Rex
noncomputable def iD(v1:Nat):Option (Bool) :=
 if (fcmp .neq .f64 v1 v1)=true then
  (some (false))
 else
  ((farith .sub .f64 v1 v1).bind fun v3 =>
  if (fcmp .neq .f64 v3 0)=true then
   (some (false))
  else
   (if (fcmp .geq .f64 v1 14069741636278059008)=true then
    (if (fcmp .leq .f64 v1 4846369599423283200)=true then
     ((f2i .f64 v1 .i64).bind fun v4 =>
     some ((fcmp .eql .f64 (FloatKind.f64.nearest v4) v1)))
    else
     (some (true)))
   else
    (some (true))))
end Go.Rex
namespace Go.Rex
open Go Go.Rex
noncomputable def bN(v2:(List Nat)):(Int)→Option ((Int) ⊕ ((Int×Int) ⊕ (Unit))) := fun v6 =>
 if (decide (v6<(v2.length:Int)))=true then
  ((fR v2 v6).bind fun v12 =>
  (f2f .f32 v12 .f64).bind fun v13 =>
  (iD v13).bind fun v14 =>
  if v14=true then
   (if (fcmp .gtr .f64 v13 4674736138332667904)=true then
    (some (.inr (.inl (v6, 2))))
   else
    (if (fcmp .lss .f64 v13 13898108175187443712)=true then
     (some (.inr (.inl (v6, 2))))
    else
     (some (.inl (IntKind.i64.wrap (v6+1))))))
  else
   (some (.inr (.inl (v6, 27)))))
 else
  (some (.inr (.inr ())))
noncomputable def dH(v1:Int)(v2:(List Nat)):Option (Int×Int) :=
 (mD v1).bind fun v5 =>
 if v5=true then
  (if (decide ((v2.length:Int)=0))=true then
   (some (0, 10))
  else
   (if (decide ((v2.length:Int)>1024))=true then
    (some (0, 8))
   else
    ((run (bN v2) 0).bind fun v15 => match v15 with
    | (.inl (v16, v17)) =>
     some (v16, v17)
    | (.inr _) =>
     some (0, 0))))
 else
  (some (0, 2))
end Go.Rex
namespace Go.Rex
open Go Go.Rex
noncomputable def bZ(v1:Int)(v2:(List Nat)):Option (Int) :=
 (dH v1 v2).bind fun (v4, v5) =>
 some (v5)
end Go.Rex
namespace Go.Rex
open Go Go.Rex
noncomputable def gC(v1:Int):Option (Int) :=
 (bD v1 0 1000000).bind fun v3 =>
 if v3=true then
  (some (0))
 else
  (some (2))
end Go.Rex
namespace Go.Rex
open Go Go.Rex
noncomputable def aH(v1:Int)(v2:(List Nat)):Option (Int×(List Nat)) :=
 (Fi 4 ([]:List Nat) v2).bind fun v5 =>
 some (v1, v5)
end Go.Rex
namespace Go.Rex
open Go Go.Rex
noncomputable def dR(v1:Int)(v2:(List Nat)):Option (Int×(List Nat)) :=
 some (v1, v2)
end Go.Rex
namespace Go.Rex
open Go Go.Rex
noncomputable def aL(v1:Bool)(v2:Int):Option (Int) :=
 if v1=true then
  (some (v2))
 else
  (some (0))
end Go.Rex
namespace Go.Rex
open Go Go.Rex
noncomputable def cQ(v1:Int)(v2:Int)(v3:Int):Option (Int) :=
 if (decide (v1<v2))=true then
  ((aL true 2).bind fun v5 =>
  some (v5))
 else
  ((aL (decide (v1>v3)) 2).bind fun v6 =>
  some (v6))
end Go.Rex
namespace Go.Rex
open Go Go.Rex
noncomputable def iV(v1:Int):Option (Int) :=
 (cQ v1 8000 192000).bind fun v3 =>
 some (v3)
end Go.Rex
namespace Go.Rex
open Go Go.Rex
noncomputable def cU(v1:(List Int)):(Int)→Option ((Int) ⊕ ((Int) ⊕ (Unit))) := fun v3 =>
 if (decide (v3<(v1.length:Int)))=true then
  ((fR v1 v3).bind fun v6 =>
  if (decide (v6≠0))=true then
   (some (.inr (.inl v6)))
  else
   (some (.inl (IntKind.i64.wrap (v3+1)))))
 else
  (some (.inr (.inr ())))
noncomputable def aE(v1:(List Int)):Option (Int) :=
 (run (cU v1) 0).bind fun v7 => match v7 with
 | (.inl v8) =>
  some (v8)
 | (.inr _) =>
  some (0)
end Go.Rex
namespace Go.Rex
open Go Go.Rex
noncomputable def mM(v1:Nat):Option (Nat) :=
 (trI .zero v1).bind fun v3 =>
 some (v3)
end Go.Rex
namespace Go.Rex
open Go Go.Rex
noncomputable def vC(v1:Nat):Option (Nat) :=
 (fbits .f64 v1).bind fun v3 =>
 some (((gZ .andNot .u64 v3 9223372036854775808)).toNat)
end Go.Rex
namespace Go.Rex
open Go Go.Rex
noncomputable def oH(v1:Nat)(v2:Int):Option (Bool) :=
 if (decide (v2=0))=true then
  ((vC v1).bind fun v4 =>
  some ((fcmp .gtr .f64 v4 9218868437227405311)))
 else
  (if (decide (v2<0))=true then
   (some ((fcmp .gtr .f64 (Op.negFloat .f64 v1) 9218868437227405311)))
  else
   (some ((fcmp .gtr .f64 v1 9218868437227405311))))
end Go.Rex
namespace Go.Rex
open Go Go.Rex
noncomputable def cN(v1:Nat):Option (Bool) :=
 (f2f .f32 v1 .f64).bind fun v3 =>
 (mM v3).bind fun v4 =>
 if (fcmp .eql .f64 v3 v4)=true then
  ((oH v3 0).bind fun v5 =>
  some ((!v5)))
 else
  (some (false))
end Go.Rex
namespace Go.Rex
open Go Go.Rex
noncomputable def cB(v1:Nat):Option (Int) :=
 (cN v1).bind fun v3 =>
 (aL (!v3) 27).bind fun v4 =>
 if (fcmp .lss .f32 v1 3338665472)=true then
  ((aL true 2).bind fun v5 =>
  (aE ([v4, v5]:List Int)).bind fun v6 =>
  some (v6))
 else
  ((aL (fcmp .gtr .f32 v1 1191181824) 2).bind fun v7 =>
  (aE ([v4, v7]:List Int)).bind fun v8 =>
  some (v8))
end Go.Rex
namespace Go.Rex
open Go Go.Rex
noncomputable def bL(v2:(List Nat)):(Int)→Option ((Int) ⊕ ((Int×Int) ⊕ (Unit))) := fun v9 =>
 if (decide (v9<(v2.length:Int)))=true then
  ((fR v2 v9).bind fun v14 =>
  (cB v14).bind fun v15 =>
  if (decide (v15≠0))=true then
   (some (.inr (.inl (v9, v15))))
  else
   (some (.inl (IntKind.i64.wrap (v9+1)))))
 else
  (some (.inr (.inr ())))
noncomputable def eC(v1:Int)(v2:(List Nat)):Option (Int×Int) :=
 (iV v1).bind fun v5 =>
 (aL (decide ((v2.length:Int)=0)) 10).bind fun v6 =>
 (aL (decide ((v2.length:Int)>1024)) 8).bind fun v7 =>
 (aE ([v5, v6, v7]:List Int)).bind fun v8 =>
 if (decide (v8≠0))=true then
  (some (0, v8))
 else
  ((run (bL v2) 0).bind fun v16 => match v16 with
  | (.inl (v17, v18)) =>
   some (v17, v18)
  | (.inr _) =>
   some (0, 0))
end Go.Rex
namespace Go.Rex
open Go Go.Rex
noncomputable def hG(v1:Int)(v2:(List Nat))(v3:Int)(v4:Int):Option (Int×Int) :=
 (eC v1 v2).bind fun (v7, v8) =>
 if (decide (v8≠0))=true then
  (some (v7, v8))
 else
  ((cQ v3 0 32767).bind fun v9 =>
  (cQ v4 0 1000000000000).bind fun v10 =>
  (aE ([v9, v10]:List Int)).bind fun v11 =>
  some (0, v11))
end Go.Rex
namespace Go.Rex
open Go Go.Rex
noncomputable def dL(v1:Int)(v2:(List Nat))(v3:Int)(v4:Int):Option (Int×(List Nat)×Int×Int×Int) :=
 (hG v1 v2 v3 v4).bind fun (v10, v11) =>
 some (v1, v2, v3, v4, v11)
end Go.Rex
namespace Go.Rex
open Go Go.Rex
noncomputable def aK(v1:Int)(v2:(List Nat))(v3:Int)(v4:Int):Option (Int) :=
 some ((v2.length:Int))
end Go.Rex
namespace Go.Rex
open Go Go.Rex
noncomputable def aJ(v1:Int)(v2:Int):Option (Int×Int) :=
 some (v1, v2)
end Go.Rex
namespace Go.Rex
open Go Go.Rex
noncomputable def fW(v1:Int)(v2:(List Nat))(v3:Int)(v4:Int):Option (Int×Int) :=
 (aJ 0 v4).bind fun (v7, v8) =>
 some (v7, v8)
end Go.Rex
namespace Go.Rex
open Go Go.Rex
noncomputable def dG(v1:Int)(v2:(List Nat))(v3:Int)(v4:Int)(v5:Int):Option (Int×Int) :=
 (fR v2 v5).bind fun v8 =>
 (f2i .f32 v8 .i64).bind fun v9 =>
 (aJ (IntKind.i64.wrap ((if 0>(IntKind.i64.wrap ((if (IntKind.i64.wrap (0-v9))>v9 then (IntKind.i64.wrap (0-v9)) else v9)-v3)) then 0 else (IntKind.i64.wrap ((if (IntKind.i64.wrap (0-v9))>v9 then (IntKind.i64.wrap (0-v9)) else v9)-v3)))*(if 0>(IntKind.i64.wrap ((if (IntKind.i64.wrap (0-v9))>v9 then (IntKind.i64.wrap (0-v9)) else v9)-v3)) then 0 else (IntKind.i64.wrap ((if (IntKind.i64.wrap (0-v9))>v9 then (IntKind.i64.wrap (0-v9)) else v9)-v3))))) (IntKind.i64.wrap ((IntKind.i64.wrap ((if (IntKind.i64.wrap (0-v9))>v9 then (IntKind.i64.wrap (0-v9)) else v9)+v3))*(IntKind.i64.wrap ((if (IntKind.i64.wrap (0-v9))>v9 then (IntKind.i64.wrap (0-v9)) else v9)+v3))))).bind fun (v10, v11) =>
 some (v10, v11)
end Go.Rex
namespace Go.Rex
open Go Go.Rex
noncomputable def eD(v1:Int)(v2:Int)(v3:Int)(v4:Int):Option (Int×Int) :=
 (aJ (IntKind.i64.wrap (v1+v3)) (IntKind.i64.wrap (v2+v4))).bind fun (v7, v8) =>
 some (v7, v8)
end Go.Rex
namespace Go.Rex
open Go Go.Rex
noncomputable def eN(v1:Int)(v2:(List Nat))(v3:Int)(v4:Int):((List (Int×Int))×Int)→Option (((List (Int×Int))×Int) ⊕ (((List (Int×Int))))) := fun (v14, v15) =>
 if (decide (v15≥0))=true then
  ((fR v14 (IntKind.i64.wrap (v15+1))).bind fun (v25, v26) =>
  (dG v1 v2 v3 v4 v15).bind fun (v27, v28) =>
  (eD v25 v26 v27 v28).bind fun (v29, v30) =>
  (fR v14 v15).bind fun (v31, v32) =>
  some (.inl ((v14.set v15.toNat (v29, v30)), (IntKind.i64.wrap (v15-1)))))
 else
  (some (.inr v14))
noncomputable def cG(v1:Int)(v2:(List Nat))(v3:Int)(v4:Int):Option ((List (Int×Int))) :=
 (aK v1 v2 v3 v4).bind fun v6 =>
 (mkI 16 (IntKind.i64.wrap (v6+1)) ((0, 0):(Int×Int))).bind fun v7 =>
 (aK v1 v2 v3 v4).bind fun v8 =>
 (fW v1 v2 v3 v4).bind fun (v9, v10) =>
 (fR v7 v8).bind fun (v11, v12) =>
 (aK v1 v2 v3 v4).bind fun v13 =>
 (run (eN v1 v2 v3 v4) ((v7.set v8.toNat (v9, v10)), (IntKind.i64.wrap (v13-1)))).bind fun v33 =>
 some (v33)
end Go.Rex
namespace Go.Rex
open Go Go.Rex
noncomputable def dT(v1:Int):(Int×Int)→Option ((Int×Int) ⊕ ((Int))) := fun (v3, v4) =>
 if (decide (v4<v1))=true then
  (some (.inl ((IntKind.i64.wrap (v3*10)), (IntKind.i64.wrap (v4+1)))))
 else
  (some (.inr v3))
noncomputable def dU(v1:Int):Option (Int) :=
 (run (dT v1) (1, 0)).bind fun v6 =>
 some (v6)
end Go.Rex
namespace Go.Rex
open Go Go.Rex
noncomputable def fS(v1:Int)(v2:Int):Option (Int×Int) :=
 (shI .shr .u64 v1 32).bind fun v5 =>
 (shI .shr .u64 v2 32).bind fun v6 =>
 (shI .shr .u64 (IntKind.u64.wrap ((gZ .and .u64 v1 4294967295)*(gZ .and .u64 v2 4294967295))) 32).bind fun v7 =>
 (shI .shr .u64 (IntKind.u64.wrap ((IntKind.u64.wrap (v5*(gZ .and .u64 v2 4294967295)))+v7)) 32).bind fun v8 =>
 (shI .shr .u64 (IntKind.u64.wrap ((gZ .and .u64 (IntKind.u64.wrap ((IntKind.u64.wrap (v5*(gZ .and .u64 v2 4294967295)))+v7)) 4294967295)+(IntKind.u64.wrap ((gZ .and .u64 v1 4294967295)*v6)))) 32).bind fun v9 =>
 some ((IntKind.u64.wrap ((IntKind.u64.wrap ((IntKind.u64.wrap (v5*v6))+v8))+v9)), (IntKind.u64.wrap (v1*v2)))
end Go.Rex
namespace Go.Rex
open Go Go.Rex
noncomputable def bF(v1:Int)(v2:Int):Option (Int×Int) :=
 (fS (IntKind.u64.wrap v1) (IntKind.u64.wrap v2)).bind fun (v5, v6) =>
 some (v5, v6)
end Go.Rex
namespace Go.Rex
open Go Go.Rex
noncomputable def cW(v1:Int)(v2:Int)(v3:Int)(v4:Int):Option (Bool) :=
 if (decide (v1<v3))=true then
  (some (true))
 else
  (if (decide (v1=v3))=true then
   (some ((decide (v2≤v4))))
  else
   (some (false)))
end Go.Rex
namespace Go.Rex
open Go Go.Rex
noncomputable def fU(v1:Int)(v2:Int)(v3:Int):Option (Bool) :=
 (dU (IntKind.i64.wrap (v3.tdiv 2))).bind fun v5 =>
 (dU (IntKind.i64.wrap (v3-(IntKind.i64.wrap (v3.tdiv 2))))).bind fun v6 =>
 (bF (IntKind.i64.wrap (v2*v5)) (IntKind.i64.wrap (v2*v6))).bind fun (v7, v8) =>
 (bF v1 v1).bind fun (v9, v10) =>
 (cW v7 v8 v9 v10).bind fun v11 =>
 some (v11)
end Go.Rex
namespace Go.Rex
open Go Go.Rex
noncomputable def eZ(v1:Int)(v2:Int)(v3:(List (Int×Int)))(v4:Int):Option (Bool) :=
 (fR v3 0).bind fun (v6, v7) =>
 (fU v6 v1 v4).bind fun v8 =>
 some (v8)
end Go.Rex
namespace Go.Rex
open Go Go.Rex
noncomputable def aS(v1:(List (Int×Int)))(v2:(List (Int×Int)))(v3:Int):(Int)→Option ((Int) ⊕ ((Int) ⊕ (Unit))) := fun v5 =>
 if (decide (v5<(v1.length:Int)))=true then
  ((fR v1 v5).bind fun (v10, v11) =>
  (eZ v10 v11 v2 v3).bind fun v12 =>
  if v12=true then
   (some (.inr (.inl v5)))
  else
   (some (.inl (IntKind.i64.wrap (v5+1)))))
 else
  (some (.inr (.inr ())))
noncomputable def aX(v1:(List (Int×Int)))(v2:(List (Int×Int)))(v3:Int):Option (Int) :=
 (run (aS v1 v2 v3) 0).bind fun v13 => match v13 with
 | (.inl v14) =>
  some (v14)
 | (.inr _) =>
  some ((-1))
end Go.Rex
namespace Go.Rex
open Go Go.Rex
noncomputable def bJ(v1:Int)(v2:(List Nat))(v3:Int):Option (Int×Int) :=
 (dR v1 v2).bind fun (v6, v7) =>
 (dL v6 v7 0 0).bind fun (v8, v9, v10, v11, v12) =>
 (cQ v3 0 12).bind fun v13 =>
 (aE ([v12, v13]:List Int)).bind fun v14 =>
 if (decide (v14≠0))=true then
  (some (0, v14))
 else
  ((cG v8 v9 v10 v11).bind fun v15 =>
  (fR v15 0).bind fun (v16, v17) =>
  if (decide (v16=0))=true then
   (some (0, 11))
  else
   ((aX v15 v15 v3).bind fun v18 =>
   some (v18, 0)))
end Go.Rex
namespace Go.Rex
open Go Go.Rex
noncomputable def iS(v1:Int):Option (Int) :=
 if (decide (v1<0))=true then
  ((aL true 15).bind fun v3 =>
  some (v3))
 else
  ((aL (decide (v1≥3)) 15).bind fun v4 =>
  some (v4))
end Go.Rex
namespace Go.Rex
open Go Go.Rex
noncomputable def eB(v1:Int)(v2:(List Nat))(v3:Int)(v4:Int):Option (Int×Int) :=
 (cG v1 v2 v3 v4).bind fun v7 =>
 (fR v7 0).bind fun (v8, v9) =>
 some (v8, v9)
end Go.Rex
namespace Go.Rex
open Go Go.Rex
noncomputable def dQ(v1:Int)(v2:Int)(v3:(List (Int×Int)))(v4:Int):Option (Bool) :=
 (fR v3 0).bind fun (v6, v7) =>
 (fU v7 v1 v4).bind fun v8 =>
 some (v8)
end Go.Rex
namespace Go.Rex
open Go Go.Rex
noncomputable def aG(v1:(List (Int×Int)))(v2:(List (Int×Int)))(v3:Int):(Int)→Option ((Int) ⊕ ((Int) ⊕ (Unit))) := fun v5 =>
 if (decide (v5<(v1.length:Int)))=true then
  ((fR v1 v5).bind fun (v10, v11) =>
  (dQ v10 v11 v2 v3).bind fun v12 =>
  if v12=true then
   (some (.inr (.inl v5)))
  else
   (some (.inl (IntKind.i64.wrap (v5+1)))))
 else
  (some (.inr (.inr ())))
noncomputable def aY(v1:(List (Int×Int)))(v2:(List (Int×Int)))(v3:Int):Option (Int) :=
 (run (aG v1 v2 v3) 0).bind fun v13 => match v13 with
 | (.inl v14) =>
  some (v14)
 | (.inr _) =>
  some ((-1))
end Go.Rex
namespace Go.Rex
open Go Go.Rex
noncomputable def dV(v1:Int)(v2:Int)(v3:(List (Int×Int)))(v4:Int):Option (Bool) :=
 (fR v3 0).bind fun (v6, v7) =>
 (fU v6 v2 v4).bind fun v8 =>
 some (v8)
end Go.Rex
namespace Go.Rex
open Go Go.Rex
noncomputable def aF(v1:(List (Int×Int)))(v2:(List (Int×Int)))(v3:Int):(Int)→Option ((Int) ⊕ ((Int) ⊕ (Unit))) := fun v5 =>
 if (decide (v5<(v1.length:Int)))=true then
  ((fR v1 v5).bind fun (v10, v11) =>
  (dV v10 v11 v2 v3).bind fun v12 =>
  if v12=true then
   (some (.inr (.inl v5)))
  else
   (some (.inl (IntKind.i64.wrap (v5+1)))))
 else
  (some (.inr (.inr ())))
noncomputable def aM(v1:(List (Int×Int)))(v2:(List (Int×Int)))(v3:Int):Option (Int) :=
 (run (aF v1 v2 v3) 0).bind fun v13 => match v13 with
 | (.inl v14) =>
  some (v14)
 | (.inr _) =>
  some ((-1))
end Go.Rex
namespace Go.Rex
open Go Go.Rex
noncomputable def cK(v1:Int)(v2:(List Nat))(v3:Int)(v4:Int)(v5:Int):Option (Int×Int×Int) :=
 (cG v1 v2 v3 v4).bind fun v9 =>
 (aY v9 v9 v5).bind fun v10 =>
 (aM v9 v9 v5).bind fun v11 =>
 if (decide (v11<0))=true then
  (some (0, 0, 12))
 else
  ((aK v1 v2 v3 v4).bind fun v12 =>
  if (decide (v11=v12))=true then
   (some (0, 0, 12))
  else
   ((aJ (if 0>(IntKind.i64.wrap (v10-1)) then 0 else (IntKind.i64.wrap (v10-1))) v11).bind fun (v13, v14) =>
   some (v13, v14, 0)))
end Go.Rex
namespace Go.Rex
open Go Go.Rex
noncomputable def gD(v1:Int)(v2:Int)(v3:Int)(v4:Int):Option (Int×Int) :=
 (aJ (if 0>(IntKind.i64.wrap (v1-v4)) then 0 else (IntKind.i64.wrap (v1-v4))) (IntKind.i64.wrap (v2-v3))).bind fun (v7, v8) =>
 some (v7, v8)
end Go.Rex
namespace Go.Rex
open Go Go.Rex
noncomputable def aZ(v1:Int)(v2:Int)(v3:Int):Option (Int×Int) :=
 (aJ (IntKind.i64.wrap (v1*v3)) (IntKind.i64.wrap (v2*v3))).bind fun (v6, v7) =>
 some (v6, v7)
end Go.Rex
namespace Go.Rex
open Go Go.Rex
noncomputable def iW(v1:Int)(v2:Int):Option (Int) :=
 if v2=0 then none else
 (some ((IntKind.i64.wrap (v1.tdiv v2))))
end Go.Rex
namespace Go.Rex
open Go Go.Rex
noncomputable def jK(v1:Int)(v2:Int):Option (Int) :=
 if v2=0 then none else
 (some ((IntKind.i64.wrap ((IntKind.i64.wrap ((IntKind.i64.wrap (v1+v2))-1)).tdiv v2))))
end Go.Rex
namespace Go.Rex
open Go Go.Rex
noncomputable def dJ(v1:Int)(v2:(List Nat))(v3:Int)(v4:Int)(v5:Int)(v6:Int):Option (Int×Int) :=
 (aZ v5 v6 1000000).bind fun (v9, v10) =>
 (iW v9 v1).bind fun v11 =>
 (jK v10 v1).bind fun v12 =>
 (aJ v11 v12).bind fun (v13, v14) =>
 some (v13, v14)
end Go.Rex
namespace Go.Rex
open Go Go.Rex
noncomputable def dX(v1:Int)(v2:(List Nat))(v3:Int)(v4:Int)(v5:Int):Option (Int×Int×Int) :=
 (eB v1 v2 v3 v4).bind fun (v9, v10) =>
 if (decide (v9=0))=true then
  (some (0, 0, 11))
 else
  ((fR ([(0, 2, 6), (1, 5, 3), (1, 7, 2)]:List (Int×Int×Int)) v5).bind fun (v11, v12, v13) =>
  if (decide (v11>0))=true then
   ((cK v1 v2 v3 v4 v11).bind fun (v14, v15, v16) =>
   if (decide (v16≠0))=true then
    (some (0, 0, v16))
   else
    ((cK v1 v2 v3 v4 v12).bind fun (v17, v18, v19) =>
    if (decide (v19≠0))=true then
     (some (0, 0, v19))
    else
     ((gD v17 v18 v14 v15).bind fun (v20, v21) =>
     (aZ v20 v21 v13).bind fun (v22, v23) =>
     (dJ v1 v2 v3 v4 v22 v23).bind fun (v24, v25) =>
     some (v24, v25, 0))))
  else
   ((cK v1 v2 v3 v4 v12).bind fun (v26, v27, v28) =>
   if (decide (v28≠0))=true then
    (some (0, 0, v28))
   else
    ((gD v26 v27 0 0).bind fun (v29, v30) =>
    (aZ v29 v30 v13).bind fun (v31, v32) =>
    (dJ v1 v2 v3 v4 v31 v32).bind fun (v33, v34) =>
    some (v33, v34, 0))))
end Go.Rex
namespace Go.Rex
open Go Go.Rex
noncomputable def cM(v1:Int)(v2:(List Nat))(v3:Int)(v4:Int)(v5:Int):Option (Int×Int×Int) :=
 (dL v1 v2 v3 v4).bind fun (v9, v10, v11, v12, v13) =>
 (iS v5).bind fun v14 =>
 (aE ([v13, v14]:List Int)).bind fun v15 =>
 if (decide (v15≠0))=true then
  (some (0, 0, v15))
 else
  ((dX v9 v10 v11 v12 v5).bind fun (v16, v17, v18) =>
  some (v16, v17, v18))
end Go.Rex
namespace Go.Rex
open Go Go.Rex
noncomputable def gA(v1:Int)(v2:(List Nat))(v3:Int):Option (Int×Int×Int) :=
 (dR v1 v2).bind fun (v7, v8) =>
 (cM v7 v8 0 0 v3).bind fun (v9, v10, v11) =>
 some (v9, v10, v11)
end Go.Rex
namespace Go.Rex
open Go Go.Rex
noncomputable def eA(v1:Int)(v2:(List Nat))(v3:Int)(v4:Int):Option (Int×(List Nat)×Int×Int) :=
 (aH v1 v2).bind fun (v9, v10) =>
 some (v9, v10, v3, v4)
end Go.Rex
namespace Go.Rex
open Go Go.Rex
noncomputable def eM(v1:Int):Option (Int) :=
 (cQ v1 0 1000000).bind fun v3 =>
 some (v3)
end Go.Rex
namespace Go.Rex
open Go Go.Rex
noncomputable def fT(v1:Int)(v2:Int):Option (Int) :=
 (jK (IntKind.i64.wrap (v2*v1)) 1000000).bind fun v4 =>
 some (v4)
end Go.Rex
namespace Go.Rex
open Go Go.Rex
noncomputable def cL(v1:Int)(v2:(List Nat))(v3:Int)(v4:Int)(v5:Int):Option (Int) :=
 (fT v1 v5).bind fun v7 =>
 (aK v1 v2 v3 v4).bind fun v8 =>
 some ((if v8<v7 then v8 else v7))
end Go.Rex
namespace Go.Rex
open Go Go.Rex
noncomputable def eR(v1:Int)(v2:(List Nat))(v3:Int)(v4:Int)(v6:Int):(Int×Int×Int)→Option ((Int×Int×Int) ⊕ ((Int×Int))) := fun (v9, v10, v11) =>
 if (decide (v11<v6))=true then
  ((dG v1 v2 v3 v4 v11).bind fun (v18, v19) =>
  (eD v9 v10 v18 v19).bind fun (v20, v21) =>
  some (.inl (v20, v21, (IntKind.i64.wrap (v11+1)))))
 else
  (some (.inr (v9, v10)))
noncomputable def dF(v1:Int)(v2:(List Nat))(v3:Int)(v4:Int)(v5:Int)(v6:Int):Option (Int×Int) :=
 (run (eR v1 v2 v3 v4 v6) (0, 0, v5)).bind fun (v22, v23) =>
 some (v22, v23)
end Go.Rex
namespace Go.Rex
open Go Go.Rex
noncomputable def cZ(v1:Int)(v2:(List Nat))(v3:Int)(v4:Int)(v5:Int):Option (Int×Int) :=
 (cL v1 v2 v3 v4 v5).bind fun v8 =>
 (dF v1 v2 v3 v4 0 v8).bind fun (v9, v10) =>
 some (v9, v10)
end Go.Rex
namespace Go.Rex
open Go Go.Rex
noncomputable def fQ(v1:Int)(v2:(List Nat))(v3:Int)(v4:Int)(v5:Int):Option (Int×Int) :=
 (cG v1 v2 v3 v4).bind fun v8 =>
 (cL v1 v2 v3 v4 v5).bind fun v9 =>
 (fR v8 v9).bind fun (v10, v11) =>
 some (v10, v11)
end Go.Rex
namespace Go.Rex
open Go Go.Rex
noncomputable def kQ(v1:Int)(v2:Int):Option (Int) :=
 if v2=0 then none else
 (some (((IntKind.i64.wrap ((v1.tmod v2)+v2)).tmod v2)))
end Go.Rex
namespace Go.Rex
open Go Go.Rex
noncomputable def gE(v1:Int):Option (Int×Int×Int) :=
 (kQ v1 10).bind fun v5 =>
 (fR ([1000000000, 1258925411, 1584893192, 1995262314, 2511886431, 3162277660, 3981071705, 5011872336, 6309573444, 7943282347]:List Int) v5).bind fun v6 =>
 (aJ v6 v6).bind fun (v7, v8) =>
 if (decide (v5>0))=true then
  ((dU (if 0>(IntKind.i64.wrap ((IntKind.i64.wrap (v1-v5)).tdiv 10)) then 0 else (IntKind.i64.wrap ((IntKind.i64.wrap (v1-v5)).tdiv 10)))).bind fun v9 =>
  (aZ v7 (IntKind.i64.wrap (v8+1)) v9).bind fun (v10, v11) =>
  (dU (if 0>(IntKind.i64.wrap (0-(IntKind.i64.wrap ((IntKind.i64.wrap (v1-v5)).tdiv 10)))) then 0 else (IntKind.i64.wrap (0-(IntKind.i64.wrap ((IntKind.i64.wrap (v1-v5)).tdiv 10)))))).bind fun v12 =>
  some (v10, v11, (IntKind.i64.wrap (1000000000*v12))))
 else
  ((dU (if 0>(IntKind.i64.wrap ((IntKind.i64.wrap (v1-v5)).tdiv 10)) then 0 else (IntKind.i64.wrap ((IntKind.i64.wrap (v1-v5)).tdiv 10)))).bind fun v13 =>
  (aZ v7 v8 v13).bind fun (v14, v15) =>
  (dU (if 0>(IntKind.i64.wrap (0-(IntKind.i64.wrap ((IntKind.i64.wrap (v1-v5)).tdiv 10)))) then 0 else (IntKind.i64.wrap (0-(IntKind.i64.wrap ((IntKind.i64.wrap (v1-v5)).tdiv 10)))))).bind fun v16 =>
  some (v14, v15, (IntKind.i64.wrap (1000000000*v16))))
end Go.Rex
namespace Go.Rex
open Go Go.Rex
noncomputable def cT(v1:Int)(v2:Int)(v3:Int):Option (Bool) :=
 (gE v3).bind fun (v5, v6, v7) =>
 (bF v6 v2).bind fun (v8, v9) =>
 (bF v1 v7).bind fun (v10, v11) =>
 (cW v8 v9 v10 v11).bind fun v12 =>
 some (v12)
end Go.Rex
namespace Go.Rex
open Go Go.Rex
noncomputable def bK(v1:Int)(v2:Int)(v3:Int):Option (Bool) :=
 (gE v3).bind fun (v5, v6, v7) =>
 (bF v1 v7).bind fun (v8, v9) =>
 (bF v5 v2).bind fun (v10, v11) =>
 (cW v8 v9 v10 v11).bind fun v12 =>
 some (v12)
end Go.Rex
namespace Go.Rex
open Go Go.Rex
noncomputable def eP(v1:Int)(v2:Int):(Int)→Option ((Int) ⊕ ((Int))) := fun v11 =>
 (cT v1 v2 (IntKind.i64.wrap (v11+1))).bind fun v14 =>
 if v14=true then
  (some (.inl (IntKind.i64.wrap (v11+1))))
 else
  (some (.inr v11))
noncomputable def eU(v1:Int)(v2:Int):(Int)→Option ((Int) ⊕ ((Int))) := fun v16 =>
 (bK v1 v2 (IntKind.i64.wrap (v16-1))).bind fun v19 =>
 if v19=true then
  (some (.inl (IntKind.i64.wrap (v16-1))))
 else
  (some (.inr v16))
noncomputable def bH(v1:Int)(v2:Int):Option (Int×Int×Int) :=
 (cQ v1 1 10000000000000).bind fun v6 =>
 (cQ v2 1 10000000000000).bind fun v7 =>
 (aE ([v6, v7]:List Int)).bind fun v8 =>
 if (decide (v8≠0))=true then
  (some (0, 0, v8))
 else
  ((cT v1 v2 (-90)).bind fun v9 =>
  if v9=true then
   ((bK v1 v2 90).bind fun v10 =>
   if v10=true then
    ((run (eP v1 v2) (-90)).bind fun v15 =>
    (run (eU v1 v2) 90).bind fun v20 =>
    some (v15, v20, 0))
   else
    (some (0, 0, 8)))
  else
   (some (0, 0, 8)))
end Go.Rex
namespace Go.Rex
open Go Go.Rex
noncomputable def fL(v1:Int)(v2:(List Nat))(v3:Int)(v4:Int)(v5:Int):Option (Int×Int×Int) :=
 (cZ v1 v2 v3 v4 v5).bind fun (v9, v10) =>
 (fQ v1 v2 v3 v4 v5).bind fun (v11, v12) =>
 (fT v1 v5).bind fun v13 =>
 (aK v1 v2 v3 v4).bind fun v14 =>
 (aL (decide (v13≥v14)) 12).bind fun v15 =>
 if (decide (v9=0))=true then
  ((aL true 11).bind fun v16 =>
  (aE ([v15, v16]:List Int)).bind fun v17 =>
  if (decide (v17≠0))=true then
   (some (0, 0, v17))
  else
   ((bH v9 v12).bind fun (v18, v19, v20) =>
   if (decide (v20≠0))=true then
    (some (0, 0, v20))
   else
    ((bH v10 v11).bind fun (v21, v22, v23) =>
    if (decide (v23≠0))=true then
     (some (0, 0, v23))
    else
     ((aJ v18 v22).bind fun (v24, v25) =>
     some (v24, v25, 0)))))
 else
  ((aL (decide (v11=0)) 11).bind fun v26 =>
  (aE ([v15, v26]:List Int)).bind fun v27 =>
  if (decide (v27≠0))=true then
   (some (0, 0, v27))
  else
   ((bH v9 v12).bind fun (v28, v29, v30) =>
   if (decide (v30≠0))=true then
    (some (0, 0, v30))
   else
    ((bH v10 v11).bind fun (v31, v32, v33) =>
    if (decide (v33≠0))=true then
     (some (0, 0, v33))
    else
     ((aJ v28 v32).bind fun (v34, v35) =>
     some (v34, v35, 0)))))
end Go.Rex
namespace Go.Rex
open Go Go.Rex
noncomputable def fH(v1:Int)(v2:(List Nat))(v3:Int)(v4:Int)(v5:Int):Option (Int×Int×Int) :=
 (dL v1 v2 v3 v4).bind fun (v9, v10, v11, v12, v13) =>
 (eM v5).bind fun v14 =>
 (aE ([v13, v14]:List Int)).bind fun v15 =>
 if (decide (v15≠0))=true then
  (some (0, 0, v15))
 else
  ((fL v9 v10 v11 v12 v5).bind fun (v16, v17, v18) =>
  some (v16, v17, v18))
end Go.Rex
namespace Go.Rex
open Go Go.Rex
noncomputable def cE:(Int×Int)→Option ((Int×Int) ⊕ ((Int))) := fun (v4, v5) =>
 if (decide (v4>0))=true then
  (if v4=0 then none else
  (some (.inl ((v5.tmod v4), v4))))
 else
  (some (.inr v5))
noncomputable def fK(v1:Int)(v2:Int):Option (Int) :=
 (run (cE) (v1, v2)).bind fun v7 =>
 some (v7)
end Go.Rex
namespace Go.Rex
open Go Go.Rex
noncomputable def kW(v1:Int)(v2:Int):Option (Int×Int×Int) :=
 (fK v1 v2).bind fun v6 =>
 if v6=0 then none else
 (if (decide ((IntKind.i64.wrap (v1.tdiv v6))>1000000000))=true then
  (some (0, 0, 8))
 else
  (if (decide ((IntKind.i64.wrap (v2.tdiv v6))>1000000000))=true then
   (some (0, 0, 8))
  else
   (some ((IntKind.i64.wrap (v1.tdiv v6)), (IntKind.i64.wrap (v2.tdiv v6)), 0))))
end Go.Rex
namespace Go.Rex
open Go Go.Rex
noncomputable def kE(v1:Int)(v2:Int):Option (Int×Int×Int) :=
 if (decide (v2=0))=true then
  (some (0, 0, 11))
 else
  ((kW v1 v2).bind fun (v6, v7, v8) =>
  some (v6, v7, v8))
end Go.Rex
namespace Go.Rex
open Go Go.Rex
noncomputable def dK(v1:Int)(v2:(List Nat))(v3:Int):Option (Int×Int×Int) :=
 (dR v1 v2).bind fun (v7, v8) =>
 (dL v7 v8 0 0).bind fun (v9, v10, v11, v12, v13) =>
 (eM v3).bind fun v14 =>
 (aE ([v13, v14]:List Int)).bind fun v15 =>
 if (decide (v15≠0))=true then
  (some (0, 0, v15))
 else
  ((cZ v9 v10 v11 v12 v3).bind fun (v16, v17) =>
  (eB v9 v10 v11 v12).bind fun (v18, v19) =>
  (kE v16 v18).bind fun (v20, v21, v22) =>
  some (v20, v21, v22))
end Go.Rex
namespace Go.Rex
open Go Go.Rex
noncomputable def dB(v1:Int)(v2:(List Nat))(v3:Int)(v4:Int)(v7:Int):(Int×Int×Int)→Option ((Int×Int×Int) ⊕ ((Int×Int))) := fun (v8, v9, v10) =>
 if (decide (v10<v7))=true then
  ((dG v1 v2 v3 v4 v10).bind fun (v19, v20) =>
  (aZ v19 v20 v10).bind fun (v21, v22) =>
  (eD v8 v9 v21 v22).bind fun (v23, v24) =>
  some (.inl (v23, v24, (IntKind.i64.wrap (v10+1)))))
 else
  (some (.inr (v8, v9)))
noncomputable def fY(v1:Int)(v2:(List Nat))(v3:Int)(v4:Int):Option (Int×Int) :=
 (aK v1 v2 v3 v4).bind fun v7 =>
 (run (dB v1 v2 v3 v4 v7) (0, 0, 0)).bind fun (v25, v26) =>
 some (v25, v26)
end Go.Rex
namespace Go.Rex
open Go Go.Rex
noncomputable def iA(v1:Int):Option (Int) :=
 if (decide (v1≥4294967296))=true then
  ((shI .shr .u64 v1 32).bind fun v3 =>
  if (decide (v3≥65536))=true then
   ((shI .shr .u64 v3 16).bind fun v4 =>
   if (decide (v4≥256))=true then
    ((shI .shr .u64 v4 8).bind fun v5 =>
    (xP gM (IntKind.u8.wrap v5)).bind fun v6 =>
    some ((IntKind.i64.wrap (56+(IntKind.i64.wrap v6)))))
   else
    ((xP gM (IntKind.u8.wrap v4)).bind fun v7 =>
    some ((IntKind.i64.wrap (48+(IntKind.i64.wrap v7))))))
  else
   (if (decide (v3≥256))=true then
    ((shI .shr .u64 v3 8).bind fun v8 =>
    (xP gM (IntKind.u8.wrap v8)).bind fun v9 =>
    some ((IntKind.i64.wrap (40+(IntKind.i64.wrap v9)))))
   else
    ((xP gM (IntKind.u8.wrap v3)).bind fun v10 =>
    some ((IntKind.i64.wrap (32+(IntKind.i64.wrap v10)))))))
 else
  (if (decide (v1≥65536))=true then
   ((shI .shr .u64 v1 16).bind fun v11 =>
   if (decide (v11≥256))=true then
    ((shI .shr .u64 v11 8).bind fun v12 =>
    (xP gM (IntKind.u8.wrap v12)).bind fun v13 =>
    some ((IntKind.i64.wrap (24+(IntKind.i64.wrap v13)))))
   else
    ((xP gM (IntKind.u8.wrap v11)).bind fun v14 =>
    some ((IntKind.i64.wrap (16+(IntKind.i64.wrap v14))))))
  else
   (if (decide (v1≥256))=true then
    ((shI .shr .u64 v1 8).bind fun v15 =>
    (xP gM (IntKind.u8.wrap v15)).bind fun v16 =>
    some ((IntKind.i64.wrap (8+(IntKind.i64.wrap v16)))))
   else
    ((xP gM (IntKind.u8.wrap v1)).bind fun v17 =>
    some ((IntKind.i64.wrap (0+(IntKind.i64.wrap v17)))))))
end Go.Rex
namespace Go.Rex
open Go Go.Rex
noncomputable def dP(v1:Int):Option (Int) :=
 (iA v1).bind fun v3 =>
 some ((IntKind.i64.wrap (64-v3)))
end Go.Rex
namespace Go.Rex
open Go Go.Rex
noncomputable def cV(v7:Int)(v8:Int)(v12:Int):(Int×Int)→Option ((Int×Int) ⊕ ((Int))) := fun (v13, v14) =>
 if (decide (v13≥4294967296))=true then
  (if (decide ((IntKind.u64.wrap (v14+v8))≥4294967296))=true then
   (some (.inr (IntKind.u64.wrap (v13-1))))
  else
   (some (.inl ((IntKind.u64.wrap (v13-1)), (IntKind.u64.wrap (v14+v8))))))
 else
  (if (decide ((IntKind.u64.wrap (v13*(gZ .and .u64 v7 4294967295)))>(IntKind.u64.wrap ((IntKind.u64.wrap (4294967296*v14))+v12))))=true then
   (if (decide ((IntKind.u64.wrap (v14+v8))≥4294967296))=true then
    (some (.inr (IntKind.u64.wrap (v13-1))))
   else
    (some (.inl ((IntKind.u64.wrap (v13-1)), (IntKind.u64.wrap (v14+v8))))))
  else
   (some (.inr v13)))
noncomputable def dA(v7:Int)(v8:Int)(v11:Int):(Int×Int)→Option ((Int×Int) ⊕ ((Int))) := fun (v17, v18) =>
 if (decide (v18≥4294967296))=true then
  (if (decide ((IntKind.u64.wrap (v17+v8))≥4294967296))=true then
   (some (.inr (IntKind.u64.wrap (v18-1))))
  else
   (some (.inl ((IntKind.u64.wrap (v17+v8)), (IntKind.u64.wrap (v18-1))))))
 else
  (if (decide ((IntKind.u64.wrap (v18*(gZ .and .u64 v7 4294967295)))>(IntKind.u64.wrap ((IntKind.u64.wrap (4294967296*v17))+(gZ .and .u64 v11 4294967295)))))=true then
   (if (decide ((IntKind.u64.wrap (v17+v8))≥4294967296))=true then
    (some (.inr (IntKind.u64.wrap (v18-1))))
   else
    (some (.inl ((IntKind.u64.wrap (v17+v8)), (IntKind.u64.wrap (v18-1))))))
  else
   (some (.inr v18)))
noncomputable def jH(v1:Int)(v2:Int)(v3:Int):Option (Int×Int) :=
 if (decide (v3=0))=true then
  (none)
 else
  (if (decide (v3≤v1))=true then
   (none)
  else
   (if (decide (v1=0))=true then
    (if v3=0 then none else
    (some ((IntKind.u64.wrap (v2.tdiv v3)), (v2.tmod v3))))
   else
    ((dP v3).bind fun v6 =>
    (shI .shl .u64 v3 (IntKind.u64.wrap v6)).bind fun v7 =>
    (shI .shr .u64 v7 32).bind fun v8 =>
    (shI .shl .u64 v1 (IntKind.u64.wrap v6)).bind fun v9 =>
    (shI .shr .u64 v2 (IntKind.u64.wrap (64-(IntKind.u64.wrap v6)))).bind fun v10 =>
    (shI .shl .u64 v2 (IntKind.u64.wrap v6)).bind fun v11 =>
    (shI .shr .u64 v11 32).bind fun v12 =>
    if v8=0 then none else
    ((run (cV v7 v8 v12) ((IntKind.u64.wrap ((gZ .or .u64 v9 v10).tdiv v8)), (IntKind.u64.wrap ((gZ .or .u64 v9 v10)-(IntKind.u64.wrap ((IntKind.u64.wrap ((gZ .or .u64 v9 v10).tdiv v8))*v8)))))).bind fun v16 =>
    (run (dA v7 v8 v11) ((IntKind.u64.wrap ((IntKind.u64.wrap ((IntKind.u64.wrap ((IntKind.u64.wrap ((gZ .or .u64 v9 v10)*4294967296))+v12))-(IntKind.u64.wrap (v16*v7))))-(IntKind.u64.wrap ((IntKind.u64.wrap ((IntKind.u64.wrap ((IntKind.u64.wrap ((IntKind.u64.wrap ((gZ .or .u64 v9 v10)*4294967296))+v12))-(IntKind.u64.wrap (v16*v7)))).tdiv v8))*v8)))), (IntKind.u64.wrap ((IntKind.u64.wrap ((IntKind.u64.wrap ((IntKind.u64.wrap ((gZ .or .u64 v9 v10)*4294967296))+v12))-(IntKind.u64.wrap (v16*v7)))).tdiv v8)))).bind fun v20 =>
    (shI .shr .u64 (IntKind.u64.wrap ((IntKind.u64.wrap ((IntKind.u64.wrap ((IntKind.u64.wrap ((IntKind.u64.wrap ((IntKind.u64.wrap ((gZ .or .u64 v9 v10)*4294967296))+v12))-(IntKind.u64.wrap (v16*v7))))*4294967296))+(gZ .and .u64 v11 4294967295)))-(IntKind.u64.wrap (v20*v7)))) (IntKind.u64.wrap v6)).bind fun v21 =>
    some ((IntKind.u64.wrap ((IntKind.u64.wrap (v16*4294967296))+v20)), v21)))))
end Go.Rex
namespace Go.Rex
open Go Go.Rex
noncomputable def eK(v1:Int)(v2:Int)(v3:Int):Option (Int×Int) :=
 (jH v1 v2 (IntKind.u64.wrap v3)).bind fun (v6, v7) =>
 if (decide (v7>0))=true then
  (some ((IntKind.i64.wrap v6), (IntKind.i64.wrap ((IntKind.i64.wrap v6)+1))))
 else
  (some ((IntKind.i64.wrap v6), (IntKind.i64.wrap v6)))
end Go.Rex
namespace Go.Rex
open Go Go.Rex
noncomputable def fX(v1:Int)(v2:(List Nat))(v3:Int)(v4:Int):Option (Int×Int×Int) :=
 (eB v1 v2 v3 v4).bind fun (v8, v9) =>
 (fY v1 v2 v3 v4).bind fun (v10, v11) =>
 (aL (decide (v4≠0)) 23).bind fun v12 =>
 (aL (decide (v8=0)) 11).bind fun v13 =>
 (aE ([v12, v13]:List Int)).bind fun v14 =>
 if (decide (v14≠0))=true then
  (some (0, 0, v14))
 else
  ((bF v10 1000000).bind fun (v15, v16) =>
  (eK v15 v16 (IntKind.i64.wrap (v9*v1))).bind fun (v17, v18) =>
  (bF v11 1000000).bind fun (v19, v20) =>
  (eK v19 v20 (IntKind.i64.wrap (v8*v1))).bind fun (v21, v22) =>
  (aK v1 v2 v3 v4).bind fun v23 =>
  (aJ (IntKind.i64.wrap (v23-1)) (IntKind.i64.wrap (v23-1))).bind fun (v24, v25) =>
  (dJ v1 v2 v3 v4 v24 v25).bind fun (v26, v27) =>
  (aJ v17 (if v27<v22 then v27 else v22)).bind fun (v28, v29) =>
  some (v28, v29, 0))
end Go.Rex
namespace Go.Rex
open Go Go.Rex
noncomputable def iL(v1:Int)(v2:(List Nat))(v3:Int)(v4:Int):Option (Int×Int×Int) :=
 (dL v1 v2 v3 v4).bind fun (v8, v9, v10, v11, v12) =>
 if (decide (v12≠0))=true then
  (some (0, 0, v12))
 else
  ((fX v8 v9 v10 v11).bind fun (v13, v14, v15) =>
  some (v13, v14, v15))
end Go.Rex
namespace Go.Rex
open Go Go.Rex
noncomputable def bE(v2:(List Nat))(v3:Int):((List Nat)×Int)→Option (((List Nat)×Int) ⊕ ((Unit) ⊕ ((List Nat)))) := fun (v12, v13) =>
 if (decide (v13<(v2.length:Int)))=true then
  ((fR v2 v13).bind fun v18 =>
  if (fcmp .gtr .f32 v18 1133903872)=true then
   (some (.inr (.inl ())))
  else
   (if (fcmp .lss .f32 v18 3281387520)=true then
    (some (.inr (.inl ())))
   else
    ((farith .mul .f32 (FloatKind.f32.nearest v3) v18).bind fun v19 =>
    (fR v12 v13).bind fun v20 =>
    some (.inl ((v12.set v13.toNat v19), (IntKind.i64.wrap (v13+1)))))))
 else
  (some (.inr (.inr v12)))
noncomputable def dN(v1:Int)(v2:(List Nat))(v10:Int)(v22:(List Nat)):(Int)→Option ((Int) ⊕ ((Unit) ⊕ (Unit))) := fun v23 =>
 if (decide (v23≤12))=true then
  ((aH v1 v2).bind fun (v32, v33) =>
  (bJ v32 v33 v23).bind fun (v34, v35) =>
  (aH v10 v22).bind fun (v36, v37) =>
  (bJ v36 v37 v23).bind fun (v38, v39) =>
  if (decide (v35≠v39))=true then
   (some (.inr (.inl ())))
  else
   (if (decide (v34≠v38))=true then
    (some (.inr (.inl ())))
   else
    (some (.inl (IntKind.i64.wrap (v23+1))))))
 else
  (some (.inr (.inr ())))
noncomputable def dM(v1:Int)(v2:(List Nat))(v10:Int)(v22:(List Nat)):(Int)→Option ((Int) ⊕ ((Unit) ⊕ (Unit))) := fun v41 =>
 if (decide (v41≤2))=true then
  ((aH v1 v2).bind fun (v52, v53) =>
  (gA v52 v53 v41).bind fun (v54, v55, v56) =>
  (aH v10 v22).bind fun (v57, v58) =>
  (gA v57 v58 v41).bind fun (v59, v60, v61) =>
  if (decide (v56≠v61))=true then
   (some (.inr (.inl ())))
  else
   (if ([v54==v59, v55==v60].all id)=true then
    (some (.inl (IntKind.i64.wrap (v41+1))))
   else
    (some (.inr (.inl ())))))
 else
  (some (.inr (.inr ())))
noncomputable def iY(v1:Int)(v2:(List Nat))(v3:Int)(v4:Int):Option Bool :=
 (eG v1 v2).bind fun v6 =>
 if v6=true then
  ((bZ v1 v2).bind fun v7 =>
  if (decide (v7≠0))=true then
   (some (true))
  else
   ((bD v3 1 100).bind fun v8 =>
   if v8=true then
    ((gC v4).bind fun v9 =>
    if (decide (v9≠0))=true then
     (some (true))
    else
     ((aH v1 v2).bind fun (v10, v11) =>
     (run (bE v2 v3) (v11, 0)).bind fun v21 => match v21 with
     | (.inl _) =>
      some (true)
     | (.inr v22) =>
      (run (dN v1 v2 v10 v22) 0).bind fun v40 => match v40 with
      | (.inl _) =>
       some (false)
      | (.inr _) =>
       (run (dM v1 v2 v10 v22) 0).bind fun v62 => match v62 with
       | (.inl _) =>
        some (false)
       | (.inr _) =>
        (eA v1 v2 0 0).bind fun (v63, v64, v65, v66) =>
        (fH v63 v64 v65 v66 v4).bind fun (v67, v68, v69) =>
        (eA v10 v22 0 0).bind fun (v70, v71, v72, v73) =>
        (fH v70 v71 v72 v73 v4).bind fun (v74, v75, v76) =>
        (aH v1 v2).bind fun (v77, v78) =>
        (dK v77 v78 v4).bind fun (v79, v80, v81) =>
        (aH v10 v22).bind fun (v82, v83) =>
        (dK v82 v83 v4).bind fun (v84, v85, v86) =>
        (eA v1 v2 0 0).bind fun (v87, v88, v89, v90) =>
        (iL v87 v88 v89 v90).bind fun (v91, v92, v93) =>
        (eA v10 v22 0 0).bind fun (v94, v95, v96, v97) =>
        (iL v94 v95 v96 v97).bind fun (v98, v99, v100) =>
        if (decide (v69=v76))=true then
         (if ([v67==v74, v68==v75].all id)=true then
          (if (decide (v81=v86))=true then
           (if ([v79==v84, v80==v85].all id)=true then
            (if (decide (v93=v100))=true then
             (some (([v91==v98, v92==v99].all id)))
            else
             (some (false)))
           else
            (some (false)))
          else
           (some (false)))
         else
          (some (false)))
        else
         (some (false))))
   else
    (some (true))))
 else
  (some (true))
end Go.Rex
namespace Go.Rex
open Go Go.Rex
noncomputable def rZ(v1:Int)(v2:(List Nat))(v3:Int)(v4:Int):Option (Int×Int) :=
 (dH v1 v2).bind fun (v7, v8) =>
 if (decide (v8≠0))=true then
  (some (v7, v8))
 else
  ((bD v3 0 32767).bind fun v9 =>
  if v9=true then
   ((bD v4 0 1000000000000).bind fun v10 =>
   if v10=true then
    (some (0, 0))
   else
    (some (0, 2)))
  else
   (some (0, 2)))
end Go.Rex
namespace Go.Rex
open Go Go.Rex
noncomputable def yW(v1:Int)(v2:Int):Option (Int×Int) :=
 (iV v1).bind fun v5 =>
 (eM v2).bind fun v6 =>
 (aE ([v5, v6]:List Int)).bind fun v7 =>
 if (decide (v7≠0))=true then
  (some (0, v7))
 else
  ((fT v1 v2).bind fun v8 =>
  some (v8, 0))
end Go.Rex
namespace Go.Rex
open Go Go.Rex
noncomputable def dY(v1:Int)(v2:Int):Option (Int) :=
 if v2=0 then none else
 (if (decide ((v1.tmod v2)<0))=true then
  (some ((IntKind.i64.wrap ((IntKind.i64.wrap (v1.tdiv v2))-1))))
 else
  (some ((IntKind.i64.wrap (v1.tdiv v2)))))
end Go.Rex
namespace Go.Rex
open Go Go.Rex
noncomputable def eE(v1:Int)(v2:Int):Option (Int) :=
 (dY (IntKind.i64.wrap (0-v1)) v2).bind fun v4 =>
 some ((IntKind.i64.wrap (0-v4)))
end Go.Rex
namespace Go.Rex
open Go Go.Rex
noncomputable def jX(v1:Int)(v2:Int):Option (Int×Int) :=
 (mD v1).bind fun v5 =>
 if v5=true then
  ((gC v2).bind fun v6 =>
  if (decide (v6≠0))=true then
   (some (0, v6))
  else
   ((eE (IntKind.i64.wrap (v2*v1)) 1000000).bind fun v7 =>
   some (v7, 0)))
 else
  (some (0, 2))
end Go.Rex
namespace Go.Rex
open Go Go.Rex
noncomputable def Ga(v1:Int)(v2:(List Nat))(v3:Int)(v4:Int)(v5:Int)(v6:Int):Option Bool :=
 (eG v1 v2).bind fun v8 =>
 if v8=true then
  ((aH v1 v2).bind fun (v9, v10) =>
  (eC v9 v10).bind fun (v11, v12) =>
  (eA v1 v2 v3 v4).bind fun (v13, v14, v15, v16) =>
  (hG v13 v14 v15 v16).bind fun (v17, v18) =>
  (yW v5 v6).bind fun (v19, v20) =>
  (dH v1 v2).bind fun (v21, v22) =>
  (rZ v1 v2 v3 v4).bind fun (v23, v24) =>
  (jX v5 v6).bind fun (v25, v26) =>
  if (decide (v12=v22))=true then
   (if (decide (v11=v21))=true then
    (if (decide (v18=v24))=true then
     (if (decide (v17=v23))=true then
      (if (decide (v20=v26))=true then
       (some ((decide (v19=v25))))
      else
       (some (false)))
     else
      (some (false)))
    else
     (some (false)))
   else
    (some (false)))
  else
   (some (false)))
 else
  (some (true))
end Go.Rex
namespace Go.Rex
open Go Go.Rex
noncomputable def pT(v1:Int)(v2:(List Nat))(v3:Int)(v4:Int)(v5:Int)(v6:Int):Option (Int) :=
 (aK v1 v2 v3 v4).bind fun v8 =>
 (cQ v6 0 v8).bind fun v9 =>
 (cQ v5 0 v6).bind fun v10 =>
 (aE ([v9, v10]:List Int)).bind fun v11 =>
 some (v11)
end Go.Rex
namespace Go.Rex
open Go Go.Rex
noncomputable def nX(v1:Int)(v2:(List Nat))(v3:Int)(v4:Int)(v5:Int)(v6:Int):Option (Int×Int×Int) :=
 (dL v1 v2 v3 v4).bind fun (v10, v11, v12, v13, v14) =>
 (pT v10 v11 v12 v13 v5 v6).bind fun v15 =>
 (aE ([v14, v15]:List Int)).bind fun v16 =>
 if (decide (v16≠0))=true then
  (some (0, 0, v16))
 else
  ((dF v10 v11 v12 v13 v5 v6).bind fun (v17, v18) =>
  (aK v10 v11 v12 v13).bind fun v19 =>
  if (decide (v6=v19))=true then
   ((fW v10 v11 v12 v13).bind fun (v20, v21) =>
   (eD v17 v18 v20 v21).bind fun (v22, v23) =>
   some (v22, v23, 0))
  else
   (some (v17, v18, 0)))
end Go.Rex
namespace Go.Rex
open Go Go.Rex
noncomputable def uC(v1:Int)(v2:(List Nat))(v3:Int)(v4:Int):Option (Int×Int) :=
 (dR v1 v2).bind fun (v7, v8) =>
 (nX v7 v8 0 0 v3 v4).bind fun (v9, v10, v11) =>
 some (v9, v11)
end Go.Rex
namespace Go.Rex
open Go Go.Rex
noncomputable def zD(v1:Int)(v2:(List Nat))(v3:Int)(v4:Int):Option (Int) :=
 (bD v4 0 (v2.length:Int)).bind fun v6 =>
 if v6=true then
  ((bD v3 0 v4).bind fun v7 =>
  if v7=true then
   (some (0))
  else
   (some (2)))
 else
  (some (2))
end Go.Rex
namespace Go.Rex
open Go Go.Rex
noncomputable def jR(v1:Int)(v2:(List Nat)):Option (Int×(List Nat)) :=
 some (v1, v2)
end Go.Rex
namespace Go.Rex
open Go Go.Rex
noncomputable def oD(v1:Int):Option (Int) :=
 some ((if (IntKind.i64.wrap (0-v1))>v1 then (IntKind.i64.wrap (0-v1)) else v1))
end Go.Rex
namespace Go.Rex
open Go Go.Rex
noncomputable def kB(v1:Int)(v2:(List Nat))(v3:Int)(v4:Int)(v5:Int):Option (Int×Int) :=
 (fR v2 v5).bind fun v8 =>
 (f2i .f32 v8 .i64).bind fun v9 =>
 (oD v9).bind fun v10 =>
 some ((IntKind.i64.wrap ((if (IntKind.i64.wrap (v10-v3))>0 then (IntKind.i64.wrap (v10-v3)) else 0)*(if (IntKind.i64.wrap (v10-v3))>0 then (IntKind.i64.wrap (v10-v3)) else 0))), (IntKind.i64.wrap ((IntKind.i64.wrap (v10+v3))*(IntKind.i64.wrap (v10+v3)))))
end Go.Rex
namespace Go.Rex
open Go Go.Rex
noncomputable def cS(v1:Int)(v2:(List Nat))(v3:Int)(v4:Int)(v6:Int):(Int×Int×Int)→Option ((Int×Int×Int) ⊕ ((Int×Int))) := fun (v9, v10, v11) =>
 if (decide (v11<v6))=true then
  ((kB v1 v2 v3 v4 v11).bind fun (v16, v17) =>
  some (.inl ((IntKind.i64.wrap (v9+v16)), (IntKind.i64.wrap (v10+v17)), (IntKind.i64.wrap (v11+1)))))
 else
  (some (.inr (v9, v10)))
noncomputable def aU(v1:Int)(v2:(List Nat))(v3:Int)(v4:Int)(v5:Int)(v6:Int):Option (Int×Int) :=
 (run (cS v1 v2 v3 v4 v6) (0, 0, v5)).bind fun (v18, v19) =>
 if (decide (v6=(v2.length:Int)))=true then
  (some (v18, (IntKind.i64.wrap (v19+v4))))
 else
  (some (v18, v19))
end Go.Rex
namespace Go.Rex
open Go Go.Rex
noncomputable def nY(v1:Int)(v2:(List Nat))(v3:Int)(v4:Int):Option (Int) :=
 (jR v1 v2).bind fun (v6, v7) =>
 (aU v6 v7 0 0 v3 v4).bind fun (v8, v9) =>
 some (v8)
end Go.Rex
namespace Go.Rex
open Go Go.Rex
noncomputable def eS(v1:Int)(v2:(List Nat))(v3:Int)(v4:Int):Option (Int) :=
 (rZ v1 v2 v3 v4).bind fun (v6, v7) =>
 some (v7)
end Go.Rex
namespace Go.Rex
open Go Go.Rex
noncomputable def Hv(v1:Int)(v2:(List Nat))(v3:Int)(v4:Int)(v5:Int)(v6:Int):Option Bool :=
 (eG v1 v2).bind fun v8 =>
 if v8=true then
  ((aH v1 v2).bind fun (v9, v10) =>
  (uC v9 v10 v5 v6).bind fun (v11, v12) =>
  (eA v1 v2 v3 v4).bind fun (v13, v14, v15, v16) =>
  (nX v13 v14 v15 v16 v5 v6).bind fun (v17, v18, v19) =>
  (bZ v1 v2).bind fun v20 =>
  if (decide (v20=0))=true then
   ((zD v1 v2 v5 v6).bind fun v21 =>
   if (decide (v12≠v21))=true then
    (some (false))
   else
    (if (decide (v21≠0))=true then
     (if (decide (v11≠0))=true then
      (some (false))
     else
      (if (decide (v21=0))=true then
       ((nY v1 v2 v5 v6).bind fun v22 =>
       if (decide (v11≠v22))=true then
        (some (false))
       else
        ((eS v1 v2 v3 v4).bind fun v23 =>
        if (decide (v23=0))=true then
         (if (decide (v19=v21))=true then
          (some (([v17==0, v18==0].all id)))
         else
          (some (false)))
        else
         (if (decide (v23≠0))=true then
          (if (decide (v19=v23))=true then
           (some (([v17==0, v18==0].all id)))
          else
           (some (false)))
         else
          (if (decide (v19=0))=true then
           ((aU v1 v2 v3 v4 v5 v6).bind fun (v24, v25) =>
           if ([v17==v24, v18==v25].all id)=true then
            ((bD v11 v17 v18).bind fun v26 =>
            some (v26))
           else
            (some (false)))
          else
           (some (false))))))
      else
       ((eS v1 v2 v3 v4).bind fun v27 =>
       if (decide (v27=0))=true then
        (if (decide (v19=v21))=true then
         (some (([v17==0, v18==0].all id)))
        else
         (some (false)))
       else
        (if (decide (v27≠0))=true then
         (if (decide (v19=v27))=true then
          (some (([v17==0, v18==0].all id)))
         else
          (some (false)))
        else
         (if (decide (v19=0))=true then
          ((aU v1 v2 v3 v4 v5 v6).bind fun (v28, v29) =>
          if ([v17==v28, v18==v29].all id)=true then
           ((bD v11 v17 v18).bind fun v30 =>
           some (v30))
          else
           (some (false)))
         else
          (some (false)))))))
    else
     (if (decide (v21=0))=true then
      ((nY v1 v2 v5 v6).bind fun v31 =>
      if (decide (v11≠v31))=true then
       (some (false))
      else
       ((eS v1 v2 v3 v4).bind fun v32 =>
       if (decide (v32=0))=true then
        (if (decide (v19=0))=true then
         ((aU v1 v2 v3 v4 v5 v6).bind fun (v33, v34) =>
         if ([v17==v33, v18==v34].all id)=true then
          ((bD v11 v17 v18).bind fun v35 =>
          some (v35))
         else
          (some (false)))
        else
         (some (false)))
       else
        (if (decide (v32≠0))=true then
         (if (decide (v19=v32))=true then
          (some (([v17==0, v18==0].all id)))
         else
          (some (false)))
        else
         (if (decide (v19=0))=true then
          ((aU v1 v2 v3 v4 v5 v6).bind fun (v36, v37) =>
          if ([v17==v36, v18==v37].all id)=true then
           ((bD v11 v17 v18).bind fun v38 =>
           some (v38))
          else
           (some (false)))
         else
          (some (false))))))
     else
      ((eS v1 v2 v3 v4).bind fun v39 =>
      if (decide (v39=0))=true then
       (if (decide (v19=0))=true then
        ((aU v1 v2 v3 v4 v5 v6).bind fun (v40, v41) =>
        if ([v17==v40, v18==v41].all id)=true then
         ((bD v11 v17 v18).bind fun v42 =>
         some (v42))
        else
         (some (false)))
       else
        (some (false)))
      else
       (if (decide (v39≠0))=true then
        (if (decide (v19=v39))=true then
         (some (([v17==0, v18==0].all id)))
        else
         (some (false)))
       else
        (if (decide (v19=0))=true then
         ((aU v1 v2 v3 v4 v5 v6).bind fun (v43, v44) =>
         if ([v17==v43, v18==v44].all id)=true then
          ((bD v11 v17 v18).bind fun v45 =>
          some (v45))
         else
          (some (false)))
        else
         (some (false))))))))
  else
   (if (decide (v12≠v20))=true then
    (some (false))
   else
    (if (decide (v20≠0))=true then
     (if (decide (v11≠0))=true then
      (some (false))
     else
      ((eS v1 v2 v3 v4).bind fun v46 =>
      if (decide (v46=0))=true then
       (if (decide (v19=v20))=true then
        (some (([v17==0, v18==0].all id)))
       else
        (some (false)))
      else
       (if (decide (v46≠0))=true then
        (if (decide (v19=v46))=true then
         (some (([v17==0, v18==0].all id)))
        else
         (some (false)))
       else
        (if (decide (v19=0))=true then
         ((aU v1 v2 v3 v4 v5 v6).bind fun (v47, v48) =>
         if ([v17==v47, v18==v48].all id)=true then
          ((bD v11 v17 v18).bind fun v49 =>
          some (v49))
         else
          (some (false)))
        else
         (some (false))))))
    else
     ((eS v1 v2 v3 v4).bind fun v50 =>
     if (decide (v50=0))=true then
      (if (decide (v19=0))=true then
       ((aU v1 v2 v3 v4 v5 v6).bind fun (v51, v52) =>
       if ([v17==v51, v18==v52].all id)=true then
        ((bD v11 v17 v18).bind fun v53 =>
        some (v53))
       else
        (some (false)))
      else
       (some (false)))
     else
      (if (decide (v50≠0))=true then
       (if (decide (v19=v50))=true then
        (some (([v17==0, v18==0].all id)))
       else
        (some (false)))
      else
       (if (decide (v19=0))=true then
        ((aU v1 v2 v3 v4 v5 v6).bind fun (v54, v55) =>
        if ([v17==v54, v18==v55].all id)=true then
         ((bD v11 v17 v18).bind fun v56 =>
         some (v56))
        else
         (some (false)))
       else
        (some (false))))))))
 else
  (some (true))
end Go.Rex
namespace Go.Rex
open Go Go.Rex
noncomputable def Bj(v1:Int)(v2:(List Nat))(v3:Int)(v4:(List Nat)):Option (Int×Int×Int) :=
 (dR v1 v2).bind fun (v8, v9) =>
 (dL v8 v9 0 0).bind fun (v10, v11, v12, v13, v14) =>
 (dR v3 v4).bind fun (v15, v16) =>
 (dL v15 v16 0 0).bind fun (v17, v18, v19, v20, v21) =>
 (aL (decide (v1≠v3)) 13).bind fun v22 =>
 (aE ([v14, v21, v22]:List Int)).bind fun v23 =>
 if (decide (v23≠0))=true then
  (some (0, 0, v23))
 else
  ((cL v17 v18 v19 v20 5000).bind fun v24 =>
  (cL v17 v18 v19 v20 80000).bind fun v25 =>
  (dF v17 v18 v19 v20 v24 v25).bind fun (v26, v27) =>
  (cZ v10 v11 v12 v13 80000).bind fun (v28, v29) =>
  (kE v26 v28).bind fun (v30, v31, v32) =>
  some (v30, v31, v32))
end Go.Rex
namespace Go.Rex
open Go Go.Rex
noncomputable def nC:(Int×Int)→Option ((Int×Int) ⊕ ((Int))) := fun (v4, v5) =>
 if (decide (v5≠0))=true then
  (if v5=0 then none else
  (some (.inl (v5, (v4.tmod v5)))))
 else
  (some (.inr v4))
noncomputable def vE(v1:Int)(v2:Int):Option (Int) :=
 (run (nC) (v1, v2)).bind fun v7 =>
 (oD v7).bind fun v8 =>
 some (v8)
end Go.Rex
namespace Go.Rex
open Go Go.Rex
noncomputable def lK(v1:Int)(v2:Int):Option (Int×Int) :=
 (vE v1 v2).bind fun v5 =>
 if (decide (v2<0))=true then
  (if (IntKind.i64.wrap (0-v5))=0 then none else
  (some ((IntKind.i64.wrap (v1.tdiv (IntKind.i64.wrap (0-v5)))), (IntKind.i64.wrap (v2.tdiv (IntKind.i64.wrap (0-v5)))))))
 else
  (if v5=0 then none else
  (some ((IntKind.i64.wrap (v1.tdiv v5)), (IntKind.i64.wrap (v2.tdiv v5)))))
end Go.Rex
namespace Go.Rex
open Go Go.Rex
noncomputable def fF(v1:Int)(v2:Int):Option (Int×Int×Int) :=
 if (decide (v2=0))=true then
  (some (0, 0, 11))
 else
  ((lK v1 v2).bind fun (v6, v7) =>
  if (decide (v6>1000000000))=true then
   (some (0, 0, 8))
  else
   (if (decide (v7>1000000000))=true then
    (some (0, 0, 8))
   else
    (some (v6, v7, 0))))
end Go.Rex
namespace Go.Rex
open Go Go.Rex
noncomputable def Cd(v1:Int)(v2:(List Nat))(v3:Int)(v4:(List Nat)):Option (Int×Int×Int) :=
 if (decide (v1≠v3))=true then
  (some (0, 0, 13))
 else
  ((jX v1 5000).bind fun (v8, v9) =>
  (jX v1 80000).bind fun (v10, v11) =>
  (nY v3 v4 (if (if (v4.length:Int)<v10 then (v4.length:Int) else v10)<v8 then (if (v4.length:Int)<v10 then (v4.length:Int) else v10) else v8) (if (v4.length:Int)<v10 then (v4.length:Int) else v10)).bind fun v12 =>
  (nY v1 v2 0 (if (v2.length:Int)<v10 then (v2.length:Int) else v10)).bind fun v13 =>
  (fF v12 v13).bind fun (v14, v15, v16) =>
  some (v14, v15, v16))
end Go.Rex
namespace Go.Rex
open Go Go.Rex
noncomputable def Jd(v1:Int)(v2:(List Nat))(v3:Int)(v4:(List Nat)):Option Bool :=
 (eG v1 v2).bind fun v6 =>
 if v6=true then
  ((eG v3 v4).bind fun v7 =>
  if v7=true then
   ((aH v1 v2).bind fun (v8, v9) =>
   (aH v3 v4).bind fun (v10, v11) =>
   (Bj v8 v9 v10 v11).bind fun (v12, v13, v14) =>
   (bZ v1 v2).bind fun v15 =>
   if (decide (v15=0))=true then
    ((bZ v3 v4).bind fun v16 =>
    if (decide (v16=0))=true then
     ((Cd v1 v2 v3 v4).bind fun (v17, v18, v19) =>
     if (decide (v14=v19))=true then
      (some (([v12==v17, v13==v18].all id)))
     else
      (some (false)))
    else
     (if (decide (v14=v16))=true then
      (some (([v12==0, v13==0].all id)))
     else
      (some (false))))
   else
    (if (decide (v14=v15))=true then
     (some (([v12==0, v13==0].all id)))
    else
     (some (false))))
  else
   (some (true)))
 else
  (some (true))
end Go.Rex
namespace Go.Rex
open Go Go.Rex
noncomputable def sT(v12:(List (Int×Int)))(v14:Nat):((List (Int×Int))×Int)→Option (((List (Int×Int))×Int) ⊕ (((List (Int×Int))))) := fun (v15, v16) =>
 if (decide (v16<(v14:Int)))=true then
  ((fR (v12.take v14) v16).bind fun (v21, v22) =>
  (Fi 16 v15 ([(v21, v22)]:List (Int×Int))).bind fun v23 =>
  some (.inl (v23, (IntKind.i64.wrap (v16+1)))))
 else
  (some (.inr v15))
noncomputable def pM(v1:Int)(v2:(List Nat))(v3:Int)(v4:Int):Option ((List (Int×Int))×Int) :=
 (dL v1 v2 v3 v4).bind fun (v7, v8, v9, v10, v11) =>
 if (decide (v11≠0))=true then
  (some (([]:List (Int×Int)), v11))
 else
  ((cG v7 v8 v9 v10).bind fun v12 =>
  (aK v7 v8 v9 v10).bind fun v13 =>
  (aAw v12 v13).bind fun v14 =>
  (run (sT v12 v14) (([]:List (Int×Int)), 0)).bind fun v24 =>
  some (v24, 0))
end Go.Rex
namespace Go.Rex
open Go Go.Rex
noncomputable def zY(v7:(List (Int×Int))):((List Int)×Int)→Option (((List Int)×Int) ⊕ (((List Int)))) := fun (v9, v10) =>
 if (decide (v10<(v7.length:Int)))=true then
  ((fR v7 v10).bind fun (v15, v16) =>
  (Fi 8 v9 ([v15]:List Int)).bind fun v17 =>
  some (.inl (v17, (IntKind.i64.wrap (v10+1)))))
 else
  (some (.inr v9))
noncomputable def Gw(v1:Int)(v2:(List Nat)):Option ((List Int)×Int) :=
 (dR v1 v2).bind fun (v5, v6) =>
 (pM v5 v6 0 0).bind fun (v7, v8) =>
 if (decide (v8≠0))=true then
  (some (([]:List Int), v8))
 else
  ((run (zY v7) (([]:List Int), 0)).bind fun v18 =>
  some (v18, 0))
end Go.Rex
namespace Go.Rex
open Go Go.Rex
noncomputable def jL(v1:Int)(v2:(List Nat))(v3:Int)(v4:Int)(v5:Int):Option (Int×Int) :=
 (aU v1 v2 v3 v4 v5 (v2.length:Int)).bind fun (v8, v9) =>
 some (v8, v9)
end Go.Rex
namespace Go.Rex
open Go Go.Rex
noncomputable def tV(v1:Int)(v2:(List Nat))(v3:Int)(v4:Int):((List (Int×Int))×Int)→Option (((List (Int×Int))×Int) ⊕ (((List (Int×Int))))) := fun (v6, v7) =>
 if (decide (v7<(v2.length:Int)))=true then
  ((jL v1 v2 v3 v4 v7).bind fun (v12, v13) =>
  (Fi 16 v6 ([(v12, v13)]:List (Int×Int))).bind fun v14 =>
  some (.inl (v14, (IntKind.i64.wrap (v7+1)))))
 else
  (some (.inr v6))
noncomputable def qW(v1:Int)(v2:(List Nat))(v3:Int)(v4:Int):Option ((List (Int×Int))) :=
 (run (tV v1 v2 v3 v4) (([]:List (Int×Int)), 0)).bind fun v15 =>
 some (v15)
end Go.Rex
namespace Go.Rex
open Go Go.Rex
noncomputable def Bo(v6:(List (Int×Int))):((List Int)×Int)→Option (((List Int)×Int) ⊕ (((List Int)))) := fun (v7, v8) =>
 if (decide (v8<(v6.length:Int)))=true then
  ((fR v6 v8).bind fun (v13, v14) =>
  (Fi 8 v7 ([v13]:List Int)).bind fun v15 =>
  some (.inl (v15, (IntKind.i64.wrap (v8+1)))))
 else
  (some (.inr v7))
noncomputable def Aj(v1:Int)(v2:(List Nat)):Option ((List Int)) :=
 (jR v1 v2).bind fun (v4, v5) =>
 (qW v4 v5 0 0).bind fun v6 =>
 (run (Bo v6) (([]:List Int), 0)).bind fun v16 =>
 some (v16)
end Go.Rex
namespace Go.Rex
open Go Go.Rex
noncomputable def Fv(v1:(List Int))(v2:(List Int)):(Int)→Option ((Int) ⊕ ((Unit) ⊕ (Unit))) := fun v4 =>
 if (decide (v4<(v1.length:Int)))=true then
  ((fR v1 v4).bind fun v7 =>
  (fR v2 v4).bind fun v8 =>
  if (decide (v7≠v8))=true then
   (some (.inr (.inl ())))
  else
   (some (.inl (IntKind.i64.wrap (v4+1)))))
 else
  (some (.inr (.inr ())))
noncomputable def Pi(v1:(List Int))(v2:(List Int)):Option (Bool) :=
 if (decide ((v1.length:Int)≠(v2.length:Int)))=true then
  (some (false))
 else
  ((run (Fv v1 v2) 0).bind fun v9 => match v9 with
  | (.inl _) =>
   some (false)
  | (.inr _) =>
   some (true))
end Go.Rex
namespace Go.Rex
open Go Go.Rex
noncomputable def Ar(v1:(List (Int×Int)))(v2:(List (Int×Int))):(Int)→Option ((Int) ⊕ ((Unit) ⊕ (Unit))) := fun v4 =>
 if (decide (v4<(v1.length:Int)))=true then
  ((fR v1 v4).bind fun (v9, v10) =>
  (fR v2 v4).bind fun (v11, v12) =>
  if ([v9==v11, v10==v12].all id)=true then
   (some (.inl (IntKind.i64.wrap (v4+1))))
  else
   (some (.inr (.inl ()))))
 else
  (some (.inr (.inr ())))
noncomputable def Ja(v1:(List (Int×Int)))(v2:(List (Int×Int))):Option (Bool) :=
 if (decide ((v1.length:Int)≠(v2.length:Int)))=true then
  (some (false))
 else
  ((run (Ar v1 v2) 0).bind fun v13 => match v13 with
  | (.inl _) =>
   some (false)
  | (.inr _) =>
   some (true))
end Go.Rex
namespace Go.Rex
open Go Go.Rex
noncomputable def tU(v9:(List Int)):(Int)→Option ((Int) ⊕ ((Unit) ⊕ (Unit))) := fun v25 =>
 if (decide (v25<(v9.length:Int)))=true then
  ((fR v9 v25).bind fun v28 =>
  (fR v9 (IntKind.i64.wrap (v25-1))).bind fun v29 =>
  if (decide (v28>v29))=true then
   (some (.inr (.inl ())))
  else
   (some (.inl (IntKind.i64.wrap (v25+1)))))
 else
  (some (.inr (.inr ())))
noncomputable def Ni(v1:Int)(v2:(List Nat))(v3:Int)(v4:Int):Option Bool :=
 (eG v1 v2).bind fun v6 =>
 if v6=true then
  ((aH v1 v2).bind fun (v7, v8) =>
  (Gw v7 v8).bind fun (v9, v10) =>
  (eA v1 v2 v3 v4).bind fun (v11, v12, v13, v14) =>
  (pM v11 v12 v13 v14).bind fun (v15, v16) =>
  (bZ v1 v2).bind fun v17 =>
  if (decide (v17≠0))=true then
   (if (decide (v10=v17))=true then
    (if (decide (v16=v17))=true then
     (some ((decide ((IntKind.i64.wrap ((v9.length:Int)+(v15.length:Int)))=0))))
    else
     (some (false)))
   else
    (some (false)))
  else
   (if (decide (v10≠0))=true then
    (some (false))
   else
    ((Aj v1 v2).bind fun v18 =>
    (Pi v9 v18).bind fun v19 =>
    if v19=true then
     ((aH v1 v2).bind fun (v20, v21) =>
     (uC v20 v21 0 (v2.length:Int)).bind fun (v22, v23) =>
     if (decide (v23≠0))=true then
      (some (false))
     else
      (if (decide ((v9.length:Int)=0))=true then
       (some (false))
      else
       ((fR v9 0).bind fun v24 =>
       if (decide (v24≠v22))=true then
        (some (false))
       else
        ((run (tU v9) 1).bind fun v30 => match v30 with
        | (.inl _) =>
         some (false)
        | (.inr _) =>
         (eS v1 v2 v3 v4).bind fun v31 =>
         if (decide (v31≠0))=true then
          (if (decide (v16=v31))=true then
           (some ((decide ((v15.length:Int)=0))))
          else
           (some (false)))
         else
          (if (decide (v16=0))=true then
           ((qW v1 v2 v3 v4).bind fun v32 =>
           (Ja v15 v32).bind fun v33 =>
           some (v33))
          else
           (some (false)))))))
    else
     (some (false)))))
 else
  (some (true))
end Go.Rex
namespace Go.Rex
open Go Go.Rex
noncomputable def qS(v1:Int)(v2:(List Nat))(v3:Int)(v4:Int)(v5:Int):Option (Int×Int×Int) :=
 (cZ v1 v2 v3 v4 v5).bind fun (v9, v10) =>
 (fQ v1 v2 v3 v4 v5).bind fun (v11, v12) =>
 if (decide (v9=0))=true then
  (if (decide (v11=0))=true then
   (some (0, 0, 11))
  else
   ((aZ v9 v10 1000).bind fun (v13, v14) =>
   (iW v13 (IntKind.i64.wrap (v9+v12))).bind fun v15 =>
   (jK v14 (IntKind.i64.wrap (v10+v11))).bind fun v16 =>
   (aJ v15 v16).bind fun (v17, v18) =>
   some (v17, v18, 0)))
 else
  ((aZ v9 v10 1000).bind fun (v19, v20) =>
  (iW v19 (IntKind.i64.wrap (v9+v12))).bind fun v21 =>
  (jK v20 (IntKind.i64.wrap (v10+v11))).bind fun v22 =>
  (aJ v21 v22).bind fun (v23, v24) =>
  some (v23, v24, 0))
end Go.Rex
namespace Go.Rex
open Go Go.Rex
noncomputable def qX(v1:Int)(v2:(List Nat))(v3:Int)(v4:Int)(v5:Int):Option (Int×Int×Int) :=
 (dL v1 v2 v3 v4).bind fun (v9, v10, v11, v12, v13) =>
 (eM v5).bind fun v14 =>
 (aE ([v13, v14]:List Int)).bind fun v15 =>
 if (decide (v15≠0))=true then
  (some (0, 0, v15))
 else
  ((qS v9 v10 v11 v12 v5).bind fun (v16, v17, v18) =>
  some (v16, v17, v18))
end Go.Rex
namespace Go.Rex
open Go Go.Rex
noncomputable def sJ(v1:Int)(v2:(List Nat))(v3:Int)(v4:Int)(v5:Int):Option (Int×Int×Int×Int) :=
 (jX v1 v5).bind fun (v10, v11) =>
 (aU v1 v2 v3 v4 0 (if (v2.length:Int)<v10 then (v2.length:Int) else v10)).bind fun (v12, v13) =>
 if (decide ((if (v2.length:Int)<v10 then (v2.length:Int) else v10)=(v2.length:Int)))=true then
  ((aU v1 v2 v3 v4 (if (v2.length:Int)<v10 then (v2.length:Int) else v10) (v2.length:Int)).bind fun (v14, v15) =>
  some (v12, (IntKind.i64.wrap (v13-v4)), v14, v15))
 else
  ((aU v1 v2 v3 v4 (if (v2.length:Int)<v10 then (v2.length:Int) else v10) (v2.length:Int)).bind fun (v16, v17) =>
  some (v12, v13, v16, v17))
end Go.Rex
namespace Go.Rex
open Go Go.Rex
noncomputable def mX(v1:Int)(v2:(List Nat))(v3:Int):Option (Int×Int×Int) :=
 (jR v1 v2).bind fun (v7, v8) =>
 (sJ v7 v8 0 0 v3).bind fun (v9, v10, v11, v12) =>
 (jR v1 v2).bind fun (v13, v14) =>
 (jL v13 v14 0 0 0).bind fun (v15, v16) =>
 (fF v9 v15).bind fun (v17, v18, v19) =>
 some (v17, v18, v19)
end Go.Rex
namespace Go.Rex
open Go Go.Rex
noncomputable def fZ(v1:Int)(v2:(List Nat))(v3:Int)(v4:Int)(v5:Int):Option (Int×Int×Int) :=
 (sJ v1 v2 v3 v4 v5).bind fun (v9, v10, v11, v12) =>
 if (decide ((IntKind.i64.wrap (v9+v11))=0))=true then
  (some (0, 0, 11))
 else
  ((dY (IntKind.i64.wrap (1000*v9)) (IntKind.i64.wrap (v9+v12))).bind fun v13 =>
  (eE (IntKind.i64.wrap (1000*v10)) (IntKind.i64.wrap (v10+v11))).bind fun v14 =>
  some (v13, v14, 0))
end Go.Rex
namespace Go.Rex
open Go Go.Rex
noncomputable def kR:(Int×Int×Int×Int)→Option ((Int×Int×Int×Int) ⊕ ((Int))) := fun (v6, v7, v8, v9) =>
 (dY v6 v7).bind fun v13 =>
 (dY v8 v9).bind fun v14 =>
 if (decide (v13<v14))=true then
  (some (.inr (-1)))
 else
  (if (decide (v13>v14))=true then
   (some (.inr 1))
  else
   (if (decide ((IntKind.i64.wrap (v6-(IntKind.i64.wrap (v13*v7))))=0))=true then
    (if (decide ((IntKind.i64.wrap (v8-(IntKind.i64.wrap (v14*v9))))=0))=true then
     (some (.inr 0))
    else
     (some (.inr (-1))))
   else
    (if (decide ((IntKind.i64.wrap (v8-(IntKind.i64.wrap (v14*v9))))=0))=true then
     (some (.inr 1))
    else
     (some (.inl (v9, (IntKind.i64.wrap (v8-(IntKind.i64.wrap (v14*v9)))), v7, (IntKind.i64.wrap (v6-(IntKind.i64.wrap (v13*v7))))))))))
noncomputable def aP(v1:Int)(v2:Int)(v3:Int)(v4:Int):Option (Int) :=
 (run (kR) (v1, v2, v3, v4)).bind fun v15 =>
 some (v15)
end Go.Rex
namespace Go.Rex
open Go Go.Rex
noncomputable def Cj(v1:Int)(v2:(List Nat))(v3:Int)(v4:Int)(v5:Int):Option Bool :=
 (eG v1 v2).bind fun v7 =>
 if v7=true then
  ((aH v1 v2).bind fun (v8, v9) =>
  (dK v8 v9 v5).bind fun (v10, v11, v12) =>
  (eA v1 v2 v3 v4).bind fun (v13, v14, v15, v16) =>
  (qX v13 v14 v15 v16 v5).bind fun (v17, v18, v19) =>
  (bZ v1 v2).bind fun v20 =>
  (eS v1 v2 v3 v4).bind fun v21 =>
  (gC v5).bind fun v22 =>
  if (decide (v22≠0))=true then
   (if (decide (v20=0))=true then
    (if (decide (v21=0))=true then
     (if (decide (v22=0))=true then
      ((mX v1 v2 v5).bind fun (v23, v24, v25) =>
      (fZ v1 v2 v3 v4 v5).bind fun (v26, v27, v28) =>
      if (decide (v12≠v25))=true then
       (some (false))
      else
       (if ([v10==v23, v11==v24].all id)=true then
        (if (decide (v19≠v28))=true then
         (some (false))
        else
         (if ([v17==v26, v18==v27].all id)=true then
          (if (decide (v25≠0))=true then
           (some (true))
          else
           (if (decide (v28≠0))=true then
            (some (true))
           else
            (if (decide (v4≠0))=true then
             (some (true))
            else
             ((aP v17 1000 v10 v11).bind fun v29 =>
             if (decide (v29≤0))=true then
              ((aP v10 v11 v18 1000).bind fun v30 =>
              some ((decide (v30≤0))))
             else
              (some (false))))))
         else
          (some (false))))
       else
        (some (false))))
     else
      (if (decide (v12≠v22))=true then
       (some (false))
      else
       (if ([v10==0, v11==0].all id)=true then
        (if (decide (v19≠v22))=true then
         (some (false))
        else
         (if ([v17==0, v18==0].all id)=true then
          (some (true))
         else
          (some (false))))
       else
        (some (false)))))
    else
     (if (decide (v22=0))=true then
      ((mX v1 v2 v5).bind fun (v31, v32, v33) =>
      if (decide (v12≠v33))=true then
       (some (false))
      else
       (if ([v10==v31, v11==v32].all id)=true then
        (if (decide (v19≠v21))=true then
         (some (false))
        else
         (if ([v17==0, v18==0].all id)=true then
          (if (decide (v33≠0))=true then
           (some (true))
          else
           (if (decide (v21≠0))=true then
            (some (true))
           else
            (if (decide (v4≠0))=true then
             (some (true))
            else
             ((aP v17 1000 v10 v11).bind fun v34 =>
             if (decide (v34≤0))=true then
              ((aP v10 v11 v18 1000).bind fun v35 =>
              some ((decide (v35≤0))))
             else
              (some (false))))))
         else
          (some (false))))
       else
        (some (false))))
     else
      (if (decide (v12≠v22))=true then
       (some (false))
      else
       (if ([v10==0, v11==0].all id)=true then
        (if (decide (v19≠v21))=true then
         (some (false))
        else
         (if ([v17==0, v18==0].all id)=true then
          (some (true))
         else
          (some (false))))
       else
        (some (false))))))
   else
    (if (decide (v21=0))=true then
     (if (decide (v22=0))=true then
      ((fZ v1 v2 v3 v4 v5).bind fun (v36, v37, v38) =>
      if (decide (v12≠v20))=true then
       (some (false))
      else
       (if ([v10==0, v11==0].all id)=true then
        (if (decide (v19≠v38))=true then
         (some (false))
        else
         (if ([v17==v36, v18==v37].all id)=true then
          (if (decide (v20≠0))=true then
           (some (true))
          else
           (if (decide (v38≠0))=true then
            (some (true))
           else
            (if (decide (v4≠0))=true then
             (some (true))
            else
             ((aP v17 1000 v10 v11).bind fun v39 =>
             if (decide (v39≤0))=true then
              ((aP v10 v11 v18 1000).bind fun v40 =>
              some ((decide (v40≤0))))
             else
              (some (false))))))
         else
          (some (false))))
       else
        (some (false))))
     else
      (if (decide (v12≠v20))=true then
       (some (false))
      else
       (if ([v10==0, v11==0].all id)=true then
        (if (decide (v19≠v22))=true then
         (some (false))
        else
         (if ([v17==0, v18==0].all id)=true then
          (if (decide (v20≠0))=true then
           (some (true))
          else
           (some (true)))
         else
          (some (false))))
       else
        (some (false)))))
    else
     (if (decide (v12≠v20))=true then
      (some (false))
     else
      (if ([v10==0, v11==0].all id)=true then
       (if (decide (v19≠v21))=true then
        (some (false))
       else
        (if ([v17==0, v18==0].all id)=true then
         (if (decide (v20≠0))=true then
          (some (true))
         else
          (if (decide (v21≠0))=true then
           (some (true))
          else
           (if (decide (v4≠0))=true then
            (some (true))
           else
            ((aP v17 1000 v10 v11).bind fun v41 =>
            if (decide (v41≤0))=true then
             ((aP v10 v11 v18 1000).bind fun v42 =>
             some ((decide (v42≤0))))
            else
             (some (false))))))
        else
         (some (false))))
      else
       (some (false))))))
  else
   (if (decide (v20=0))=true then
    ((mX v1 v2 v5).bind fun (v43, v44, v45) =>
    if (decide (v21=0))=true then
     ((fZ v1 v2 v3 v4 v5).bind fun (v46, v47, v48) =>
     if (decide (v12≠v45))=true then
      (some (false))
     else
      (if ([v10==v43, v11==v44].all id)=true then
       (if (decide (v19≠v48))=true then
        (some (false))
       else
        (if ([v17==v46, v18==v47].all id)=true then
         (if (decide (v45≠0))=true then
          (some (true))
         else
          (if (decide (v48≠0))=true then
           (some (true))
          else
           (if (decide (v4≠0))=true then
            (some (true))
           else
            ((aP v17 1000 v10 v11).bind fun v49 =>
            if (decide (v49≤0))=true then
             ((aP v10 v11 v18 1000).bind fun v50 =>
             some ((decide (v50≤0))))
            else
             (some (false))))))
        else
         (some (false))))
      else
       (some (false))))
    else
     (if (decide (v12≠v45))=true then
      (some (false))
     else
      (if ([v10==v43, v11==v44].all id)=true then
       (if (decide (v19≠v21))=true then
        (some (false))
       else
        (if ([v17==0, v18==0].all id)=true then
         (if (decide (v45≠0))=true then
          (some (true))
         else
          (if (decide (v21≠0))=true then
           (some (true))
          else
           (if (decide (v4≠0))=true then
            (some (true))
           else
            ((aP v17 1000 v10 v11).bind fun v51 =>
            if (decide (v51≤0))=true then
             ((aP v10 v11 v18 1000).bind fun v52 =>
             some ((decide (v52≤0))))
            else
             (some (false))))))
        else
         (some (false))))
      else
       (some (false)))))
   else
    (if (decide (v21=0))=true then
     ((fZ v1 v2 v3 v4 v5).bind fun (v53, v54, v55) =>
     if (decide (v12≠v20))=true then
      (some (false))
     else
      (if ([v10==0, v11==0].all id)=true then
       (if (decide (v19≠v55))=true then
        (some (false))
       else
        (if ([v17==v53, v18==v54].all id)=true then
         (if (decide (v20≠0))=true then
          (some (true))
         else
          (if (decide (v55≠0))=true then
           (some (true))
          else
           (if (decide (v4≠0))=true then
            (some (true))
           else
            ((aP v17 1000 v10 v11).bind fun v56 =>
            if (decide (v56≤0))=true then
             ((aP v10 v11 v18 1000).bind fun v57 =>
             some ((decide (v57≤0))))
            else
             (some (false))))))
        else
         (some (false))))
      else
       (some (false))))
    else
     (if (decide (v12≠v20))=true then
      (some (false))
     else
      (if ([v10==0, v11==0].all id)=true then
       (if (decide (v19≠v21))=true then
        (some (false))
       else
        (if ([v17==0, v18==0].all id)=true then
         (if (decide (v20≠0))=true then
          (some (true))
         else
          (if (decide (v21≠0))=true then
           (some (true))
          else
           (if (decide (v4≠0))=true then
            (some (true))
           else
            ((aP v17 1000 v10 v11).bind fun v58 =>
            if (decide (v58≤0))=true then
             ((aP v10 v11 v18 1000).bind fun v59 =>
             some ((decide (v59≤0))))
            else
             (some (false))))))
        else
         (some (false))))
      else
       (some (false)))))))
 else
  (some (true))
end Go.Rex
namespace Go.Rex
open Go Go.Rex
noncomputable def jB(v1:Int):(Int×Int)→Option ((Int×Int) ⊕ ((Int))) := fun (v3, v4) =>
 if (decide (v4<v1))=true then
  (some (.inl ((IntKind.i64.wrap (10*v3)), (IntKind.i64.wrap (v4+1)))))
 else
  (some (.inr v3))
noncomputable def kD(v1:Int):Option (Int) :=
 (run (jB v1) (1, 0)).bind fun v6 =>
 some (v6)
end Go.Rex
namespace Go.Rex
open Go Go.Rex
noncomputable def iX(v1:Int)(v2:Int)(v3:Int):Option (Bool) :=
 (kD (IntKind.i64.wrap (v3.tdiv 2))).bind fun v5 =>
 if (decide ((v3.tmod 2)=0))=true then
  (some ((decide ((IntKind.i64.wrap (v1*v5))≤v2))))
 else
  (if (decide ((IntKind.i64.wrap (v1*v5))>v2))=true then
   (some ((decide ((IntKind.i64.wrap (v1*v5))≤v2))))
  else
   ((aP (IntKind.i64.wrap (10*(IntKind.i64.wrap (v1*v5)))) v2 v2 (if (IntKind.i64.wrap (v1*v5))>1 then (IntKind.i64.wrap (v1*v5)) else 1)).bind fun v6 =>
   some ((decide (v6≤0)))))
end Go.Rex
namespace Go.Rex
open Go Go.Rex
noncomputable def tW(v1:Int)(v2:(List Nat))(v3:Int):(Int)→Option ((Int) ⊕ ((Int))) := fun v5 =>
 (jR v1 v2).bind fun (v16, v17) =>
 (jL v16 v17 0 0 v5).bind fun (v18, v19) =>
 (jR v1 v2).bind fun (v20, v21) =>
 (jL v20 v21 0 0 0).bind fun (v22, v23) =>
 (iX v18 v22 v3).bind fun v24 =>
 if v24=true then
  (some (.inr v5))
 else
  (some (.inl (IntKind.i64.wrap (v5+1))))
noncomputable def qG(v1:Int)(v2:(List Nat))(v3:Int):Option (Int) :=
 (run (tW v1 v2 v3) 0).bind fun v25 =>
 some (v25)
end Go.Rex
namespace Go.Rex
open Go Go.Rex
noncomputable def Lq(v1:Int)(v2:(List Nat))(v3:Int):Option Bool :=
 (eG v1 v2).bind fun v5 =>
 if v5=true then
  ((aH v1 v2).bind fun (v6, v7) =>
  (bJ v6 v7 v3).bind fun (v8, v9) =>
  (bZ v1 v2).bind fun v10 =>
  if (decide (v10=0))=true then
   ((bD v3 0 12).bind fun v11 =>
   if v11=true then
    ((Aj v1 v2).bind fun v12 =>
    (fR v12 0).bind fun v13 =>
    if (decide (v13=0))=true then
     (if (decide (v9=11))=true then
      (some ((decide (v8=0))))
     else
      (some (false)))
    else
     (if (decide (v10≠0))=true then
      (if (decide (v9=v10))=true then
       (some ((decide (v8=0))))
      else
       (some (false)))
     else
      (if (decide (v9≠0))=true then
       (some (false))
      else
       ((qG v1 v2 v3).bind fun v14 =>
       if (decide (v8≠v14))=true then
        (some (false))
       else
        (if (decide (v3=12))=true then
         (some (true))
        else
         ((aH v1 v2).bind fun (v15, v16) =>
         (bJ v15 v16 (IntKind.i64.wrap (v3+1))).bind fun (v17, v18) =>
         if (decide (v18=0))=true then
          (if (decide (v8≤v17))=true then
           (some ((decide (v17≤(v2.length:Int)))))
          else
           (some (false)))
         else
          (some (false))))))))
   else
    (if (decide (v9=2))=true then
     (some ((decide (v8=0))))
    else
     (some (false))))
  else
   (if (decide (v10≠0))=true then
    (if (decide (v9=v10))=true then
     (some ((decide (v8=0))))
    else
     (some (false)))
   else
    (if (decide (v9≠0))=true then
     (some (false))
    else
     ((qG v1 v2 v3).bind fun v19 =>
     if (decide (v8≠v19))=true then
      (some (false))
     else
      (if (decide (v3=12))=true then
       (some (true))
      else
       ((aH v1 v2).bind fun (v20, v21) =>
       (bJ v20 v21 (IntKind.i64.wrap (v3+1))).bind fun (v22, v23) =>
       if (decide (v23=0))=true then
        (if (decide (v8≤v22))=true then
         (some ((decide (v22≤(v2.length:Int)))))
        else
         (some (false)))
       else
        (some (false))))))))
 else
  (some (true))
end Go.Rex
namespace Go.Rex
open Go Go.Rex
noncomputable def Bd(v1:Int)(v2:Int):Option (Int) :=
 if v2=0 then none else
 (if (decide ((v1.tmod v2)<0))=true then
  (some ((IntKind.i64.wrap ((v1.tmod v2)+v2))))
 else
  (some ((v1.tmod v2))))
end Go.Rex
namespace Go.Rex
open Go Go.Rex
noncomputable def vU(v1:Int):Option (Int) :=
 (fR ([1000000000, 1258925411, 1584893192, 1995262314, 2511886431, 3162277660, 3981071705, 5011872336, 6309573444, 7943282347]:List Int) v1).bind fun v3 =>
 some (v3)
end Go.Rex
namespace Go.Rex
open Go Go.Rex
noncomputable def nA(v1:Int)(v2:Int)(v3:Int)(v4:Int):Option (Int) :=
 (Bd v3 10).bind fun v6 =>
 (dY v3 10).bind fun v7 =>
 (vU v6).bind fun v8 =>
 if (decide (v6>0))=true then
  (if (decide (v7≥0))=true then
   ((kD v7).bind fun v9 =>
   (aP v1 v2 (IntKind.i64.wrap ((IntKind.i64.wrap (v8+v4))*v9)) 1000000000).bind fun v10 =>
   some (v10))
  else
   ((kD (IntKind.i64.wrap (9-v7))).bind fun v11 =>
   (aP v1 v2 (IntKind.i64.wrap (v8+v4)) v11).bind fun v12 =>
   some (v12)))
 else
  (if (decide (v7≥0))=true then
   ((kD v7).bind fun v13 =>
   (aP v1 v2 (IntKind.i64.wrap (v8*v13)) 1000000000).bind fun v14 =>
   some (v14))
  else
   ((kD (IntKind.i64.wrap (9-v7))).bind fun v15 =>
   (aP v1 v2 v8 v15).bind fun v16 =>
   some (v16)))
end Go.Rex
namespace Go.Rex
open Go Go.Rex
noncomputable def iT(v1:Int)(v2:Int):(Int)→Option ((Int) ⊕ ((Int))) := fun v10 =>
 (nA v1 v2 v10 1).bind fun v13 =>
 if (decide (v13<0))=true then
  (some (.inl (IntKind.i64.wrap (v10-1))))
 else
  (some (.inr v10))
noncomputable def iR(v1:Int)(v2:Int):(Int)→Option ((Int) ⊕ ((Int))) := fun v15 =>
 (nA v1 v2 v15 0).bind fun v18 =>
 if (decide (v18>0))=true then
  (some (.inl (IntKind.i64.wrap (v15+1))))
 else
  (some (.inr v15))
noncomputable def fD(v1:Int)(v2:Int):Option (Int×Int×Int) :=
 (bD v1 1 10000000000000).bind fun v6 =>
 if v6=true then
  ((bD v2 1 10000000000000).bind fun v7 =>
  if v7=true then
   ((aP v1 v2 1000000000 1).bind fun v8 =>
   if (decide (v8>0))=true then
    (some (0, 0, 8))
   else
    ((aP v1 v2 1 1000000000).bind fun v9 =>
    if (decide (v9<0))=true then
     (some (0, 0, 8))
    else
     ((run (iT v1 v2) 90).bind fun v14 =>
     (run (iR v1 v2) (-90)).bind fun v19 =>
     some (v14, v19, 0))))
  else
   (some (0, 0, 2)))
 else
  (some (0, 0, 2))
end Go.Rex
namespace Go.Rex
open Go Go.Rex
noncomputable def Lk(v1:Int)(v2:Int):Option Bool :=
 (bH v1 v2).bind fun (v4, v5, v6) =>
 (fD v1 v2).bind fun (v7, v8, v9) =>
 if (decide (v6≠v9))=true then
  (some (false))
 else
  (if ([v4==v7, v5==v8].all id)=true then
   (if (decide (v9≠0))=true then
    (some (true))
   else
    ((bH v2 v1).bind fun (v10, v11, v12) =>
    (bH v1 v1).bind fun (v13, v14, v15) =>
    if (decide (v12=0))=true then
     (if (decide (v4≤v5))=true then
      (if (decide (v5≤(IntKind.i64.wrap (v4+2))))=true then
       ((bD v10 (IntKind.i64.wrap ((IntKind.i64.wrap (0-v5))-1)) (IntKind.i64.wrap ((IntKind.i64.wrap (0-v5))+1))).bind fun v16 =>
       if v16=true then
        (if (decide (v15=0))=true then
         (some (([v13==0, v14==0].all id)))
        else
         (some (false)))
       else
        (some (false)))
      else
       (some (false)))
     else
      (some (false)))
    else
     (some (false))))
  else
   (some (false)))
end Go.Rex
namespace Go.Rex
open Go Go.Rex
noncomputable def By(v1:Int)(v2:(List Nat))(v3:Int)(v4:Int)(v5:Int):Option (Int×Int×Int) :=
 (jX v1 v5).bind fun (v9, v10) =>
 if (decide (v9≥(v2.length:Int)))=true then
  (some (0, 0, 12))
 else
  ((sJ v1 v2 v3 v4 v5).bind fun (v11, v12, v13, v14) =>
  if (decide (v11=0))=true then
   (some (0, 0, 11))
  else
   (if (decide (v13=0))=true then
    (some (0, 0, 11))
   else
    ((fD v11 v14).bind fun (v15, v16, v17) =>
    if (decide (v17≠0))=true then
     (some (0, 0, v17))
    else
     ((fD v12 v13).bind fun (v18, v19, v20) =>
     if (decide (v20≠0))=true then
      (some (0, 0, v20))
     else
      (some (v15, v19, 0))))))
end Go.Rex
namespace Go.Rex
open Go Go.Rex
noncomputable def Jb(v1:Int)(v2:(List Nat))(v3:Int)(v4:Int)(v5:Int):Option Bool :=
 (eG v1 v2).bind fun v7 =>
 if v7=true then
  ((eA v1 v2 v3 v4).bind fun (v8, v9, v10, v11) =>
  (fH v8 v9 v10 v11 v5).bind fun (v12, v13, v14) =>
  (eS v1 v2 v3 v4).bind fun v15 =>
  if (decide (v15=0))=true then
   ((gC v5).bind fun v16 =>
   if (decide (v16=0))=true then
    ((By v1 v2 v3 v4 v5).bind fun (v17, v18, v19) =>
    if (decide (v14=v19))=true then
     (some (([v12==v17, v13==v18].all id)))
    else
     (some (false)))
   else
    (if (decide (v14=v16))=true then
     (some (([v12==0, v13==0].all id)))
    else
     (some (false))))
  else
   (if (decide (v14=v15))=true then
    (some (([v12==0, v13==0].all id)))
   else
    (some (false))))
 else
  (some (true))
end Go.Rex
namespace Go.Rex
open Go Go.Rex
noncomputable def Ei(v1:Int):Option (Bool) :=
 (bD v1 0 2).bind fun v3 =>
 some (v3)
end Go.Rex
namespace Go.Rex
open Go Go.Rex
noncomputable def eF(v1:Int)(v2:(List Nat))(v3:Int)(v4:Int)(v5:Int)(v9:Int)(v10:Int):(Int×Int)→Option ((Int×Int) ⊕ ((Int×Int) ⊕ (Unit))) := fun (v11, v12) =>
 if (decide (v12<(v2.length:Int)))=true then
  ((jL v1 v2 v3 v4 v12).bind fun (v21, v22) =>
  if (decide (v11<0))=true then
   ((iX v21 v10 v5).bind fun v23 =>
   if v23=true then
    ((iX v22 v9 v5).bind fun v24 =>
    if v24=true then
     (some (.inr (.inl ((if (IntKind.i64.wrap (v12-1))>0 then (IntKind.i64.wrap (v12-1)) else 0), v12))))
    else
     (some (.inl (v12, (IntKind.i64.wrap (v12+1))))))
   else
    ((iX v22 v9 v5).bind fun v25 =>
    if v25=true then
     (some (.inr (.inl ((if (IntKind.i64.wrap (v11-1))>0 then (IntKind.i64.wrap (v11-1)) else 0), v12))))
    else
     (some (.inl (v11, (IntKind.i64.wrap (v12+1)))))))
  else
   ((iX v22 v9 v5).bind fun v26 =>
   if v26=true then
    (some (.inr (.inl ((if (IntKind.i64.wrap (v11-1))>0 then (IntKind.i64.wrap (v11-1)) else 0), v12))))
   else
    (some (.inl (v11, (IntKind.i64.wrap (v12+1)))))))
 else
  (some (.inr (.inr ())))
noncomputable def aQ(v1:Int)(v2:(List Nat))(v3:Int)(v4:Int)(v5:Int):Option (Int×Int×Bool) :=
 (jL v1 v2 v3 v4 0).bind fun (v9, v10) =>
 (run (eF v1 v2 v3 v4 v5 v9 v10) ((-1), 0)).bind fun v27 => match v27 with
 | (.inl (v28, v29)) =>
  some (v28, v29, true)
 | (.inr _) =>
  some (0, 0, false)
end Go.Rex
namespace Go.Rex
open Go Go.Rex
noncomputable def iH(v1:Int)(v2:(List Nat))(v3:Int)(v4:Int)(v5:Int):Option (Int×Int×Int) :=
 (jL v1 v2 v3 v4 0).bind fun (v9, v10) =>
 if (decide (v9=0))=true then
  (some (0, 0, 11))
 else
  (if (decide (v5=0))=true then
   ((aQ v1 v2 v3 v4 2).bind fun (v11, v12, v13) =>
   if v13=true then
    ((dY (IntKind.i64.wrap ((IntKind.i64.wrap (6*v11))*1000000)) v1).bind fun v14 =>
    (eE (IntKind.i64.wrap ((IntKind.i64.wrap (6*v12))*1000000)) v1).bind fun v15 =>
    some (v14, v15, 0))
   else
    (some (0, 0, 12)))
  else
   (if (decide (v5=2))=true then
    ((aQ v1 v2 v3 v4 1).bind fun (v16, v17, v18) =>
    (aQ v1 v2 v3 v4 7).bind fun (v19, v20, v21) =>
    if v18=true then
     (if v21=true then
      ((dY (IntKind.i64.wrap ((IntKind.i64.wrap (2*(if (IntKind.i64.wrap (v19-v17))>0 then (IntKind.i64.wrap (v19-v17)) else 0)))*1000000)) v1).bind fun v22 =>
      (eE (IntKind.i64.wrap ((IntKind.i64.wrap (2*(IntKind.i64.wrap (v20-v16))))*1000000)) v1).bind fun v23 =>
      some (v22, v23, 0))
     else
      (some (0, 0, 12)))
    else
     (some (0, 0, 12)))
   else
    ((aQ v1 v2 v3 v4 1).bind fun (v24, v25, v26) =>
    (aQ v1 v2 v3 v4 5).bind fun (v27, v28, v29) =>
    if v26=true then
     (if v29=true then
      ((dY (IntKind.i64.wrap ((IntKind.i64.wrap (3*(if (IntKind.i64.wrap (v27-v25))>0 then (IntKind.i64.wrap (v27-v25)) else 0)))*1000000)) v1).bind fun v30 =>
      (eE (IntKind.i64.wrap ((IntKind.i64.wrap (3*(IntKind.i64.wrap (v28-v24))))*1000000)) v1).bind fun v31 =>
      some (v30, v31, 0))
     else
      (some (0, 0, 12)))
    else
     (some (0, 0, 12)))))
end Go.Rex
namespace Go.Rex
open Go Go.Rex
noncomputable def Jj(v1:Int)(v2:(List Nat))(v3:Int)(v4:Int)(v5:Int):Option Bool :=
 (eG v1 v2).bind fun v7 =>
 if v7=true then
  ((aH v1 v2).bind fun (v8, v9) =>
  (gA v8 v9 v5).bind fun (v10, v11, v12) =>
  (eA v1 v2 v3 v4).bind fun (v13, v14, v15, v16) =>
  (cM v13 v14 v15 v16 v5).bind fun (v17, v18, v19) =>
  (bZ v1 v2).bind fun v20 =>
  (eS v1 v2 v3 v4).bind fun v21 =>
  (Ei v5).bind fun v22 =>
  if v22=true then
   (if (decide (v20=0))=true then
    ((jR v1 v2).bind fun (v23, v24) =>
    (iH v23 v24 0 0 v5).bind fun (v25, v26, v27) =>
    if (decide (v21=0))=true then
     ((iH v1 v2 v3 v4 v5).bind fun (v28, v29, v30) =>
     if (decide (v12=v27))=true then
      (if ([v10==v25, v11==v26].all id)=true then
       (if (decide (v19=v30))=true then
        (some (([v17==v28, v18==v29].all id)))
       else
        (some (false)))
      else
       (some (false)))
     else
      (some (false)))
    else
     (if (decide (v12=v27))=true then
      (if ([v10==v25, v11==v26].all id)=true then
       (if (decide (v19=v21))=true then
        (some (([v17==0, v18==0].all id)))
       else
        (some (false)))
      else
       (some (false)))
     else
      (some (false))))
   else
    (if (decide (v21=0))=true then
     ((iH v1 v2 v3 v4 v5).bind fun (v31, v32, v33) =>
     if (decide (v12=v20))=true then
      (if ([v10==0, v11==0].all id)=true then
       (if (decide (v19=v33))=true then
        (some (([v17==v31, v18==v32].all id)))
       else
        (some (false)))
      else
       (some (false)))
     else
      (some (false)))
    else
     (if (decide (v12=v20))=true then
      (if ([v10==0, v11==0].all id)=true then
       (if (decide (v19=v21))=true then
        (some (([v17==0, v18==0].all id)))
       else
        (some (false)))
      else
       (some (false)))
     else
      (some (false)))))
  else
   (if (decide (v20=0))=true then
    (if (decide (v21=0))=true then
     (if (decide (v12=15))=true then
      (if ([v10==0, v11==0].all id)=true then
       (if (decide (v19=15))=true then
        (some (([v17==0, v18==0].all id)))
       else
        (some (false)))
      else
       (some (false)))
     else
      (some (false)))
    else
     (if (decide (v12=15))=true then
      (if ([v10==0, v11==0].all id)=true then
       (if (decide (v19=v21))=true then
        (some (([v17==0, v18==0].all id)))
       else
        (some (false)))
      else
       (some (false)))
     else
      (some (false))))
   else
    (if (decide (v21=0))=true then
     (if (decide (v12=v20))=true then
      (if ([v10==0, v11==0].all id)=true then
       (if (decide (v19=15))=true then
        (some (([v17==0, v18==0].all id)))
       else
        (some (false)))
      else
       (some (false)))
     else
      (some (false)))
    else
     (if (decide (v12=v20))=true then
      (if ([v10==0, v11==0].all id)=true then
       (if (decide (v19=v21))=true then
        (some (([v17==0, v18==0].all id)))
       else
        (some (false)))
      else
       (some (false)))
     else
      (some (false))))))
 else
  (some (true))
end Go.Rex
namespace Go.Rex
open Go Go.Rex
noncomputable def zE(v1:Int)(v2:(List Nat))(v3:Int)(v4:Int):(Int×Int×Int)→Option ((Int×Int×Int) ⊕ ((Int×Int))) := fun (v10, v11, v12) =>
 if (decide (v12<(v2.length:Int)))=true then
  ((kB v1 v2 v3 v4 v12).bind fun (v17, v18) =>
  some (.inl ((IntKind.i64.wrap (v10+(IntKind.i64.wrap (v12*v17)))), (IntKind.i64.wrap (v11+(IntKind.i64.wrap (v12*v18)))), (IntKind.i64.wrap (v12+1)))))
 else
  (some (.inr (v10, v11)))
noncomputable def Fb(v1:Int)(v2:(List Nat))(v3:Int)(v4:Int):Option (Int×Int×Int) :=
 if (decide (v4≠0))=true then
  (some (0, 0, 23))
 else
  ((jL v1 v2 v3 v4 0).bind fun (v8, v9) =>
  if (decide (v8=0))=true then
   (some (0, 0, 11))
  else
   ((run (zE v1 v2 v3 v4) (0, 0, 0)).bind fun (v19, v20) =>
   if v9=0 then none else
   ((dY (IntKind.i64.wrap ((v19.tmod v9)*1000000)) v9).bind fun v21 =>
   (dY (IntKind.i64.wrap ((IntKind.i64.wrap ((IntKind.i64.wrap (v19.tdiv v9))*1000000))+v21)) v1).bind fun v22 =>
   (eE (IntKind.i64.wrap ((IntKind.i64.wrap ((v2.length:Int)-1))*1000000)) v1).bind fun v23 =>
   if v8=0 then none else
   (if (decide ((IntKind.i64.wrap (v20.tdiv v8))<(v2.length:Int)))=true then
    ((eE (IntKind.i64.wrap ((v20.tmod v8)*1000000)) v8).bind fun v24 =>
    (eE (IntKind.i64.wrap ((IntKind.i64.wrap ((IntKind.i64.wrap (v20.tdiv v8))*1000000))+v24)) v1).bind fun v25 =>
    some (v22, (if v25<v23 then v25 else v23), 0))
   else
    (some (v22, v23, 0))))))
end Go.Rex
namespace Go.Rex
open Go Go.Rex
noncomputable def Jc(v1:Int)(v2:(List Nat))(v3:Int)(v4:Int):Option Bool :=
 (eG v1 v2).bind fun v6 =>
 if v6=true then
  ((eA v1 v2 v3 v4).bind fun (v7, v8, v9, v10) =>
  (iL v7 v8 v9 v10).bind fun (v11, v12, v13) =>
  (eS v1 v2 v3 v4).bind fun v14 =>
  if (decide (v14=0))=true then
   ((Fb v1 v2 v3 v4).bind fun (v15, v16, v17) =>
   if (decide (v13=v17))=true then
    (some (([v11==v15, v12==v16].all id)))
   else
    (some (false)))
  else
   (if (decide (v13=v14))=true then
    (some (([v11==0, v12==0].all id)))
   else
    (some (false))))
 else
  (some (true))
end Go.Rex
