/- The functions of the program and of the reference, as functions of lists and numbers. -/
import Derived.Test.YtjhneebncpmneaaGreatDoorRexG10
set_option linter.unusedSimpArgs false
set_option linter.unusedVariables false
set_option linter.defProp false
namespace Go.Rex
open Go Go.Rex
def e_f(x:Nat):List TV:=[.v (.float .f32 x)]
def e_i(x:Int):List TV:=[.v (.int .i64 x)]
def e_ii(x:(Int×Int)):List TV:=[.v (.int .i64 x.1),.v (.int .i64 x.2)]
def e_iii(x:(Int×Int×Int)):List TV:=[.v (.int .i64 x.1),.v (.int .i64 x.2.1),.v (.int .i64 x.2.2)]
def gK:ByteArray:=⟨#[0,1,2,2,3,3,3,3,4,4,4,4,4,4,4,4,5,5,5,5,5,5,5,5,5,5,5,5,5,5,5,5,6,6,6,6,6,6,6,6,6,6,6,6,6,6,6,6,6,6,6,6,6,6,6,6,6,6,6,6,6,6,6,6,7,7,7,7,7,7,7,7,7,7,7,7,7,7,7,7,7,7,7,7,7,7,7,7,7,7,7,7,7,7,7,7,7,7,7,7,7,7,7,7,7,7,7,7,7,7,7,7,7,7,7,7,7,7,7,7,7,7,7,7,7,7,7,7,8,8,8,8,8,8,8,8,8,8,8,8,8,8,8,8,8,8,8,8,8,8,8,8,8,8,8,8,8,8,8,8,8,8,8,8,8,8,8,8,8,8,8,8,8,8,8,8,8,8,8,8,8,8,8,8,8,8,8,8,8,8,8,8,8,8,8,8,8,8,8,8,8,8,8,8,8,8,8,8,8,8,8,8,8,8,8,8,8,8,8,8,8,8,8,8,8,8,8,8,8,8,8,8,8,8,8,8,8,8,8,8,8,8,8,8,8,8,8,8,8,8,8,8,8,8,8,8]⟩
noncomputable def dT(v1:Int)(v2:(List Nat)):Option (Bool):=
 if (decide ((v2.length:Int)≤700))=true then
  (some (true))
 else
  (if (decide ((v2.length:Int)>1024))=true then
   (some ((decide ((v2.length:Int)≤1026))))
  else
   (some (false)))
noncomputable def bC(v1:Int)(v2:Int)(v3:Int):Option (Bool):=
 if (decide (v2≤v1))=true then
  (some ((decide (v1≤v3))))
 else
  (some (false))
noncomputable def lX(v1:Int):Option (Bool):=
 (bC v1 8000 192000).bind fun v3 =>
 some (v3)
noncomputable def hZ(v1:Nat):Option (Bool):=
 if (fcmp .neq .f64 v1 v1)=true then
  (some (false))
 else
  ((farith .sub .f64 v1 v1).bind fun v3 =>
  if (fcmp .neq .f64 v3 0)=true then
   (some (false))
  else
   (if (fcmp .geq .f64 v1 14069741636278059008)=true then
    (if (fcmp .leq .f64 v1 4846369599423283200)=true then
     ((f2i .f64 v1 .i64).bind fun v4 =>
     some ((fcmp .eql .f64 (FloatKind.f64.nearest v4) v1)))
    else
     (some (true)))
   else
    (some (true))))
noncomputable def bX(v2:(List Nat)):(Int)→Option ((Int) ⊕ ((Int×Int) ⊕ (Unit))):=fun v6 =>
 if (decide (v6<(v2.length:Int)))=true then
  ((fN v2 v6).bind fun v12 =>
  (f2f .f32 v12 .f64).bind fun v13 =>
  (hZ v13).bind fun v14 =>
  if v14=true then
   (if (fcmp .gtr .f64 v13 4674736138332667904)=true then
    (some (.inr (.inl (v6,2))))
   else
    (if (fcmp .lss .f64 v13 13898108175187443712)=true then
     (some (.inr (.inl (v6,2))))
    else
     (some (.inl (IntKind.i64.wrap (v6+1))))))
  else
   (some (.inr (.inl (v6,27)))))
 else
  (some (.inr (.inr ())))
noncomputable def dK(v1:Int)(v2:(List Nat)):Option (Int×Int):=
 (lX v1).bind fun v5 =>
 if v5=true then
  (if (decide ((v2.length:Int)=0))=true then
   (some (0,10))
  else
   (if (decide ((v2.length:Int)>1024))=true then
    (some (0,8))
   else
    ((run (bX v2) 0).bind fun v15=>match v15 with
    | (.inl (v16,v17)) =>
     some (v16,v17)
    | (.inr _) =>
     some (0,0))))
 else
  (some (0,2))
noncomputable def iZ(v1:Int)(v2:(List Nat))(v3:Int)(v4:Int):Option (Int×Int):=
 (dK v1 v2).bind fun (v7,v8) =>
 if (decide (v8≠0))=true then
  (some (v7,v8))
 else
  ((bC v3 0 32767).bind fun v9 =>
  if v9=true then
   ((bC v4 0 1000000000000).bind fun v10 =>
   if v10=true then
    (some (0,0))
   else
    (some (0,2)))
  else
   (some (0,2)))
noncomputable def cT(v1:Int)(v2:(List Nat))(v3:Int)(v4:Int):Option (Int):=
 (iZ v1 v2 v3 v4).bind fun (v6,v7) =>
 some (v7)
noncomputable def fF(v1:Int):Option (Int):=
 (bC v1 0 1000000).bind fun v3 =>
 if v3=true then
  (some (0))
 else
  (some (2))
noncomputable def aF(v1:Int)(v2:(List Nat)):Option (Int×(List Nat)):=
 (wL 4 ([]:List Nat) v2).bind fun v5 =>
 some (v1,v5)
noncomputable def bZ(v1:Int)(v2:(List Nat)):Option (Int):=
 (dK v1 v2).bind fun (v4,v5) =>
 some (v5)
noncomputable def fG(v1:Int)(v2:(List Nat)):Option (Int×(List Nat)):=
 some (v1,v2)
noncomputable def aN(v1:Bool)(v2:Int):Option (Int):=
 if v1=true then
  (some (v2))
 else
  (some (0))
noncomputable def cV(v1:Int)(v2:Int)(v3:Int):Option (Int):=
 if (decide (v1<v2))=true then
  ((aN true 2).bind fun v5 =>
  some (v5))
 else
  ((aN (decide (v1>v3)) 2).bind fun v6 =>
  some (v6))
noncomputable def iU(v1:Int):Option (Int):=
 (cV v1 8000 192000).bind fun v3 =>
 some (v3)
noncomputable def dE(v1:(List Int)):(Int)→Option ((Int) ⊕ ((Int) ⊕ (Unit))):=fun v3 =>
 if (decide (v3<(v1.length:Int)))=true then
  ((fN v1 v3).bind fun v6 =>
  if (decide (v6≠0))=true then
   (some (.inr (.inl v6)))
  else
   (some (.inl (IntKind.i64.wrap (v3+1)))))
 else
  (some (.inr (.inr ())))
noncomputable def aE(v1:(List Int)):Option (Int):=
 (run (dE v1) 0).bind fun v7=>match v7 with
 | (.inl v8) =>
  some (v8)
 | (.inr _) =>
  some (0)
noncomputable def mU(v1:Nat):Option (Nat):=
 (trI .zero v1).bind fun v3 =>
 some (v3)
noncomputable def vQ(v1:Nat):Option (Nat):=
 (fbits .f64 v1).bind fun v3 =>
 some (((gW .andNot .u64 v3 9223372036854775808)).toNat)
noncomputable def oM(v1:Nat)(v2:Int):Option (Bool):=
 if (decide (v2=0))=true then
  ((vQ v1).bind fun v4 =>
  some ((fcmp .gtr .f64 v4 9218868437227405311)))
 else
  (if (decide (v2<0))=true then
   (some ((fcmp .gtr .f64 (Op.negFloat .f64 v1) 9218868437227405311)))
  else
   (some ((fcmp .gtr .f64 v1 9218868437227405311))))
noncomputable def cU(v1:Nat):Option (Bool):=
 (f2f .f32 v1 .f64).bind fun v3 =>
 (mU v3).bind fun v4 =>
 if (fcmp .eql .f64 v3 v4)=true then
  ((oM v3 0).bind fun v5 =>
  some ((!v5)))
 else
  (some (false))
noncomputable def cG(v1:Nat):Option (Int):=
 (cU v1).bind fun v3 =>
 (aN (!v3) 27).bind fun v4 =>
 if (fcmp .lss .f32 v1 3338665472)=true then
  ((aN true 2).bind fun v5 =>
  (aE ([v4,v5]:List Int)).bind fun v6 =>
  some (v6))
 else
  ((aN (fcmp .gtr .f32 v1 1191181824) 2).bind fun v7 =>
  (aE ([v4,v7]:List Int)).bind fun v8 =>
  some (v8))
noncomputable def bP(v2:(List Nat)):(Int)→Option ((Int) ⊕ ((Int×Int) ⊕ (Unit))):=fun v9 =>
 if (decide (v9<(v2.length:Int)))=true then
  ((fN v2 v9).bind fun v14 =>
  (cG v14).bind fun v15 =>
  if (decide (v15≠0))=true then
   (some (.inr (.inl (v9,v15))))
  else
   (some (.inl (IntKind.i64.wrap (v9+1)))))
 else
  (some (.inr (.inr ())))
noncomputable def eM(v1:Int)(v2:(List Nat)):Option (Int×Int):=
 (iU v1).bind fun v5 =>
 (aN (decide ((v2.length:Int)=0)) 10).bind fun v6 =>
 (aN (decide ((v2.length:Int)>1024)) 8).bind fun v7 =>
 (aE ([v5,v6,v7]:List Int)).bind fun v8 =>
 if (decide (v8≠0))=true then
  (some (0,v8))
 else
  ((run (bP v2) 0).bind fun v16=>match v16 with
  | (.inl (v17,v18)) =>
   some (v17,v18)
  | (.inr _) =>
   some (0,0))
noncomputable def gY(v1:Int)(v2:(List Nat))(v3:Int)(v4:Int):Option (Int×Int):=
 (eM v1 v2).bind fun (v7,v8) =>
 if (decide (v8≠0))=true then
  (some (v7,v8))
 else
  ((cV v3 0 32767).bind fun v9 =>
  (cV v4 0 1000000000000).bind fun v10 =>
  (aE ([v9,v10]:List Int)).bind fun v11 =>
  some (0,v11))
noncomputable def dQ(v1:Int)(v2:(List Nat))(v3:Int)(v4:Int):Option (Int×(List Nat)×Int×Int×Int):=
 (gY v1 v2 v3 v4).bind fun (v10,v11) =>
 some (v1,v2,v3,v4,v11)
noncomputable def iT(v1:Int):Option (Int):=
 if (decide (v1<0))=true then
  ((aN true 15).bind fun v3 =>
  some (v3))
 else
  ((aN (decide (v1≥3)) 15).bind fun v4 =>
  some (v4))
noncomputable def aM(v1:Int)(v2:(List Nat))(v3:Int)(v4:Int):Option (Int):=
 some ((v2.length:Int))
noncomputable def aG(v1:Int)(v2:Int):Option (Int×Int):=
 some (v1,v2)
noncomputable def fZ(v1:Int)(v2:(List Nat))(v3:Int)(v4:Int):Option (Int×Int):=
 (aG 0 v4).bind fun (v7,v8) =>
 some (v7,v8)
noncomputable def dJ(v1:Int)(v2:(List Nat))(v3:Int)(v4:Int)(v5:Int):Option (Int×Int):=
 (fN v2 v5).bind fun v8 =>
 (f2i .f32 v8 .i64).bind fun v9 =>
 (aG (IntKind.i64.wrap ((if 0>(IntKind.i64.wrap ((if (IntKind.i64.wrap (0-v9))>v9 then (IntKind.i64.wrap (0-v9)) else v9)-v3)) then 0 else (IntKind.i64.wrap ((if (IntKind.i64.wrap (0-v9))>v9 then (IntKind.i64.wrap (0-v9)) else v9)-v3)))*(if 0>(IntKind.i64.wrap ((if (IntKind.i64.wrap (0-v9))>v9 then (IntKind.i64.wrap (0-v9)) else v9)-v3)) then 0 else (IntKind.i64.wrap ((if (IntKind.i64.wrap (0-v9))>v9 then (IntKind.i64.wrap (0-v9)) else v9)-v3))))) (IntKind.i64.wrap ((IntKind.i64.wrap ((if (IntKind.i64.wrap (0-v9))>v9 then (IntKind.i64.wrap (0-v9)) else v9)+v3))*(IntKind.i64.wrap ((if (IntKind.i64.wrap (0-v9))>v9 then (IntKind.i64.wrap (0-v9)) else v9)+v3))))).bind fun (v10,v11) =>
 some (v10,v11)
noncomputable def eJ(v1:Int)(v2:Int)(v3:Int)(v4:Int):Option (Int×Int):=
 (aG (IntKind.i64.wrap (v1+v3)) (IntKind.i64.wrap (v2+v4))).bind fun (v7,v8) =>
 some (v7,v8)
noncomputable def eE(v1:Int)(v2:(List Nat))(v3:Int)(v4:Int):((List (Int×Int))×Int)→Option (((List (Int×Int))×Int) ⊕ (((List (Int×Int))))):=fun (v14,v15) =>
 if (decide (v15≥0))=true then
  ((fN v14 (IntKind.i64.wrap (v15+1))).bind fun (v25,v26) =>
  (dJ v1 v2 v3 v4 v15).bind fun (v27,v28) =>
  (eJ v25 v26 v27 v28).bind fun (v29,v30) =>
  (fN v14 v15).bind fun (v31,v32) =>
  some (.inl ((v14.set v15.toNat (v29,v30)),(IntKind.i64.wrap (v15-1)))))
 else
  (some (.inr v14))
noncomputable def cY(v1:Int)(v2:(List Nat))(v3:Int)(v4:Int):Option ((List (Int×Int))):=
 (aM v1 v2 v3 v4).bind fun v6 =>
 (mkI 16 (IntKind.i64.wrap (v6+1)) ((0,0):(Int×Int))).bind fun v7 =>
 (aM v1 v2 v3 v4).bind fun v8 =>
 (fZ v1 v2 v3 v4).bind fun (v9,v10) =>
 (fN v7 v8).bind fun (v11,v12) =>
 (aM v1 v2 v3 v4).bind fun v13 =>
 (run (eE v1 v2 v3 v4) ((v7.set v8.toNat (v9,v10)),(IntKind.i64.wrap (v13-1)))).bind fun v33 =>
 some (v33)
noncomputable def eZ(v1:Int)(v2:(List Nat))(v3:Int)(v4:Int):Option (Int×Int):=
 (cY v1 v2 v3 v4).bind fun v7 =>
 (fN v7 0).bind fun (v8,v9) =>
 some (v8,v9)
noncomputable def dY(v1:Int):(Int×Int)→Option ((Int×Int) ⊕ ((Int))):=fun (v3,v4) =>
 if (decide (v4<v1))=true then
  (some (.inl ((IntKind.i64.wrap (v3*10)),(IntKind.i64.wrap (v4+1)))))
 else
  (some (.inr v3))
noncomputable def dX(v1:Int):Option (Int):=
 (run (dY v1) (1,0)).bind fun v6 =>
 some (v6)
noncomputable def fW(v1:Int)(v2:Int):Option (Int×Int):=
 (shI .shr .u64 v1 32).bind fun v5 =>
 (shI .shr .u64 v2 32).bind fun v6 =>
 (shI .shr .u64 (IntKind.u64.wrap ((gW .and .u64 v1 4294967295)*(gW .and .u64 v2 4294967295))) 32).bind fun v7 =>
 (shI .shr .u64 (IntKind.u64.wrap ((IntKind.u64.wrap (v5*(gW .and .u64 v2 4294967295)))+v7)) 32).bind fun v8 =>
 (shI .shr .u64 (IntKind.u64.wrap ((gW .and .u64 (IntKind.u64.wrap ((IntKind.u64.wrap (v5*(gW .and .u64 v2 4294967295)))+v7)) 4294967295)+(IntKind.u64.wrap ((gW .and .u64 v1 4294967295)*v6)))) 32).bind fun v9 =>
 some ((IntKind.u64.wrap ((IntKind.u64.wrap ((IntKind.u64.wrap (v5*v6))+v8))+v9)),(IntKind.u64.wrap (v1*v2)))
noncomputable def bJ(v1:Int)(v2:Int):Option (Int×Int):=
 (fW (IntKind.u64.wrap v1) (IntKind.u64.wrap v2)).bind fun (v5,v6) =>
 some (v5,v6)
noncomputable def dD(v1:Int)(v2:Int)(v3:Int)(v4:Int):Option (Bool):=
 if (decide (v1<v3))=true then
  (some (true))
 else
  (if (decide (v1=v3))=true then
   (some ((decide (v2≤v4))))
  else
   (some (false)))
noncomputable def fT(v1:Int)(v2:Int)(v3:Int):Option (Bool):=
 (dX (IntKind.i64.wrap (v3.tdiv 2))).bind fun v5 =>
 (dX (IntKind.i64.wrap (v3-(IntKind.i64.wrap (v3.tdiv 2))))).bind fun v6 =>
 (bJ (IntKind.i64.wrap (v2*v5)) (IntKind.i64.wrap (v2*v6))).bind fun (v7,v8) =>
 (bJ v1 v1).bind fun (v9,v10) =>
 (dD v7 v8 v9 v10).bind fun v11 =>
 some (v11)
noncomputable def dW(v1:Int)(v2:Int)(v3:(List (Int×Int)))(v4:Int):Option (Bool):=
 (fN v3 0).bind fun (v6,v7) =>
 (fT v7 v1 v4).bind fun v8 =>
 some (v8)
noncomputable def aJ(v1:(List (Int×Int)))(v2:(List (Int×Int)))(v3:Int):(Int)→Option ((Int) ⊕ ((Int) ⊕ (Unit))):=fun v5 =>
 if (decide (v5<(v1.length:Int)))=true then
  ((fN v1 v5).bind fun (v10,v11) =>
  (dW v10 v11 v2 v3).bind fun v12 =>
  if v12=true then
   (some (.inr (.inl v5)))
  else
   (some (.inl (IntKind.i64.wrap (v5+1)))))
 else
  (some (.inr (.inr ())))
noncomputable def bA(v1:(List (Int×Int)))(v2:(List (Int×Int)))(v3:Int):Option (Int):=
 (run (aJ v1 v2 v3) 0).bind fun v13=>match v13 with
 | (.inl v14) =>
  some (v14)
 | (.inr _) =>
  some ((-1))
noncomputable def dZ(v1:Int)(v2:Int)(v3:(List (Int×Int)))(v4:Int):Option (Bool):=
 (fN v3 0).bind fun (v6,v7) =>
 (fT v6 v2 v4).bind fun v8 =>
 some (v8)
noncomputable def aH(v1:(List (Int×Int)))(v2:(List (Int×Int)))(v3:Int):(Int)→Option ((Int) ⊕ ((Int) ⊕ (Unit))):=fun v5 =>
 if (decide (v5<(v1.length:Int)))=true then
  ((fN v1 v5).bind fun (v10,v11) =>
  (dZ v10 v11 v2 v3).bind fun v12 =>
  if v12=true then
   (some (.inr (.inl v5)))
  else
   (some (.inl (IntKind.i64.wrap (v5+1)))))
 else
  (some (.inr (.inr ())))
noncomputable def aQ(v1:(List (Int×Int)))(v2:(List (Int×Int)))(v3:Int):Option (Int):=
 (run (aH v1 v2 v3) 0).bind fun v13=>match v13 with
 | (.inl v14) =>
  some (v14)
 | (.inr _) =>
  some ((-1))
noncomputable def cR(v1:Int)(v2:(List Nat))(v3:Int)(v4:Int)(v5:Int):Option (Int×Int×Int):=
 (cY v1 v2 v3 v4).bind fun v9 =>
 (bA v9 v9 v5).bind fun v10 =>
 (aQ v9 v9 v5).bind fun v11 =>
 if (decide (v11<0))=true then
  (some (0,0,12))
 else
  ((aM v1 v2 v3 v4).bind fun v12 =>
  if (decide (v11=v12))=true then
   (some (0,0,12))
  else
   ((aG (if 0>(IntKind.i64.wrap (v10-1)) then 0 else (IntKind.i64.wrap (v10-1))) v11).bind fun (v13,v14) =>
   some (v13,v14,0)))
noncomputable def gD(v1:Int)(v2:Int)(v3:Int)(v4:Int):Option (Int×Int):=
 (aG (if 0>(IntKind.i64.wrap (v1-v4)) then 0 else (IntKind.i64.wrap (v1-v4))) (IntKind.i64.wrap (v2-v3))).bind fun (v7,v8) =>
 some (v7,v8)
noncomputable def aW(v1:Int)(v2:Int)(v3:Int):Option (Int×Int):=
 (aG (IntKind.i64.wrap (v1*v3)) (IntKind.i64.wrap (v2*v3))).bind fun (v6,v7) =>
 some (v6,v7)
noncomputable def iG(v1:Int)(v2:Int):Option (Int):=
 if v2=0 then none else
 (some ((IntKind.i64.wrap (v1.tdiv v2))))
noncomputable def iX(v1:Int)(v2:Int):Option (Int):=
 if v2=0 then none else
 (some ((IntKind.i64.wrap ((IntKind.i64.wrap ((IntKind.i64.wrap (v1+v2))-1)).tdiv v2))))
noncomputable def dN(v1:Int)(v2:(List Nat))(v3:Int)(v4:Int)(v5:Int)(v6:Int):Option (Int×Int):=
 (aW v5 v6 1000000).bind fun (v9,v10) =>
 (iG v9 v1).bind fun v11 =>
 (iX v10 v1).bind fun v12 =>
 (aG v11 v12).bind fun (v13,v14) =>
 some (v13,v14)
noncomputable def eA(v1:Int)(v2:(List Nat))(v3:Int)(v4:Int)(v5:Int):Option (Int×Int×Int):=
 (eZ v1 v2 v3 v4).bind fun (v9,v10) =>
 if (decide (v9=0))=true then
  (some (0,0,11))
 else
  ((fN ([(0,2,6),(1,5,3),(1,7,2)]:List (Int×Int×Int)) v5).bind fun (v11,v12,v13) =>
  if (decide (v11>0))=true then
   ((cR v1 v2 v3 v4 v11).bind fun (v14,v15,v16) =>
   if (decide (v16≠0))=true then
    (some (0,0,v16))
   else
    ((cR v1 v2 v3 v4 v12).bind fun (v17,v18,v19) =>
    if (decide (v19≠0))=true then
     (some (0,0,v19))
    else
     ((gD v17 v18 v14 v15).bind fun (v20,v21) =>
     (aW v20 v21 v13).bind fun (v22,v23) =>
     (dN v1 v2 v3 v4 v22 v23).bind fun (v24,v25) =>
     some (v24,v25,0))))
  else
   ((cR v1 v2 v3 v4 v12).bind fun (v26,v27,v28) =>
   if (decide (v28≠0))=true then
    (some (0,0,v28))
   else
    ((gD v26 v27 0 0).bind fun (v29,v30) =>
    (aW v29 v30 v13).bind fun (v31,v32) =>
    (dN v1 v2 v3 v4 v31 v32).bind fun (v33,v34) =>
    some (v33,v34,0))))
noncomputable def cH(v1:Int)(v2:(List Nat))(v3:Int)(v4:Int)(v5:Int):Option (Int×Int×Int):=
 (dQ v1 v2 v3 v4).bind fun (v9,v10,v11,v12,v13) =>
 (iT v5).bind fun v14 =>
 (aE ([v13,v14]:List Int)).bind fun v15 =>
 if (decide (v15≠0))=true then
  (some (0,0,v15))
 else
  ((eA v9 v10 v11 v12 v5).bind fun (v16,v17,v18) =>
  some (v16,v17,v18))
noncomputable def iC(v1:Int)(v2:(List Nat))(v3:Int):Option (Int×Int×Int):=
 (fG v1 v2).bind fun (v7,v8) =>
 (cH v7 v8 0 0 v3).bind fun (v9,v10,v11) =>
 some (v9,v10,v11)
noncomputable def aL(v1:Int)(v2:(List Nat))(v3:Int)(v4:Int):Option (Int×(List Nat)×Int×Int):=
 (aF v1 v2).bind fun (v9,v10) =>
 some (v9,v10,v3,v4)
noncomputable def bM(v1:Int)(v2:Int)(v3:Int)(v4:Int):Option (Bool):=
 some ((decide ((if v3>v1 then v3 else v1)≤(if v4<v2 then v4 else v2))))
noncomputable def eK(v1:Int):Option (Int):=
 (cV v1 0 1000000).bind fun v3 =>
 some (v3)
noncomputable def fV(v1:Int)(v2:Int):Option (Int):=
 (iX (IntKind.i64.wrap (v2*v1)) 1000000).bind fun v4 =>
 some (v4)
noncomputable def cS(v1:Int)(v2:(List Nat))(v3:Int)(v4:Int)(v5:Int):Option (Int):=
 (fV v1 v5).bind fun v7 =>
 (aM v1 v2 v3 v4).bind fun v8 =>
 some ((if v8<v7 then v8 else v7))
noncomputable def eW(v1:Int)(v2:(List Nat))(v3:Int)(v4:Int)(v6:Int):(Int×Int×Int)→Option ((Int×Int×Int) ⊕ ((Int×Int))):=fun (v9,v10,v11) =>
 if (decide (v11<v6))=true then
  ((dJ v1 v2 v3 v4 v11).bind fun (v18,v19) =>
  (eJ v9 v10 v18 v19).bind fun (v20,v21) =>
  some (.inl (v20,v21,(IntKind.i64.wrap (v11+1)))))
 else
  (some (.inr (v9,v10)))
noncomputable def dL(v1:Int)(v2:(List Nat))(v3:Int)(v4:Int)(v5:Int)(v6:Int):Option (Int×Int):=
 (run (eW v1 v2 v3 v4 v6) (0,0,v5)).bind fun (v22,v23) =>
 some (v22,v23)
noncomputable def dB(v1:Int)(v2:(List Nat))(v3:Int)(v4:Int)(v5:Int):Option (Int×Int):=
 (cS v1 v2 v3 v4 v5).bind fun v8 =>
 (dL v1 v2 v3 v4 0 v8).bind fun (v9,v10) =>
 some (v9,v10)
noncomputable def eR(v1:Int)(v2:(List Nat))(v3:Int)(v4:Int)(v5:Int):Option (Int×Int):=
 (cY v1 v2 v3 v4).bind fun v8 =>
 (cS v1 v2 v3 v4 v5).bind fun v9 =>
 (fN v8 v9).bind fun (v10,v11) =>
 some (v10,v11)
noncomputable def kN(v1:Int)(v2:Int):Option (Int):=
 if v2=0 then none else
 (some (((IntKind.i64.wrap ((v1.tmod v2)+v2)).tmod v2)))
noncomputable def gM(v1:Int):Option (Int×Int×Int):=
 (kN v1 10).bind fun v5 =>
 (fN ([1000000000,1258925411,1584893192,1995262314,2511886431,3162277660,3981071705,5011872336,6309573444,7943282347]:List Int) v5).bind fun v6 =>
 (aG v6 v6).bind fun (v7,v8) =>
 if (decide (v5>0))=true then
  ((dX (if 0>(IntKind.i64.wrap ((IntKind.i64.wrap (v1-v5)).tdiv 10)) then 0 else (IntKind.i64.wrap ((IntKind.i64.wrap (v1-v5)).tdiv 10)))).bind fun v9 =>
  (aW v7 (IntKind.i64.wrap (v8+1)) v9).bind fun (v10,v11) =>
  (dX (if 0>(IntKind.i64.wrap (0-(IntKind.i64.wrap ((IntKind.i64.wrap (v1-v5)).tdiv 10)))) then 0 else (IntKind.i64.wrap (0-(IntKind.i64.wrap ((IntKind.i64.wrap (v1-v5)).tdiv 10)))))).bind fun v12 =>
  some (v10,v11,(IntKind.i64.wrap (1000000000*v12))))
 else
  ((dX (if 0>(IntKind.i64.wrap ((IntKind.i64.wrap (v1-v5)).tdiv 10)) then 0 else (IntKind.i64.wrap ((IntKind.i64.wrap (v1-v5)).tdiv 10)))).bind fun v13 =>
  (aW v7 v8 v13).bind fun (v14,v15) =>
  (dX (if 0>(IntKind.i64.wrap (0-(IntKind.i64.wrap ((IntKind.i64.wrap (v1-v5)).tdiv 10)))) then 0 else (IntKind.i64.wrap (0-(IntKind.i64.wrap ((IntKind.i64.wrap (v1-v5)).tdiv 10)))))).bind fun v16 =>
  some (v14,v15,(IntKind.i64.wrap (1000000000*v16))))
noncomputable def cZ(v1:Int)(v2:Int)(v3:Int):Option (Bool):=
 (gM v3).bind fun (v5,v6,v7) =>
 (bJ v6 v2).bind fun (v8,v9) =>
 (bJ v1 v7).bind fun (v10,v11) =>
 (dD v8 v9 v10 v11).bind fun v12 =>
 some (v12)
noncomputable def bN(v1:Int)(v2:Int)(v3:Int):Option (Bool):=
 (gM v3).bind fun (v5,v6,v7) =>
 (bJ v1 v7).bind fun (v8,v9) =>
 (bJ v5 v2).bind fun (v10,v11) =>
 (dD v8 v9 v10 v11).bind fun v12 =>
 some (v12)
noncomputable def eS(v1:Int)(v2:Int):(Int)→Option ((Int) ⊕ ((Int))):=fun v11 =>
 (cZ v1 v2 (IntKind.i64.wrap (v11+1))).bind fun v14 =>
 if v14=true then
  (some (.inl (IntKind.i64.wrap (v11+1))))
 else
  (some (.inr v11))
noncomputable def eT(v1:Int)(v2:Int):(Int)→Option ((Int) ⊕ ((Int))):=fun v16 =>
 (bN v1 v2 (IntKind.i64.wrap (v16-1))).bind fun v19 =>
 if v19=true then
  (some (.inl (IntKind.i64.wrap (v16-1))))
 else
  (some (.inr v16))
noncomputable def bL(v1:Int)(v2:Int):Option (Int×Int×Int):=
 (cV v1 1 10000000000000).bind fun v6 =>
 (cV v2 1 10000000000000).bind fun v7 =>
 (aE ([v6,v7]:List Int)).bind fun v8 =>
 if (decide (v8≠0))=true then
  (some (0,0,v8))
 else
  ((cZ v1 v2 (-90)).bind fun v9 =>
  if v9=true then
   ((bN v1 v2 90).bind fun v10 =>
   if v10=true then
    ((run (eS v1 v2) (-90)).bind fun v15 =>
    (run (eT v1 v2) 90).bind fun v20 =>
    some (v15,v20,0))
   else
    (some (0,0,8)))
  else
   (some (0,0,8)))
noncomputable def fK(v1:Int)(v2:(List Nat))(v3:Int)(v4:Int)(v5:Int):Option (Int×Int×Int):=
 (dB v1 v2 v3 v4 v5).bind fun (v9,v10) =>
 (eR v1 v2 v3 v4 v5).bind fun (v11,v12) =>
 (fV v1 v5).bind fun v13 =>
 (aM v1 v2 v3 v4).bind fun v14 =>
 (aN (decide (v13≥v14)) 12).bind fun v15 =>
 if (decide (v9=0))=true then
  ((aN true 11).bind fun v16 =>
  (aE ([v15,v16]:List Int)).bind fun v17 =>
  if (decide (v17≠0))=true then
   (some (0,0,v17))
  else
   ((bL v9 v12).bind fun (v18,v19,v20) =>
   if (decide (v20≠0))=true then
    (some (0,0,v20))
   else
    ((bL v10 v11).bind fun (v21,v22,v23) =>
    if (decide (v23≠0))=true then
     (some (0,0,v23))
    else
     ((aG v18 v22).bind fun (v24,v25) =>
     some (v24,v25,0)))))
 else
  ((aN (decide (v11=0)) 11).bind fun v26 =>
  (aE ([v15,v26]:List Int)).bind fun v27 =>
  if (decide (v27≠0))=true then
   (some (0,0,v27))
  else
   ((bL v9 v12).bind fun (v28,v29,v30) =>
   if (decide (v30≠0))=true then
    (some (0,0,v30))
   else
    ((bL v10 v11).bind fun (v31,v32,v33) =>
    if (decide (v33≠0))=true then
     (some (0,0,v33))
    else
     ((aG v28 v32).bind fun (v34,v35) =>
     some (v34,v35,0)))))
noncomputable def dV(v1:Int)(v2:(List Nat))(v3:Int)(v4:Int)(v5:Int):Option (Int×Int×Int):=
 (dQ v1 v2 v3 v4).bind fun (v9,v10,v11,v12,v13) =>
 (eK v5).bind fun v14 =>
 (aE ([v13,v14]:List Int)).bind fun v15 =>
 if (decide (v15≠0))=true then
  (some (0,0,v15))
 else
  ((fK v9 v10 v11 v12 v5).bind fun (v16,v17,v18) =>
  some (v16,v17,v18))
noncomputable def eG(v1:Int)(v2:(List Nat))(v3:Int)(v4:Int)(v5:Int):Option (Int×Int×Int):=
 (dB v1 v2 v3 v4 v5).bind fun (v9,v10) =>
 (eR v1 v2 v3 v4 v5).bind fun (v11,v12) =>
 if (decide (v9=0))=true then
  (if (decide (v11=0))=true then
   (some (0,0,11))
  else
   ((aW v9 v10 1000).bind fun (v13,v14) =>
   (iG v13 (IntKind.i64.wrap (v9+v12))).bind fun v15 =>
   (iX v14 (IntKind.i64.wrap (v10+v11))).bind fun v16 =>
   (aG v15 v16).bind fun (v17,v18) =>
   some (v17,v18,0)))
 else
  ((aW v9 v10 1000).bind fun (v19,v20) =>
  (iG v19 (IntKind.i64.wrap (v9+v12))).bind fun v21 =>
  (iX v20 (IntKind.i64.wrap (v10+v11))).bind fun v22 =>
  (aG v21 v22).bind fun (v23,v24) =>
  some (v23,v24,0))
noncomputable def bD(v1:Int)(v2:(List Nat))(v3:Int)(v4:Int)(v5:Int):Option (Int×Int×Int):=
 (dQ v1 v2 v3 v4).bind fun (v9,v10,v11,v12,v13) =>
 (eK v5).bind fun v14 =>
 (aE ([v13,v14]:List Int)).bind fun v15 =>
 if (decide (v15≠0))=true then
  (some (0,0,v15))
 else
  ((eG v9 v10 v11 v12 v5).bind fun (v16,v17,v18) =>
  some (v16,v17,v18))
noncomputable def dG(v1:Int)(v2:(List Nat))(v3:Int)(v4:Int)(v7:Int):(Int×Int×Int)→Option ((Int×Int×Int) ⊕ ((Int×Int))):=fun (v8,v9,v10) =>
 if (decide (v10<v7))=true then
  ((dJ v1 v2 v3 v4 v10).bind fun (v19,v20) =>
  (aW v19 v20 v10).bind fun (v21,v22) =>
  (eJ v8 v9 v21 v22).bind fun (v23,v24) =>
  some (.inl (v23,v24,(IntKind.i64.wrap (v10+1)))))
 else
  (some (.inr (v8,v9)))
noncomputable def gB(v1:Int)(v2:(List Nat))(v3:Int)(v4:Int):Option (Int×Int):=
 (aM v1 v2 v3 v4).bind fun v7 =>
 (run (dG v1 v2 v3 v4 v7) (0,0,0)).bind fun (v25,v26) =>
 some (v25,v26)
noncomputable def gX(v1:Int):Option (Int):=
 if (decide (v1≥4294967296))=true then
  ((shI .shr .u64 v1 32).bind fun v3 =>
  if (decide (v3≥65536))=true then
   ((shI .shr .u64 v3 16).bind fun v4 =>
   if (decide (v4≥256))=true then
    ((shI .shr .u64 v4 8).bind fun v5 =>
    (wT gK (IntKind.u8.wrap v5)).bind fun v6 =>
    some ((IntKind.i64.wrap (56+(IntKind.i64.wrap v6)))))
   else
    ((wT gK (IntKind.u8.wrap v4)).bind fun v7 =>
    some ((IntKind.i64.wrap (48+(IntKind.i64.wrap v7))))))
  else
   (if (decide (v3≥256))=true then
    ((shI .shr .u64 v3 8).bind fun v8 =>
    (wT gK (IntKind.u8.wrap v8)).bind fun v9 =>
    some ((IntKind.i64.wrap (40+(IntKind.i64.wrap v9)))))
   else
    ((wT gK (IntKind.u8.wrap v3)).bind fun v10 =>
    some ((IntKind.i64.wrap (32+(IntKind.i64.wrap v10)))))))
 else
  (if (decide (v1≥65536))=true then
   ((shI .shr .u64 v1 16).bind fun v11 =>
   if (decide (v11≥256))=true then
    ((shI .shr .u64 v11 8).bind fun v12 =>
    (wT gK (IntKind.u8.wrap v12)).bind fun v13 =>
    some ((IntKind.i64.wrap (24+(IntKind.i64.wrap v13)))))
   else
    ((wT gK (IntKind.u8.wrap v11)).bind fun v14 =>
    some ((IntKind.i64.wrap (16+(IntKind.i64.wrap v14))))))
  else
   (if (decide (v1≥256))=true then
    ((shI .shr .u64 v1 8).bind fun v15 =>
    (wT gK (IntKind.u8.wrap v15)).bind fun v16 =>
    some ((IntKind.i64.wrap (8+(IntKind.i64.wrap v16)))))
   else
    ((wT gK (IntKind.u8.wrap v1)).bind fun v17 =>
    some ((IntKind.i64.wrap (0+(IntKind.i64.wrap v17)))))))
noncomputable def dU(v1:Int):Option (Int):=
 (gX v1).bind fun v3 =>
 some ((IntKind.i64.wrap (64-v3)))
noncomputable def dA(v7:Int)(v8:Int)(v12:Int):(Int×Int)→Option ((Int×Int) ⊕ ((Int))):=fun (v13,v14) =>
 if (decide (v13≥4294967296))=true then
  (if (decide ((IntKind.u64.wrap (v14+v8))≥4294967296))=true then
   (some (.inr (IntKind.u64.wrap (v13-1))))
  else
   (some (.inl ((IntKind.u64.wrap (v13-1)),(IntKind.u64.wrap (v14+v8))))))
 else
  (if (decide ((IntKind.u64.wrap (v13*(gW .and .u64 v7 4294967295)))>(IntKind.u64.wrap ((IntKind.u64.wrap (4294967296*v14))+v12))))=true then
   (if (decide ((IntKind.u64.wrap (v14+v8))≥4294967296))=true then
    (some (.inr (IntKind.u64.wrap (v13-1))))
   else
    (some (.inl ((IntKind.u64.wrap (v13-1)),(IntKind.u64.wrap (v14+v8))))))
  else
   (some (.inr v13)))
noncomputable def dC(v7:Int)(v8:Int)(v11:Int):(Int×Int)→Option ((Int×Int) ⊕ ((Int))):=fun (v17,v18) =>
 if (decide (v18≥4294967296))=true then
  (if (decide ((IntKind.u64.wrap (v17+v8))≥4294967296))=true then
   (some (.inr (IntKind.u64.wrap (v18-1))))
  else
   (some (.inl ((IntKind.u64.wrap (v17+v8)),(IntKind.u64.wrap (v18-1))))))
 else
  (if (decide ((IntKind.u64.wrap (v18*(gW .and .u64 v7 4294967295)))>(IntKind.u64.wrap ((IntKind.u64.wrap (4294967296*v17))+(gW .and .u64 v11 4294967295)))))=true then
   (if (decide ((IntKind.u64.wrap (v17+v8))≥4294967296))=true then
    (some (.inr (IntKind.u64.wrap (v18-1))))
   else
    (some (.inl ((IntKind.u64.wrap (v17+v8)),(IntKind.u64.wrap (v18-1))))))
  else
   (some (.inr v18)))
noncomputable def jM(v1:Int)(v2:Int)(v3:Int):Option (Int×Int):=
 if (decide (v3=0))=true then
  (none)
 else
  (if (decide (v3≤v1))=true then
   (none)
  else
   (if (decide (v1=0))=true then
    (if v3=0 then none else
    (some ((IntKind.u64.wrap (v2.tdiv v3)),(v2.tmod v3))))
   else
    ((dU v3).bind fun v6 =>
    (shI .shl .u64 v3 (IntKind.u64.wrap v6)).bind fun v7 =>
    (shI .shr .u64 v7 32).bind fun v8 =>
    (shI .shl .u64 v1 (IntKind.u64.wrap v6)).bind fun v9 =>
    (shI .shr .u64 v2 (IntKind.u64.wrap (64-(IntKind.u64.wrap v6)))).bind fun v10 =>
    (shI .shl .u64 v2 (IntKind.u64.wrap v6)).bind fun v11 =>
    (shI .shr .u64 v11 32).bind fun v12 =>
    if v8=0 then none else
    ((run (dA v7 v8 v12) ((IntKind.u64.wrap ((gW .or .u64 v9 v10).tdiv v8)),(IntKind.u64.wrap ((gW .or .u64 v9 v10)-(IntKind.u64.wrap ((IntKind.u64.wrap ((gW .or .u64 v9 v10).tdiv v8))*v8)))))).bind fun v16 =>
    (run (dC v7 v8 v11) ((IntKind.u64.wrap ((IntKind.u64.wrap ((IntKind.u64.wrap ((IntKind.u64.wrap ((gW .or .u64 v9 v10)*4294967296))+v12))-(IntKind.u64.wrap (v16*v7))))-(IntKind.u64.wrap ((IntKind.u64.wrap ((IntKind.u64.wrap ((IntKind.u64.wrap ((IntKind.u64.wrap ((gW .or .u64 v9 v10)*4294967296))+v12))-(IntKind.u64.wrap (v16*v7)))).tdiv v8))*v8)))),(IntKind.u64.wrap ((IntKind.u64.wrap ((IntKind.u64.wrap ((IntKind.u64.wrap ((gW .or .u64 v9 v10)*4294967296))+v12))-(IntKind.u64.wrap (v16*v7)))).tdiv v8)))).bind fun v20 =>
    (shI .shr .u64 (IntKind.u64.wrap ((IntKind.u64.wrap ((IntKind.u64.wrap ((IntKind.u64.wrap ((IntKind.u64.wrap ((IntKind.u64.wrap ((gW .or .u64 v9 v10)*4294967296))+v12))-(IntKind.u64.wrap (v16*v7))))*4294967296))+(gW .and .u64 v11 4294967295)))-(IntKind.u64.wrap (v20*v7)))) (IntKind.u64.wrap v6)).bind fun v21 =>
    some ((IntKind.u64.wrap ((IntKind.u64.wrap (v16*4294967296))+v20)),v21)))))
noncomputable def eP(v1:Int)(v2:Int)(v3:Int):Option (Int×Int):=
 (jM v1 v2 (IntKind.u64.wrap v3)).bind fun (v6,v7) =>
 if (decide (v7>0))=true then
  (some ((IntKind.i64.wrap v6),(IntKind.i64.wrap ((IntKind.i64.wrap v6)+1))))
 else
  (some ((IntKind.i64.wrap v6),(IntKind.i64.wrap v6)))
noncomputable def fY(v1:Int)(v2:(List Nat))(v3:Int)(v4:Int):Option (Int×Int×Int):=
 (eZ v1 v2 v3 v4).bind fun (v8,v9) =>
 (gB v1 v2 v3 v4).bind fun (v10,v11) =>
 (aN (decide (v4≠0)) 23).bind fun v12 =>
 (aN (decide (v8=0)) 11).bind fun v13 =>
 (aE ([v12,v13]:List Int)).bind fun v14 =>
 if (decide (v14≠0))=true then
  (some (0,0,v14))
 else
  ((bJ v10 1000000).bind fun (v15,v16) =>
  (eP v15 v16 (IntKind.i64.wrap (v9*v1))).bind fun (v17,v18) =>
  (bJ v11 1000000).bind fun (v19,v20) =>
  (eP v19 v20 (IntKind.i64.wrap (v8*v1))).bind fun (v21,v22) =>
  (aM v1 v2 v3 v4).bind fun v23 =>
  (aG (IntKind.i64.wrap (v23-1)) (IntKind.i64.wrap (v23-1))).bind fun (v24,v25) =>
  (dN v1 v2 v3 v4 v24 v25).bind fun (v26,v27) =>
  (aG v17 (if v27<v22 then v27 else v22)).bind fun (v28,v29) =>
  some (v28,v29,0))
noncomputable def aV(v1:Int)(v2:(List Nat))(v3:Int)(v4:Int):Option (Int×Int×Int):=
 (dQ v1 v2 v3 v4).bind fun (v8,v9,v10,v11,v12) =>
 if (decide (v12≠0))=true then
  (some (0,0,v12))
 else
  ((fY v8 v9 v10 v11).bind fun (v13,v14,v15) =>
  some (v13,v14,v15))
noncomputable def aX(v3:Int)(v5:(List Int)):((List Nat)×Int)→Option (((List Nat)×Int) ⊕ ((Unit) ⊕ ((List Nat)))):=fun (v14,v15) =>
 if (decide (v15<(v14.length:Int)))=true then
  (if (decide (v15<(v5.length:Int)))=true then
   ((fN v5 v15).bind fun v21 =>
   (bC v21 (IntKind.i64.wrap (0-v3)) v3).bind fun v22 =>
   if v22=true then
    ((fN v14 v15).bind fun v23 =>
    (farith .add .f32 v23 (FloatKind.f32.nearest v21)).bind fun v24 =>
    some (.inl ((v14.set v15.toNat v24),(IntKind.i64.wrap (v15+1)))))
   else
    (some (.inr (.inl ()))))
  else
   (some (.inr (.inr v14))))
 else
  (some (.inr (.inr v14)))
noncomputable def bK(v6:(List Int)):((List Nat)×Int×Int)→Option (((List Nat)×Int×Int) ⊕ ((Unit) ⊕ ((List Nat)×Int))):=fun (v27,v28,v29) =>
 if (decide (v29<(v6.length:Int)))=true then
  ((fN v6 v29).bind fun v35 =>
  (bC v35 (-32767) 32767).bind fun v36 =>
  if v36=true then
   ((wL 4 v27 ([(FloatKind.f32.nearest v35)]:List Nat)).bind fun v37 =>
   some (.inl (v37,(IntKind.i64.wrap (v28+(IntKind.i64.wrap (v35*v35)))),(IntKind.i64.wrap (v29+1)))))
  else
   (some (.inr (.inl ()))))
 else
  (some (.inr (.inr (v27,v28))))
noncomputable def dR(v1:Int)(v2:(List Nat))(v3:Int)(v4:Int)(v12:Int)(v39:(List Nat)):(Int)→Option ((Int) ⊕ ((Unit) ⊕ (Unit))):=fun v42 =>
 if (decide (v42≤2))=true then
  ((aF v12 v39).bind fun (v56,v57) =>
  (iC v56 v57 v42).bind fun (v58,v59,v60) =>
  (aL v1 v2 v3 v4).bind fun (v61,v62,v63,v64) =>
  (cH v61 v62 v63 v64 v42).bind fun (v65,v66,v67) =>
  if (decide (v67=0))=true then
   (if (decide (v60≠0))=true then
    (some (.inr (.inl ())))
   else
    ((bM v58 v59 v65 v66).bind fun v68 =>
    if v68=true then
     (some (.inl (IntKind.i64.wrap (v42+1))))
    else
     (some (.inr (.inl ())))))
  else
   (some (.inl (IntKind.i64.wrap (v42+1)))))
 else
  (some (.inr (.inr ())))
noncomputable def jE(v1:Int)(v2:(List Nat))(v3:Int)(v4:Int)(v5:(List Int))(v6:(List Int))(v7:Int):Option Bool:=
 (dT v1 v2).bind fun v9 =>
 if v9=true then
  ((cT v1 v2 v3 v4).bind fun v10 =>
  if (decide (v10≠0))=true then
   (some (true))
  else
   (if (decide ((v5.length:Int)>700))=true then
    (some (true))
   else
    (if (decide ((v6.length:Int)>10))=true then
     (some (true))
    else
     ((fF v7).bind fun v11 =>
     if (decide (v11≠0))=true then
      (some (true))
     else
      ((aF v1 v2).bind fun (v12,v13) =>
      (run (aX v3 v5) (v13,0)).bind fun v25=>match v25 with
      | (.inl _) =>
       some (true)
      | (.inr v26) =>
       (run (bK v6) (v26,0,0)).bind fun v38=>match v38 with
       | (.inl _) =>
        some (true)
       | (.inr (v39,v40)) =>
        if (decide (v40>v4))=true then
         (some (true))
        else
         ((bZ v12 v39).bind fun v41 =>
         if (decide (v41≠0))=true then
          (some (true))
         else
          ((run (dR v1 v2 v3 v4 v12 v39) 0).bind fun v69=>match v69 with
          | (.inl _) =>
           some (false)
          | (.inr _) =>
           (aL v12 v39 0 0).bind fun (v70,v71,v72,v73) =>
           (dV v70 v71 v72 v73 v7).bind fun (v74,v75,v76) =>
           (aL v1 v2 v3 v4).bind fun (v77,v78,v79,v80) =>
           (dV v77 v78 v79 v80 v7).bind fun (v81,v82,v83) =>
           if (decide (v76=0))=true then
            (if (decide (v83=0))=true then
             ((bM v74 v75 v81 v82).bind fun v84 =>
             if v84=true then
              ((aL v12 v39 0 0).bind fun (v85,v86,v87,v88) =>
              (bD v85 v86 v87 v88 v7).bind fun (v89,v90,v91) =>
              (aL v1 v2 v3 v4).bind fun (v92,v93,v94,v95) =>
              (bD v92 v93 v94 v95 v7).bind fun (v96,v97,v98) =>
              if (decide (v91=0))=true then
               (if (decide (v98=0))=true then
                ((bM v89 v90 v96 v97).bind fun v99 =>
                if v99=true then
                 ((aL v12 v39 0 0).bind fun (v100,v101,v102,v103) =>
                 (aV v100 v101 v102 v103).bind fun (v104,v105,v106) =>
                 (aL v1 v2 v3 v4).bind fun (v107,v108,v109,v110) =>
                 (aV v107 v108 v109 v110).bind fun (v111,v112,v113) =>
                 if (decide (v106≠0))=true then
                  (some (true))
                 else
                  (if (decide (v113≠0))=true then
                   (some (true))
                  else
                   (if (decide ((v6.length:Int)>0))=true then
                    (some (true))
                   else
                    ((bM v104 v105 v111 v112).bind fun v114 =>
                    some (v114)))))
                else
                 (some (false)))
               else
                ((aL v12 v39 0 0).bind fun (v115,v116,v117,v118) =>
                (aV v115 v116 v117 v118).bind fun (v119,v120,v121) =>
                (aL v1 v2 v3 v4).bind fun (v122,v123,v124,v125) =>
                (aV v122 v123 v124 v125).bind fun (v126,v127,v128) =>
                if (decide (v121≠0))=true then
                 (some (true))
                else
                 (if (decide (v128≠0))=true then
                  (some (true))
                 else
                  (if (decide ((v6.length:Int)>0))=true then
                   (some (true))
                  else
                   ((bM v119 v120 v126 v127).bind fun v129 =>
                   some (v129))))))
              else
               ((aL v12 v39 0 0).bind fun (v130,v131,v132,v133) =>
               (aV v130 v131 v132 v133).bind fun (v134,v135,v136) =>
               (aL v1 v2 v3 v4).bind fun (v137,v138,v139,v140) =>
               (aV v137 v138 v139 v140).bind fun (v141,v142,v143) =>
               if (decide (v136≠0))=true then
                (some (true))
               else
                (if (decide (v143≠0))=true then
                 (some (true))
                else
                 (if (decide ((v6.length:Int)>0))=true then
                  (some (true))
                 else
                  ((bM v134 v135 v141 v142).bind fun v144 =>
                  some (v144))))))
             else
              (some (false)))
            else
             ((aL v12 v39 0 0).bind fun (v145,v146,v147,v148) =>
             (bD v145 v146 v147 v148 v7).bind fun (v149,v150,v151) =>
             (aL v1 v2 v3 v4).bind fun (v152,v153,v154,v155) =>
             (bD v152 v153 v154 v155 v7).bind fun (v156,v157,v158) =>
             if (decide (v151=0))=true then
              (if (decide (v158=0))=true then
               ((bM v149 v150 v156 v157).bind fun v159 =>
               if v159=true then
                ((aL v12 v39 0 0).bind fun (v160,v161,v162,v163) =>
                (aV v160 v161 v162 v163).bind fun (v164,v165,v166) =>
                (aL v1 v2 v3 v4).bind fun (v167,v168,v169,v170) =>
                (aV v167 v168 v169 v170).bind fun (v171,v172,v173) =>
                if (decide (v166≠0))=true then
                 (some (true))
                else
                 (if (decide (v173≠0))=true then
                  (some (true))
                 else
                  (if (decide ((v6.length:Int)>0))=true then
                   (some (true))
                  else
                   ((bM v164 v165 v171 v172).bind fun v174 =>
                   some (v174)))))
               else
                (some (false)))
              else
               ((aL v12 v39 0 0).bind fun (v175,v176,v177,v178) =>
               (aV v175 v176 v177 v178).bind fun (v179,v180,v181) =>
               (aL v1 v2 v3 v4).bind fun (v182,v183,v184,v185) =>
               (aV v182 v183 v184 v185).bind fun (v186,v187,v188) =>
               if (decide (v181≠0))=true then
                (some (true))
               else
                (if (decide (v188≠0))=true then
                 (some (true))
                else
                 (if (decide ((v6.length:Int)>0))=true then
                  (some (true))
                 else
                  ((bM v179 v180 v186 v187).bind fun v189 =>
                  some (v189))))))
             else
              ((aL v12 v39 0 0).bind fun (v190,v191,v192,v193) =>
              (aV v190 v191 v192 v193).bind fun (v194,v195,v196) =>
              (aL v1 v2 v3 v4).bind fun (v197,v198,v199,v200) =>
              (aV v197 v198 v199 v200).bind fun (v201,v202,v203) =>
              if (decide (v196≠0))=true then
               (some (true))
              else
               (if (decide (v203≠0))=true then
                (some (true))
               else
                (if (decide ((v6.length:Int)>0))=true then
                 (some (true))
                else
                 ((bM v194 v195 v201 v202).bind fun v204 =>
                 some (v204)))))))
           else
            ((aL v12 v39 0 0).bind fun (v205,v206,v207,v208) =>
            (bD v205 v206 v207 v208 v7).bind fun (v209,v210,v211) =>
            (aL v1 v2 v3 v4).bind fun (v212,v213,v214,v215) =>
            (bD v212 v213 v214 v215 v7).bind fun (v216,v217,v218) =>
            if (decide (v211=0))=true then
             (if (decide (v218=0))=true then
              ((bM v209 v210 v216 v217).bind fun v219 =>
              if v219=true then
               ((aL v12 v39 0 0).bind fun (v220,v221,v222,v223) =>
               (aV v220 v221 v222 v223).bind fun (v224,v225,v226) =>
               (aL v1 v2 v3 v4).bind fun (v227,v228,v229,v230) =>
               (aV v227 v228 v229 v230).bind fun (v231,v232,v233) =>
               if (decide (v226≠0))=true then
                (some (true))
               else
                (if (decide (v233≠0))=true then
                 (some (true))
                else
                 (if (decide ((v6.length:Int)>0))=true then
                  (some (true))
                 else
                  ((bM v224 v225 v231 v232).bind fun v234 =>
                  some (v234)))))
              else
               (some (false)))
             else
              ((aL v12 v39 0 0).bind fun (v235,v236,v237,v238) =>
              (aV v235 v236 v237 v238).bind fun (v239,v240,v241) =>
              (aL v1 v2 v3 v4).bind fun (v242,v243,v244,v245) =>
              (aV v242 v243 v244 v245).bind fun (v246,v247,v248) =>
              if (decide (v241≠0))=true then
               (some (true))
              else
               (if (decide (v248≠0))=true then
                (some (true))
               else
                (if (decide ((v6.length:Int)>0))=true then
                 (some (true))
                else
                 ((bM v239 v240 v246 v247).bind fun v249 =>
                 some (v249))))))
            else
             ((aL v12 v39 0 0).bind fun (v250,v251,v252,v253) =>
             (aV v250 v251 v252 v253).bind fun (v254,v255,v256) =>
             (aL v1 v2 v3 v4).bind fun (v257,v258,v259,v260) =>
             (aV v257 v258 v259 v260).bind fun (v261,v262,v263) =>
             if (decide (v256≠0))=true then
              (some (true))
             else
              (if (decide (v263≠0))=true then
               (some (true))
              else
               (if (decide ((v6.length:Int)>0))=true then
                (some (true))
               else
                ((bM v254 v255 v261 v262).bind fun v264 =>
                some (v264)))))))))))))
 else
  (some (true))
noncomputable def yZ(v1:Int)(v2:Int):Option (Int×Int):=
 (iU v1).bind fun v5 =>
 (eK v2).bind fun v6 =>
 (aE ([v5,v6]:List Int)).bind fun v7 =>
 if (decide (v7≠0))=true then
  (some (0,v7))
 else
  ((fV v1 v2).bind fun v8 =>
  some (v8,0))
noncomputable def eB(v1:Int)(v2:Int):Option (Int):=
 if v2=0 then none else
 (if (decide ((v1.tmod v2)<0))=true then
  (some ((IntKind.i64.wrap ((IntKind.i64.wrap (v1.tdiv v2))-1))))
 else
  (some ((IntKind.i64.wrap (v1.tdiv v2)))))
noncomputable def eN(v1:Int)(v2:Int):Option (Int):=
 (eB (IntKind.i64.wrap (0-v1)) v2).bind fun v4 =>
 some ((IntKind.i64.wrap (0-v4)))
noncomputable def jZ(v1:Int)(v2:Int):Option (Int×Int):=
 (lX v1).bind fun v5 =>
 if v5=true then
  ((fF v2).bind fun v6 =>
  if (decide (v6≠0))=true then
   (some (0,v6))
  else
   ((eN (IntKind.i64.wrap (v2*v1)) 1000000).bind fun v7 =>
   some (v7,0)))
 else
  (some (0,2))
noncomputable def Gq(v1:Int)(v2:(List Nat))(v3:Int)(v4:Int)(v5:Int)(v6:Int):Option Bool:=
 (dT v1 v2).bind fun v8 =>
 if v8=true then
  ((aF v1 v2).bind fun (v9,v10) =>
  (eM v9 v10).bind fun (v11,v12) =>
  (aL v1 v2 v3 v4).bind fun (v13,v14,v15,v16) =>
  (gY v13 v14 v15 v16).bind fun (v17,v18) =>
  (yZ v5 v6).bind fun (v19,v20) =>
  (dK v1 v2).bind fun (v21,v22) =>
  (iZ v1 v2 v3 v4).bind fun (v23,v24) =>
  (jZ v5 v6).bind fun (v25,v26) =>
  if (decide (v12=v22))=true then
   (if (decide (v11=v21))=true then
    (if (decide (v18=v24))=true then
     (if (decide (v17=v23))=true then
      (if (decide (v20=v26))=true then
       (some ((decide (v19=v25))))
      else
       (some (false)))
     else
      (some (false)))
    else
     (some (false)))
   else
    (some (false)))
  else
   (some (false)))
 else
  (some (true))
noncomputable def pX(v1:Int)(v2:(List Nat))(v3:Int)(v4:Int)(v5:Int)(v6:Int):Option (Int):=
 (aM v1 v2 v3 v4).bind fun v8 =>
 (cV v6 0 v8).bind fun v9 =>
 (cV v5 0 v6).bind fun v10 =>
 (aE ([v9,v10]:List Int)).bind fun v11 =>
 some (v11)
noncomputable def nW(v1:Int)(v2:(List Nat))(v3:Int)(v4:Int)(v5:Int)(v6:Int):Option (Int×Int×Int):=
 (dQ v1 v2 v3 v4).bind fun (v10,v11,v12,v13,v14) =>
 (pX v10 v11 v12 v13 v5 v6).bind fun v15 =>
 (aE ([v14,v15]:List Int)).bind fun v16 =>
 if (decide (v16≠0))=true then
  (some (0,0,v16))
 else
  ((dL v10 v11 v12 v13 v5 v6).bind fun (v17,v18) =>
  (aM v10 v11 v12 v13).bind fun v19 =>
  if (decide (v6=v19))=true then
   ((fZ v10 v11 v12 v13).bind fun (v20,v21) =>
   (eJ v17 v18 v20 v21).bind fun (v22,v23) =>
   some (v22,v23,0))
  else
   (some (v17,v18,0)))
noncomputable def tT(v1:Int)(v2:(List Nat))(v3:Int)(v4:Int):Option (Int×Int):=
 (fG v1 v2).bind fun (v7,v8) =>
 (nW v7 v8 0 0 v3 v4).bind fun (v9,v10,v11) =>
 some (v9,v11)
noncomputable def zA(v1:Int)(v2:(List Nat))(v3:Int)(v4:Int):Option (Int):=
 (bC v4 0 (v2.length:Int)).bind fun v6 =>
 if v6=true then
  ((bC v3 0 v4).bind fun v7 =>
  if v7=true then
   (some (0))
  else
   (some (2)))
 else
  (some (2))
noncomputable def kC(v1:Int)(v2:(List Nat)):Option (Int×(List Nat)):=
 some (v1,v2)
noncomputable def tA(v1:Int):Option (Int):=
 some ((if (IntKind.i64.wrap (0-v1))>v1 then (IntKind.i64.wrap (0-v1)) else v1))
noncomputable def kF(v1:Int)(v2:(List Nat))(v3:Int)(v4:Int)(v5:Int):Option (Int×Int):=
 (fN v2 v5).bind fun v8 =>
 (f2i .f32 v8 .i64).bind fun v9 =>
 (tA v9).bind fun v10 =>
 some ((IntKind.i64.wrap ((if (IntKind.i64.wrap (v10-v3))>0 then (IntKind.i64.wrap (v10-v3)) else 0)*(if (IntKind.i64.wrap (v10-v3))>0 then (IntKind.i64.wrap (v10-v3)) else 0))),(IntKind.i64.wrap ((IntKind.i64.wrap (v10+v3))*(IntKind.i64.wrap (v10+v3)))))
noncomputable def cX(v1:Int)(v2:(List Nat))(v3:Int)(v4:Int)(v6:Int):(Int×Int×Int)→Option ((Int×Int×Int) ⊕ ((Int×Int))):=fun (v9,v10,v11) =>
 if (decide (v11<v6))=true then
  ((kF v1 v2 v3 v4 v11).bind fun (v16,v17) =>
  some (.inl ((IntKind.i64.wrap (v9+v16)),(IntKind.i64.wrap (v10+v17)),(IntKind.i64.wrap (v11+1)))))
 else
  (some (.inr (v9,v10)))
noncomputable def aY(v1:Int)(v2:(List Nat))(v3:Int)(v4:Int)(v5:Int)(v6:Int):Option (Int×Int):=
 (run (cX v1 v2 v3 v4 v6) (0,0,v5)).bind fun (v18,v19) =>
 if (decide (v6=(v2.length:Int)))=true then
  (some (v18,(IntKind.i64.wrap (v19+v4))))
 else
  (some (v18,v19))
noncomputable def nZ(v1:Int)(v2:(List Nat))(v3:Int)(v4:Int):Option (Int):=
 (kC v1 v2).bind fun (v6,v7) =>
 (aY v6 v7 0 0 v3 v4).bind fun (v8,v9) =>
 some (v8)
noncomputable def Jt(v1:Int)(v2:(List Nat))(v3:Int)(v4:Int)(v5:Int)(v6:Int):Option Bool:=
 (dT v1 v2).bind fun v8 =>
 if v8=true then
  ((aF v1 v2).bind fun (v9,v10) =>
  (tT v9 v10 v5 v6).bind fun (v11,v12) =>
  (aL v1 v2 v3 v4).bind fun (v13,v14,v15,v16) =>
  (nW v13 v14 v15 v16 v5 v6).bind fun (v17,v18,v19) =>
  (bZ v1 v2).bind fun v20 =>
  if (decide (v20=0))=true then
   ((zA v1 v2 v5 v6).bind fun v21 =>
   if (decide (v12≠v21))=true then
    (some (false))
   else
    (if (decide (v21≠0))=true then
     (if (decide (v11≠0))=true then
      (some (false))
     else
      (if (decide (v21=0))=true then
       ((nZ v1 v2 v5 v6).bind fun v22 =>
       if (decide (v11≠v22))=true then
        (some (false))
       else
        ((cT v1 v2 v3 v4).bind fun v23 =>
        if (decide (v23=0))=true then
         (if (decide (v19=v21))=true then
          (some (([v17==0,v18==0].all id)))
         else
          (some (false)))
        else
         (if (decide (v23≠0))=true then
          (if (decide (v19=v23))=true then
           (some (([v17==0,v18==0].all id)))
          else
           (some (false)))
         else
          (if (decide (v19=0))=true then
           ((aY v1 v2 v3 v4 v5 v6).bind fun (v24,v25) =>
           if ([v17==v24,v18==v25].all id)=true then
            ((bC v11 v17 v18).bind fun v26 =>
            some (v26))
           else
            (some (false)))
          else
           (some (false))))))
      else
       ((cT v1 v2 v3 v4).bind fun v27 =>
       if (decide (v27=0))=true then
        (if (decide (v19=v21))=true then
         (some (([v17==0,v18==0].all id)))
        else
         (some (false)))
       else
        (if (decide (v27≠0))=true then
         (if (decide (v19=v27))=true then
          (some (([v17==0,v18==0].all id)))
         else
          (some (false)))
        else
         (if (decide (v19=0))=true then
          ((aY v1 v2 v3 v4 v5 v6).bind fun (v28,v29) =>
          if ([v17==v28,v18==v29].all id)=true then
           ((bC v11 v17 v18).bind fun v30 =>
           some (v30))
          else
           (some (false)))
         else
          (some (false)))))))
    else
     (if (decide (v21=0))=true then
      ((nZ v1 v2 v5 v6).bind fun v31 =>
      if (decide (v11≠v31))=true then
       (some (false))
      else
       ((cT v1 v2 v3 v4).bind fun v32 =>
       if (decide (v32=0))=true then
        (if (decide (v19=0))=true then
         ((aY v1 v2 v3 v4 v5 v6).bind fun (v33,v34) =>
         if ([v17==v33,v18==v34].all id)=true then
          ((bC v11 v17 v18).bind fun v35 =>
          some (v35))
         else
          (some (false)))
        else
         (some (false)))
       else
        (if (decide (v32≠0))=true then
         (if (decide (v19=v32))=true then
          (some (([v17==0,v18==0].all id)))
         else
          (some (false)))
        else
         (if (decide (v19=0))=true then
          ((aY v1 v2 v3 v4 v5 v6).bind fun (v36,v37) =>
          if ([v17==v36,v18==v37].all id)=true then
           ((bC v11 v17 v18).bind fun v38 =>
           some (v38))
          else
           (some (false)))
         else
          (some (false))))))
     else
      ((cT v1 v2 v3 v4).bind fun v39 =>
      if (decide (v39=0))=true then
       (if (decide (v19=0))=true then
        ((aY v1 v2 v3 v4 v5 v6).bind fun (v40,v41) =>
        if ([v17==v40,v18==v41].all id)=true then
         ((bC v11 v17 v18).bind fun v42 =>
         some (v42))
        else
         (some (false)))
       else
        (some (false)))
      else
       (if (decide (v39≠0))=true then
        (if (decide (v19=v39))=true then
         (some (([v17==0,v18==0].all id)))
        else
         (some (false)))
       else
        (if (decide (v19=0))=true then
         ((aY v1 v2 v3 v4 v5 v6).bind fun (v43,v44) =>
         if ([v17==v43,v18==v44].all id)=true then
          ((bC v11 v17 v18).bind fun v45 =>
          some (v45))
         else
          (some (false)))
        else
         (some (false))))))))
  else
   (if (decide (v12≠v20))=true then
    (some (false))
   else
    (if (decide (v20≠0))=true then
     (if (decide (v11≠0))=true then
      (some (false))
     else
      ((cT v1 v2 v3 v4).bind fun v46 =>
      if (decide (v46=0))=true then
       (if (decide (v19=v20))=true then
        (some (([v17==0,v18==0].all id)))
       else
        (some (false)))
      else
       (if (decide (v46≠0))=true then
        (if (decide (v19=v46))=true then
         (some (([v17==0,v18==0].all id)))
        else
         (some (false)))
       else
        (if (decide (v19=0))=true then
         ((aY v1 v2 v3 v4 v5 v6).bind fun (v47,v48) =>
         if ([v17==v47,v18==v48].all id)=true then
          ((bC v11 v17 v18).bind fun v49 =>
          some (v49))
         else
          (some (false)))
        else
         (some (false))))))
    else
     ((cT v1 v2 v3 v4).bind fun v50 =>
     if (decide (v50=0))=true then
      (if (decide (v19=0))=true then
       ((aY v1 v2 v3 v4 v5 v6).bind fun (v51,v52) =>
       if ([v17==v51,v18==v52].all id)=true then
        ((bC v11 v17 v18).bind fun v53 =>
        some (v53))
       else
        (some (false)))
      else
       (some (false)))
     else
      (if (decide (v50≠0))=true then
       (if (decide (v19=v50))=true then
        (some (([v17==0,v18==0].all id)))
       else
        (some (false)))
      else
       (if (decide (v19=0))=true then
        ((aY v1 v2 v3 v4 v5 v6).bind fun (v54,v55) =>
        if ([v17==v54,v18==v55].all id)=true then
         ((bC v11 v17 v18).bind fun v56 =>
         some (v56))
        else
         (some (false)))
       else
        (some (false))))))))
 else
  (some (true))
noncomputable def qG:(Int×Int)→Option ((Int×Int) ⊕ ((Int))):=fun (v4,v5) =>
 if (decide (v4>0))=true then
  (if v4=0 then none else
  (some (.inl ((v5.tmod v4),v4))))
 else
  (some (.inr v5))
noncomputable def sP(v1:Int)(v2:Int):Option (Int):=
 (run (qG) (v1,v2)).bind fun v7 =>
 some (v7)
noncomputable def zC(v1:Int)(v2:Int):Option (Int×Int×Int):=
 (sP v1 v2).bind fun v6 =>
 if v6=0 then none else
 (if (decide ((IntKind.i64.wrap (v1.tdiv v6))>1000000000))=true then
  (some (0,0,8))
 else
  (if (decide ((IntKind.i64.wrap (v2.tdiv v6))>1000000000))=true then
   (some (0,0,8))
  else
   (some ((IntKind.i64.wrap (v1.tdiv v6)),(IntKind.i64.wrap (v2.tdiv v6)),0))))
noncomputable def uY(v1:Int)(v2:Int):Option (Int×Int×Int):=
 if (decide (v2=0))=true then
  (some (0,0,11))
 else
  ((zC v1 v2).bind fun (v6,v7,v8) =>
  some (v6,v7,v8))
noncomputable def Bt(v1:Int)(v2:(List Nat))(v3:Int)(v4:(List Nat)):Option (Int×Int×Int):=
 (fG v1 v2).bind fun (v8,v9) =>
 (dQ v8 v9 0 0).bind fun (v10,v11,v12,v13,v14) =>
 (fG v3 v4).bind fun (v15,v16) =>
 (dQ v15 v16 0 0).bind fun (v17,v18,v19,v20,v21) =>
 (aN (decide (v1≠v3)) 13).bind fun v22 =>
 (aE ([v14,v21,v22]:List Int)).bind fun v23 =>
 if (decide (v23≠0))=true then
  (some (0,0,v23))
 else
  ((cS v17 v18 v19 v20 5000).bind fun v24 =>
  (cS v17 v18 v19 v20 80000).bind fun v25 =>
  (dL v17 v18 v19 v20 v24 v25).bind fun (v26,v27) =>
  (dB v10 v11 v12 v13 80000).bind fun (v28,v29) =>
  (uY v26 v28).bind fun (v30,v31,v32) =>
  some (v30,v31,v32))
noncomputable def Gs:(Int×Int)→Option ((Int×Int) ⊕ ((Int))):=fun (v4,v5) =>
 if (decide (v5≠0))=true then
  (if v5=0 then none else
  (some (.inl (v5,(v4.tmod v5)))))
 else
  (some (.inr v4))
noncomputable def Uj(v1:Int)(v2:Int):Option (Int):=
 (run (Gs) (v1,v2)).bind fun v7 =>
 (tA v7).bind fun v8 =>
 some (v8)
noncomputable def Hw(v1:Int)(v2:Int):Option (Int×Int):=
 (Uj v1 v2).bind fun v5 =>
 if (decide (v2<0))=true then
  (if (IntKind.i64.wrap (0-v5))=0 then none else
  (some ((IntKind.i64.wrap (v1.tdiv (IntKind.i64.wrap (0-v5)))),(IntKind.i64.wrap (v2.tdiv (IntKind.i64.wrap (0-v5)))))))
 else
  (if v5=0 then none else
  (some ((IntKind.i64.wrap (v1.tdiv v5)),(IntKind.i64.wrap (v2.tdiv v5)))))
noncomputable def yR(v1:Int)(v2:Int):Option (Int×Int×Int):=
 if (decide (v2=0))=true then
  (some (0,0,11))
 else
  ((Hw v1 v2).bind fun (v6,v7) =>
  if (decide (v6>1000000000))=true then
   (some (0,0,8))
  else
   (if (decide (v7>1000000000))=true then
    (some (0,0,8))
   else
    (some (v6,v7,0))))
noncomputable def Cm(v1:Int)(v2:(List Nat))(v3:Int)(v4:(List Nat)):Option (Int×Int×Int):=
 if (decide (v1≠v3))=true then
  (some (0,0,13))
 else
  ((jZ v1 5000).bind fun (v8,v9) =>
  (jZ v1 80000).bind fun (v10,v11) =>
  (nZ v3 v4 (if (if (v4.length:Int)<v10 then (v4.length:Int) else v10)<v8 then (if (v4.length:Int)<v10 then (v4.length:Int) else v10) else v8) (if (v4.length:Int)<v10 then (v4.length:Int) else v10)).bind fun v12 =>
  (nZ v1 v2 0 (if (v2.length:Int)<v10 then (v2.length:Int) else v10)).bind fun v13 =>
  (yR v12 v13).bind fun (v14,v15,v16) =>
  some (v14,v15,v16))
noncomputable def Jx(v1:Int)(v2:(List Nat))(v3:Int)(v4:(List Nat)):Option Bool:=
 (dT v1 v2).bind fun v6 =>
 if v6=true then
  ((dT v3 v4).bind fun v7 =>
  if v7=true then
   ((aF v1 v2).bind fun (v8,v9) =>
   (aF v3 v4).bind fun (v10,v11) =>
   (Bt v8 v9 v10 v11).bind fun (v12,v13,v14) =>
   (bZ v1 v2).bind fun v15 =>
   if (decide (v15=0))=true then
    ((bZ v3 v4).bind fun v16 =>
    if (decide (v16=0))=true then
     ((Cm v1 v2 v3 v4).bind fun (v17,v18,v19) =>
     if (decide (v14=v19))=true then
      (some (([v12==v17,v13==v18].all id)))
     else
      (some (false)))
    else
     (if (decide (v14=v16))=true then
      (some (([v12==0,v13==0].all id)))
     else
      (some (false))))
   else
    (if (decide (v14=v15))=true then
     (some (([v12==0,v13==0].all id)))
    else
     (some (false))))
  else
   (some (true)))
 else
  (some (true))
noncomputable def rY(v12:(List (Int×Int)))(v14:Nat):((List (Int×Int))×Int)→Option (((List (Int×Int))×Int) ⊕ (((List (Int×Int))))):=fun (v15,v16) =>
 if (decide (v16<(v14:Int)))=true then
  ((fN (v12.take v14) v16).bind fun (v21,v22) =>
  (wL 16 v15 ([(v21,v22)]:List (Int×Int))).bind fun v23 =>
  some (.inl (v23,(IntKind.i64.wrap (v16+1)))))
 else
  (some (.inr v15))
noncomputable def pP(v1:Int)(v2:(List Nat))(v3:Int)(v4:Int):Option ((List (Int×Int))×Int):=
 (dQ v1 v2 v3 v4).bind fun (v7,v8,v9,v10,v11) =>
 if (decide (v11≠0))=true then
  (some (([]:List (Int×Int)),v11))
 else
  ((cY v7 v8 v9 v10).bind fun v12 =>
  (aM v7 v8 v9 v10).bind fun v13 =>
  (aAr v12 v13).bind fun v14 =>
  (run (rY v12 v14) (([]:List (Int×Int)),0)).bind fun v24 =>
  some (v24,0))
noncomputable def Aw(v7:(List (Int×Int))):((List Int)×Int)→Option (((List Int)×Int) ⊕ (((List Int)))):=fun (v9,v10) =>
 if (decide (v10<(v7.length:Int)))=true then
  ((fN v7 v10).bind fun (v15,v16) =>
  (wL 8 v9 ([v15]:List Int)).bind fun v17 =>
  some (.inl (v17,(IntKind.i64.wrap (v10+1)))))
 else
  (some (.inr v9))
noncomputable def Hs(v1:Int)(v2:(List Nat)):Option ((List Int)×Int):=
 (fG v1 v2).bind fun (v5,v6) =>
 (pP v5 v6 0 0).bind fun (v7,v8) =>
 if (decide (v8≠0))=true then
  (some (([]:List Int),v8))
 else
  ((run (Aw v7) (([]:List Int),0)).bind fun v18 =>
  some (v18,0))
noncomputable def jS(v1:Int)(v2:(List Nat))(v3:Int)(v4:Int)(v5:Int):Option (Int×Int):=
 (aY v1 v2 v3 v4 v5 (v2.length:Int)).bind fun (v8,v9) =>
 some (v8,v9)
noncomputable def tP(v1:Int)(v2:(List Nat))(v3:Int)(v4:Int):((List (Int×Int))×Int)→Option (((List (Int×Int))×Int) ⊕ (((List (Int×Int))))):=fun (v6,v7) =>
 if (decide (v7<(v2.length:Int)))=true then
  ((jS v1 v2 v3 v4 v7).bind fun (v12,v13) =>
  (wL 16 v6 ([(v12,v13)]:List (Int×Int))).bind fun v14 =>
  some (.inl (v14,(IntKind.i64.wrap (v7+1)))))
 else
  (some (.inr v6))
noncomputable def qP(v1:Int)(v2:(List Nat))(v3:Int)(v4:Int):Option ((List (Int×Int))):=
 (run (tP v1 v2 v3 v4) (([]:List (Int×Int)),0)).bind fun v15 =>
 some (v15)
noncomputable def Cc(v6:(List (Int×Int))):((List Int)×Int)→Option (((List Int)×Int) ⊕ (((List Int)))):=fun (v7,v8) =>
 if (decide (v8<(v6.length:Int)))=true then
  ((fN v6 v8).bind fun (v13,v14) =>
  (wL 8 v7 ([v13]:List Int)).bind fun v15 =>
  some (.inl (v15,(IntKind.i64.wrap (v8+1)))))
 else
  (some (.inr v7))
noncomputable def Ag(v1:Int)(v2:(List Nat)):Option ((List Int)):=
 (kC v1 v2).bind fun (v4,v5) =>
 (qP v4 v5 0 0).bind fun v6 =>
 (run (Cc v6) (([]:List Int),0)).bind fun v16 =>
 some (v16)
noncomputable def Gn(v1:(List Int))(v2:(List Int)):(Int)→Option ((Int) ⊕ ((Unit) ⊕ (Unit))):=fun v4 =>
 if (decide (v4<(v1.length:Int)))=true then
  ((fN v1 v4).bind fun v7 =>
  (fN v2 v4).bind fun v8 =>
  if (decide (v7≠v8))=true then
   (some (.inr (.inl ())))
  else
   (some (.inl (IntKind.i64.wrap (v4+1)))))
 else
  (some (.inr (.inr ())))
noncomputable def Pq(v1:(List Int))(v2:(List Int)):Option (Bool):=
 if (decide ((v1.length:Int)≠(v2.length:Int)))=true then
  (some (false))
 else
  ((run (Gn v1 v2) 0).bind fun v9=>match v9 with
  | (.inl _) =>
   some (false)
  | (.inr _) =>
   some (true))
noncomputable def Bx(v1:(List (Int×Int)))(v2:(List (Int×Int))):(Int)→Option ((Int) ⊕ ((Unit) ⊕ (Unit))):=fun v4 =>
 if (decide (v4<(v1.length:Int)))=true then
  ((fN v1 v4).bind fun (v9,v10) =>
  (fN v2 v4).bind fun (v11,v12) =>
  if ([v9==v11,v10==v12].all id)=true then
   (some (.inl (IntKind.i64.wrap (v4+1))))
  else
   (some (.inr (.inl ()))))
 else
  (some (.inr (.inr ())))
noncomputable def Hc(v1:(List (Int×Int)))(v2:(List (Int×Int))):Option (Bool):=
 if (decide ((v1.length:Int)≠(v2.length:Int)))=true then
  (some (false))
 else
  ((run (Bx v1 v2) 0).bind fun v13=>match v13 with
  | (.inl _) =>
   some (false)
  | (.inr _) =>
   some (true))
noncomputable def tN(v9:(List Int)):(Int)→Option ((Int) ⊕ ((Unit) ⊕ (Unit))):=fun v25 =>
 if (decide (v25<(v9.length:Int)))=true then
  ((fN v9 v25).bind fun v28 =>
  (fN v9 (IntKind.i64.wrap (v25-1))).bind fun v29 =>
  if (decide (v28>v29))=true then
   (some (.inr (.inl ())))
  else
   (some (.inl (IntKind.i64.wrap (v25+1)))))
 else
  (some (.inr (.inr ())))
noncomputable def Pd(v1:Int)(v2:(List Nat))(v3:Int)(v4:Int):Option Bool:=
 (dT v1 v2).bind fun v6 =>
 if v6=true then
  ((aF v1 v2).bind fun (v7,v8) =>
  (Hs v7 v8).bind fun (v9,v10) =>
  (aL v1 v2 v3 v4).bind fun (v11,v12,v13,v14) =>
  (pP v11 v12 v13 v14).bind fun (v15,v16) =>
  (bZ v1 v2).bind fun v17 =>
  if (decide (v17≠0))=true then
   (if (decide (v10=v17))=true then
    (if (decide (v16=v17))=true then
     (some ((decide ((IntKind.i64.wrap ((v9.length:Int)+(v15.length:Int)))=0))))
    else
     (some (false)))
   else
    (some (false)))
  else
   (if (decide (v10≠0))=true then
    (some (false))
   else
    ((Ag v1 v2).bind fun v18 =>
    (Pq v9 v18).bind fun v19 =>
    if v19=true then
     ((aF v1 v2).bind fun (v20,v21) =>
     (tT v20 v21 0 (v2.length:Int)).bind fun (v22,v23) =>
     if (decide (v23≠0))=true then
      (some (false))
     else
      (if (decide ((v9.length:Int)=0))=true then
       (some (false))
      else
       ((fN v9 0).bind fun v24 =>
       if (decide (v24≠v22))=true then
        (some (false))
       else
        ((run (tN v9) 1).bind fun v30=>match v30 with
        | (.inl _) =>
         some (false)
        | (.inr _) =>
         (cT v1 v2 v3 v4).bind fun v31 =>
         if (decide (v31≠0))=true then
          (if (decide (v16=v31))=true then
           (some ((decide ((v15.length:Int)=0))))
          else
           (some (false)))
         else
          (if (decide (v16=0))=true then
           ((qP v1 v2 v3 v4).bind fun v32 =>
           (Hc v15 v32).bind fun v33 =>
           some (v33))
          else
           (some (false)))))))
    else
     (some (false)))))
 else
  (some (true))
noncomputable def lV(v1:Int)(v2:(List Nat))(v3:Int):Option (Int×Int×Int):=
 (fG v1 v2).bind fun (v7,v8) =>
 (dQ v7 v8 0 0).bind fun (v9,v10,v11,v12,v13) =>
 (eK v3).bind fun v14 =>
 (aE ([v13,v14]:List Int)).bind fun v15 =>
 if (decide (v15≠0))=true then
  (some (0,0,v15))
 else
  ((dB v9 v10 v11 v12 v3).bind fun (v16,v17) =>
  (eZ v9 v10 v11 v12).bind fun (v18,v19) =>
  (uY v16 v18).bind fun (v20,v21,v22) =>
  some (v20,v21,v22))
noncomputable def sB(v1:Int)(v2:(List Nat))(v3:Int)(v4:Int)(v5:Int):Option (Int×Int×Int×Int):=
 (jZ v1 v5).bind fun (v10,v11) =>
 (aY v1 v2 v3 v4 0 (if (v2.length:Int)<v10 then (v2.length:Int) else v10)).bind fun (v12,v13) =>
 if (decide ((if (v2.length:Int)<v10 then (v2.length:Int) else v10)=(v2.length:Int)))=true then
  ((aY v1 v2 v3 v4 (if (v2.length:Int)<v10 then (v2.length:Int) else v10) (v2.length:Int)).bind fun (v14,v15) =>
  some (v12,(IntKind.i64.wrap (v13-v4)),v14,v15))
 else
  ((aY v1 v2 v3 v4 (if (v2.length:Int)<v10 then (v2.length:Int) else v10) (v2.length:Int)).bind fun (v16,v17) =>
  some (v12,v13,v16,v17))
noncomputable def mL(v1:Int)(v2:(List Nat))(v3:Int):Option (Int×Int×Int):=
 (kC v1 v2).bind fun (v7,v8) =>
 (sB v7 v8 0 0 v3).bind fun (v9,v10,v11,v12) =>
 (kC v1 v2).bind fun (v13,v14) =>
 (jS v13 v14 0 0 0).bind fun (v15,v16) =>
 (yR v9 v15).bind fun (v17,v18,v19) =>
 some (v17,v18,v19)
noncomputable def gC(v1:Int)(v2:(List Nat))(v3:Int)(v4:Int)(v5:Int):Option (Int×Int×Int):=
 (sB v1 v2 v3 v4 v5).bind fun (v9,v10,v11,v12) =>
 if (decide ((IntKind.i64.wrap (v9+v11))=0))=true then
  (some (0,0,11))
 else
  ((eB (IntKind.i64.wrap (1000*v9)) (IntKind.i64.wrap (v9+v12))).bind fun v13 =>
  (eN (IntKind.i64.wrap (1000*v10)) (IntKind.i64.wrap (v10+v11))).bind fun v14 =>
  some (v13,v14,0))
noncomputable def kU:(Int×Int×Int×Int)→Option ((Int×Int×Int×Int) ⊕ ((Int))):=fun (v6,v7,v8,v9) =>
 (eB v6 v7).bind fun v13 =>
 (eB v8 v9).bind fun v14 =>
 if (decide (v13<v14))=true then
  (some (.inr (-1)))
 else
  (if (decide (v13>v14))=true then
   (some (.inr 1))
  else
   (if (decide ((IntKind.i64.wrap (v6-(IntKind.i64.wrap (v13*v7))))=0))=true then
    (if (decide ((IntKind.i64.wrap (v8-(IntKind.i64.wrap (v14*v9))))=0))=true then
     (some (.inr 0))
    else
     (some (.inr (-1))))
   else
    (if (decide ((IntKind.i64.wrap (v8-(IntKind.i64.wrap (v14*v9))))=0))=true then
     (some (.inr 1))
    else
     (some (.inl (v9,(IntKind.i64.wrap (v8-(IntKind.i64.wrap (v14*v9)))),v7,(IntKind.i64.wrap (v6-(IntKind.i64.wrap (v13*v7))))))))))
noncomputable def aS(v1:Int)(v2:Int)(v3:Int)(v4:Int):Option (Int):=
 (run (kU) (v1,v2,v3,v4)).bind fun v15 =>
 some (v15)
noncomputable def Df(v1:Int)(v2:(List Nat))(v3:Int)(v4:Int)(v5:Int):Option Bool:=
 (dT v1 v2).bind fun v7 =>
 if v7=true then
  ((aF v1 v2).bind fun (v8,v9) =>
  (lV v8 v9 v5).bind fun (v10,v11,v12) =>
  (aL v1 v2 v3 v4).bind fun (v13,v14,v15,v16) =>
  (bD v13 v14 v15 v16 v5).bind fun (v17,v18,v19) =>
  (bZ v1 v2).bind fun v20 =>
  (cT v1 v2 v3 v4).bind fun v21 =>
  (fF v5).bind fun v22 =>
  if (decide (v22≠0))=true then
   (if (decide (v20=0))=true then
    (if (decide (v21=0))=true then
     (if (decide (v22=0))=true then
      ((mL v1 v2 v5).bind fun (v23,v24,v25) =>
      (gC v1 v2 v3 v4 v5).bind fun (v26,v27,v28) =>
      if (decide (v12≠v25))=true then
       (some (false))
      else
       (if ([v10==v23,v11==v24].all id)=true then
        (if (decide (v19≠v28))=true then
         (some (false))
        else
         (if ([v17==v26,v18==v27].all id)=true then
          (if (decide (v25≠0))=true then
           (some (true))
          else
           (if (decide (v28≠0))=true then
            (some (true))
           else
            (if (decide (v4≠0))=true then
             (some (true))
            else
             ((aS v17 1000 v10 v11).bind fun v29 =>
             if (decide (v29≤0))=true then
              ((aS v10 v11 v18 1000).bind fun v30 =>
              some ((decide (v30≤0))))
             else
              (some (false))))))
         else
          (some (false))))
       else
        (some (false))))
     else
      (if (decide (v12≠v22))=true then
       (some (false))
      else
       (if ([v10==0,v11==0].all id)=true then
        (if (decide (v19≠v22))=true then
         (some (false))
        else
         (if ([v17==0,v18==0].all id)=true then
          (some (true))
         else
          (some (false))))
       else
        (some (false)))))
    else
     (if (decide (v22=0))=true then
      ((mL v1 v2 v5).bind fun (v31,v32,v33) =>
      if (decide (v12≠v33))=true then
       (some (false))
      else
       (if ([v10==v31,v11==v32].all id)=true then
        (if (decide (v19≠v21))=true then
         (some (false))
        else
         (if ([v17==0,v18==0].all id)=true then
          (if (decide (v33≠0))=true then
           (some (true))
          else
           (if (decide (v21≠0))=true then
            (some (true))
           else
            (if (decide (v4≠0))=true then
             (some (true))
            else
             ((aS v17 1000 v10 v11).bind fun v34 =>
             if (decide (v34≤0))=true then
              ((aS v10 v11 v18 1000).bind fun v35 =>
              some ((decide (v35≤0))))
             else
              (some (false))))))
         else
          (some (false))))
       else
        (some (false))))
     else
      (if (decide (v12≠v22))=true then
       (some (false))
      else
       (if ([v10==0,v11==0].all id)=true then
        (if (decide (v19≠v21))=true then
         (some (false))
        else
         (if ([v17==0,v18==0].all id)=true then
          (some (true))
         else
          (some (false))))
       else
        (some (false))))))
   else
    (if (decide (v21=0))=true then
     (if (decide (v22=0))=true then
      ((gC v1 v2 v3 v4 v5).bind fun (v36,v37,v38) =>
      if (decide (v12≠v20))=true then
       (some (false))
      else
       (if ([v10==0,v11==0].all id)=true then
        (if (decide (v19≠v38))=true then
         (some (false))
        else
         (if ([v17==v36,v18==v37].all id)=true then
          (if (decide (v20≠0))=true then
           (some (true))
          else
           (if (decide (v38≠0))=true then
            (some (true))
           else
            (if (decide (v4≠0))=true then
             (some (true))
            else
             ((aS v17 1000 v10 v11).bind fun v39 =>
             if (decide (v39≤0))=true then
              ((aS v10 v11 v18 1000).bind fun v40 =>
              some ((decide (v40≤0))))
             else
              (some (false))))))
         else
          (some (false))))
       else
        (some (false))))
     else
      (if (decide (v12≠v20))=true then
       (some (false))
      else
       (if ([v10==0,v11==0].all id)=true then
        (if (decide (v19≠v22))=true then
         (some (false))
        else
         (if ([v17==0,v18==0].all id)=true then
          (if (decide (v20≠0))=true then
           (some (true))
          else
           (some (true)))
         else
          (some (false))))
       else
        (some (false)))))
    else
     (if (decide (v12≠v20))=true then
      (some (false))
     else
      (if ([v10==0,v11==0].all id)=true then
       (if (decide (v19≠v21))=true then
        (some (false))
       else
        (if ([v17==0,v18==0].all id)=true then
         (if (decide (v20≠0))=true then
          (some (true))
         else
          (if (decide (v21≠0))=true then
           (some (true))
          else
           (if (decide (v4≠0))=true then
            (some (true))
           else
            ((aS v17 1000 v10 v11).bind fun v41 =>
            if (decide (v41≤0))=true then
             ((aS v10 v11 v18 1000).bind fun v42 =>
             some ((decide (v42≤0))))
            else
             (some (false))))))
        else
         (some (false))))
      else
       (some (false))))))
  else
   (if (decide (v20=0))=true then
    ((mL v1 v2 v5).bind fun (v43,v44,v45) =>
    if (decide (v21=0))=true then
     ((gC v1 v2 v3 v4 v5).bind fun (v46,v47,v48) =>
     if (decide (v12≠v45))=true then
      (some (false))
     else
      (if ([v10==v43,v11==v44].all id)=true then
       (if (decide (v19≠v48))=true then
        (some (false))
       else
        (if ([v17==v46,v18==v47].all id)=true then
         (if (decide (v45≠0))=true then
          (some (true))
         else
          (if (decide (v48≠0))=true then
           (some (true))
          else
           (if (decide (v4≠0))=true then
            (some (true))
           else
            ((aS v17 1000 v10 v11).bind fun v49 =>
            if (decide (v49≤0))=true then
             ((aS v10 v11 v18 1000).bind fun v50 =>
             some ((decide (v50≤0))))
            else
             (some (false))))))
        else
         (some (false))))
      else
       (some (false))))
    else
     (if (decide (v12≠v45))=true then
      (some (false))
     else
      (if ([v10==v43,v11==v44].all id)=true then
       (if (decide (v19≠v21))=true then
        (some (false))
       else
        (if ([v17==0,v18==0].all id)=true then
         (if (decide (v45≠0))=true then
          (some (true))
         else
          (if (decide (v21≠0))=true then
           (some (true))
          else
           (if (decide (v4≠0))=true then
            (some (true))
           else
            ((aS v17 1000 v10 v11).bind fun v51 =>
            if (decide (v51≤0))=true then
             ((aS v10 v11 v18 1000).bind fun v52 =>
             some ((decide (v52≤0))))
            else
             (some (false))))))
        else
         (some (false))))
      else
       (some (false)))))
   else
    (if (decide (v21=0))=true then
     ((gC v1 v2 v3 v4 v5).bind fun (v53,v54,v55) =>
     if (decide (v12≠v20))=true then
      (some (false))
     else
      (if ([v10==0,v11==0].all id)=true then
       (if (decide (v19≠v55))=true then
        (some (false))
       else
        (if ([v17==v53,v18==v54].all id)=true then
         (if (decide (v20≠0))=true then
          (some (true))
         else
          (if (decide (v55≠0))=true then
           (some (true))
          else
           (if (decide (v4≠0))=true then
            (some (true))
           else
            ((aS v17 1000 v10 v11).bind fun v56 =>
            if (decide (v56≤0))=true then
             ((aS v10 v11 v18 1000).bind fun v57 =>
             some ((decide (v57≤0))))
            else
             (some (false))))))
        else
         (some (false))))
      else
       (some (false))))
    else
     (if (decide (v12≠v20))=true then
      (some (false))
     else
      (if ([v10==0,v11==0].all id)=true then
       (if (decide (v19≠v21))=true then
        (some (false))
       else
        (if ([v17==0,v18==0].all id)=true then
         (if (decide (v20≠0))=true then
          (some (true))
         else
          (if (decide (v21≠0))=true then
           (some (true))
          else
           (if (decide (v4≠0))=true then
            (some (true))
           else
            ((aS v17 1000 v10 v11).bind fun v58 =>
            if (decide (v58≤0))=true then
             ((aS v10 v11 v18 1000).bind fun v59 =>
             some ((decide (v59≤0))))
            else
             (some (false))))))
        else
         (some (false))))
      else
       (some (false)))))))
 else
  (some (true))
noncomputable def oY(v1:Int)(v2:Int)(v3:(List (Int×Int)))(v4:Int):Option (Bool):=
 (fN v3 0).bind fun (v6,v7) =>
 (fT v6 v1 v4).bind fun v8 =>
 some (v8)
noncomputable def gU(v1:(List (Int×Int)))(v2:(List (Int×Int)))(v3:Int):(Int)→Option ((Int) ⊕ ((Int) ⊕ (Unit))):=fun v5 =>
 if (decide (v5<(v1.length:Int)))=true then
  ((fN v1 v5).bind fun (v10,v11) =>
  (oY v10 v11 v2 v3).bind fun v12 =>
  if v12=true then
   (some (.inr (.inl v5)))
  else
   (some (.inl (IntKind.i64.wrap (v5+1)))))
 else
  (some (.inr (.inr ())))
noncomputable def iP(v1:(List (Int×Int)))(v2:(List (Int×Int)))(v3:Int):Option (Int):=
 (run (gU v1 v2 v3) 0).bind fun v13=>match v13 with
 | (.inl v14) =>
  some (v14)
 | (.inr _) =>
  some ((-1))
noncomputable def iA(v1:Int)(v2:(List Nat))(v3:Int):Option (Int×Int):=
 (fG v1 v2).bind fun (v6,v7) =>
 (dQ v6 v7 0 0).bind fun (v8,v9,v10,v11,v12) =>
 (cV v3 0 12).bind fun v13 =>
 (aE ([v12,v13]:List Int)).bind fun v14 =>
 if (decide (v14≠0))=true then
  (some (0,v14))
 else
  ((cY v8 v9 v10 v11).bind fun v15 =>
  (fN v15 0).bind fun (v16,v17) =>
  if (decide (v16=0))=true then
   (some (0,11))
  else
   ((iP v15 v15 v3).bind fun v18 =>
   some (v18,0)))
noncomputable def jL(v1:Int):(Int×Int)→Option ((Int×Int) ⊕ ((Int))):=fun (v3,v4) =>
 if (decide (v4<v1))=true then
  (some (.inl ((IntKind.i64.wrap (10*v3)),(IntKind.i64.wrap (v4+1)))))
 else
  (some (.inr v3))
noncomputable def kG(v1:Int):Option (Int):=
 (run (jL v1) (1,0)).bind fun v6 =>
 some (v6)
noncomputable def jC(v1:Int)(v2:Int)(v3:Int):Option (Bool):=
 (kG (IntKind.i64.wrap (v3.tdiv 2))).bind fun v5 =>
 if (decide ((v3.tmod 2)=0))=true then
  (some ((decide ((IntKind.i64.wrap (v1*v5))≤v2))))
 else
  (if (decide ((IntKind.i64.wrap (v1*v5))>v2))=true then
   (some ((decide ((IntKind.i64.wrap (v1*v5))≤v2))))
  else
   ((aS (IntKind.i64.wrap (10*(IntKind.i64.wrap (v1*v5)))) v2 v2 (if (IntKind.i64.wrap (v1*v5))>1 then (IntKind.i64.wrap (v1*v5)) else 1)).bind fun v6 =>
   some ((decide (v6≤0)))))
noncomputable def tM(v1:Int)(v2:(List Nat))(v3:Int):(Int)→Option ((Int) ⊕ ((Int))):=fun v5 =>
 (kC v1 v2).bind fun (v16,v17) =>
 (jS v16 v17 0 0 v5).bind fun (v18,v19) =>
 (kC v1 v2).bind fun (v20,v21) =>
 (jS v20 v21 0 0 0).bind fun (v22,v23) =>
 (jC v18 v22 v3).bind fun v24 =>
 if v24=true then
  (some (.inr v5))
 else
  (some (.inl (IntKind.i64.wrap (v5+1))))
noncomputable def qS(v1:Int)(v2:(List Nat))(v3:Int):Option (Int):=
 (run (tM v1 v2 v3) 0).bind fun v25 =>
 some (v25)
noncomputable def Mj(v1:Int)(v2:(List Nat))(v3:Int):Option Bool:=
 (dT v1 v2).bind fun v5 =>
 if v5=true then
  ((aF v1 v2).bind fun (v6,v7) =>
  (iA v6 v7 v3).bind fun (v8,v9) =>
  (bZ v1 v2).bind fun v10 =>
  if (decide (v10=0))=true then
   ((bC v3 0 12).bind fun v11 =>
   if v11=true then
    ((Ag v1 v2).bind fun v12 =>
    (fN v12 0).bind fun v13 =>
    if (decide (v13=0))=true then
     (if (decide (v9=11))=true then
      (some ((decide (v8=0))))
     else
      (some (false)))
    else
     (if (decide (v10≠0))=true then
      (if (decide (v9=v10))=true then
       (some ((decide (v8=0))))
      else
       (some (false)))
     else
      (if (decide (v9≠0))=true then
       (some (false))
      else
       ((qS v1 v2 v3).bind fun v14 =>
       if (decide (v8≠v14))=true then
        (some (false))
       else
        (if (decide (v3=12))=true then
         (some (true))
        else
         ((aF v1 v2).bind fun (v15,v16) =>
         (iA v15 v16 (IntKind.i64.wrap (v3+1))).bind fun (v17,v18) =>
         if (decide (v18=0))=true then
          (if (decide (v8≤v17))=true then
           (some ((decide (v17≤(v2.length:Int)))))
          else
           (some (false)))
         else
          (some (false))))))))
   else
    (if (decide (v9=2))=true then
     (some ((decide (v8=0))))
    else
     (some (false))))
  else
   (if (decide (v10≠0))=true then
    (if (decide (v9=v10))=true then
     (some ((decide (v8=0))))
    else
     (some (false)))
   else
    (if (decide (v9≠0))=true then
     (some (false))
    else
     ((qS v1 v2 v3).bind fun v19 =>
     if (decide (v8≠v19))=true then
      (some (false))
     else
      (if (decide (v3=12))=true then
       (some (true))
      else
       ((aF v1 v2).bind fun (v20,v21) =>
       (iA v20 v21 (IntKind.i64.wrap (v3+1))).bind fun (v22,v23) =>
       if (decide (v23=0))=true then
        (if (decide (v8≤v22))=true then
         (some ((decide (v22≤(v2.length:Int)))))
        else
         (some (false)))
       else
        (some (false))))))))
 else
  (some (true))
noncomputable def Aa(v1:Int)(v2:Int):Option (Int):=
 if v2=0 then none else
 (if (decide ((v1.tmod v2)<0))=true then
  (some ((IntKind.i64.wrap ((v1.tmod v2)+v2))))
 else
  (some ((v1.tmod v2))))
noncomputable def vE(v1:Int):Option (Int):=
 (fN ([1000000000,1258925411,1584893192,1995262314,2511886431,3162277660,3981071705,5011872336,6309573444,7943282347]:List Int) v1).bind fun v3 =>
 some (v3)
noncomputable def mY(v1:Int)(v2:Int)(v3:Int)(v4:Int):Option (Int):=
 (Aa v3 10).bind fun v6 =>
 (eB v3 10).bind fun v7 =>
 (vE v6).bind fun v8 =>
 if (decide (v6>0))=true then
  (if (decide (v7≥0))=true then
   ((kG v7).bind fun v9 =>
   (aS v1 v2 (IntKind.i64.wrap ((IntKind.i64.wrap (v8+v4))*v9)) 1000000000).bind fun v10 =>
   some (v10))
  else
   ((kG (IntKind.i64.wrap (9-v7))).bind fun v11 =>
   (aS v1 v2 (IntKind.i64.wrap (v8+v4)) v11).bind fun v12 =>
   some (v12)))
 else
  (if (decide (v7≥0))=true then
   ((kG v7).bind fun v13 =>
   (aS v1 v2 (IntKind.i64.wrap (v8*v13)) 1000000000).bind fun v14 =>
   some (v14))
  else
   ((kG (IntKind.i64.wrap (9-v7))).bind fun v15 =>
   (aS v1 v2 v8 v15).bind fun v16 =>
   some (v16)))
noncomputable def iS(v1:Int)(v2:Int):(Int)→Option ((Int) ⊕ ((Int))):=fun v10 =>
 (mY v1 v2 v10 1).bind fun v13 =>
 if (decide (v13<0))=true then
  (some (.inl (IntKind.i64.wrap (v10-1))))
 else
  (some (.inr v10))
noncomputable def jA(v1:Int)(v2:Int):(Int)→Option ((Int) ⊕ ((Int))):=fun v15 =>
 (mY v1 v2 v15 0).bind fun v18 =>
 if (decide (v18>0))=true then
  (some (.inl (IntKind.i64.wrap (v15+1))))
 else
  (some (.inr v15))
noncomputable def fE(v1:Int)(v2:Int):Option (Int×Int×Int):=
 (bC v1 1 10000000000000).bind fun v6 =>
 if v6=true then
  ((bC v2 1 10000000000000).bind fun v7 =>
  if v7=true then
   ((aS v1 v2 1000000000 1).bind fun v8 =>
   if (decide (v8>0))=true then
    (some (0,0,8))
   else
    ((aS v1 v2 1 1000000000).bind fun v9 =>
    if (decide (v9<0))=true then
     (some (0,0,8))
    else
     ((run (iS v1 v2) 90).bind fun v14 =>
     (run (jA v1 v2) (-90)).bind fun v19 =>
     some (v14,v19,0))))
  else
   (some (0,0,2)))
 else
  (some (0,0,2))
noncomputable def Lo(v1:Int)(v2:Int):Option Bool:=
 (bL v1 v2).bind fun (v4,v5,v6) =>
 (fE v1 v2).bind fun (v7,v8,v9) =>
 if (decide (v6≠v9))=true then
  (some (false))
 else
  (if ([v4==v7,v5==v8].all id)=true then
   (if (decide (v9≠0))=true then
    (some (true))
   else
    ((bL v2 v1).bind fun (v10,v11,v12) =>
    (bL v1 v1).bind fun (v13,v14,v15) =>
    if (decide (v12=0))=true then
     (if (decide (v4≤v5))=true then
      (if (decide (v5≤(IntKind.i64.wrap (v4+2))))=true then
       ((bC v10 (IntKind.i64.wrap ((IntKind.i64.wrap (0-v5))-1)) (IntKind.i64.wrap ((IntKind.i64.wrap (0-v5))+1))).bind fun v16 =>
       if v16=true then
        (if (decide (v15=0))=true then
         (some (([v13==0,v14==0].all id)))
        else
         (some (false)))
       else
        (some (false)))
      else
       (some (false)))
     else
      (some (false)))
    else
     (some (false))))
  else
   (some (false)))
noncomputable def Cq(v1:Int)(v2:(List Nat))(v3:Int)(v4:Int)(v5:Int):Option (Int×Int×Int):=
 (jZ v1 v5).bind fun (v9,v10) =>
 if (decide (v9≥(v2.length:Int)))=true then
  (some (0,0,12))
 else
  ((sB v1 v2 v3 v4 v5).bind fun (v11,v12,v13,v14) =>
  if (decide (v11=0))=true then
   (some (0,0,11))
  else
   (if (decide (v13=0))=true then
    (some (0,0,11))
   else
    ((fE v11 v14).bind fun (v15,v16,v17) =>
    if (decide (v17≠0))=true then
     (some (0,0,v17))
    else
     ((fE v12 v13).bind fun (v18,v19,v20) =>
     if (decide (v20≠0))=true then
      (some (0,0,v20))
     else
      (some (v15,v19,0))))))
noncomputable def Jz(v1:Int)(v2:(List Nat))(v3:Int)(v4:Int)(v5:Int):Option Bool:=
 (dT v1 v2).bind fun v7 =>
 if v7=true then
  ((aL v1 v2 v3 v4).bind fun (v8,v9,v10,v11) =>
  (dV v8 v9 v10 v11 v5).bind fun (v12,v13,v14) =>
  (cT v1 v2 v3 v4).bind fun v15 =>
  if (decide (v15=0))=true then
   ((fF v5).bind fun v16 =>
   if (decide (v16=0))=true then
    ((Cq v1 v2 v3 v4 v5).bind fun (v17,v18,v19) =>
    if (decide (v14=v19))=true then
     (some (([v12==v17,v13==v18].all id)))
    else
     (some (false)))
   else
    (if (decide (v14=v16))=true then
     (some (([v12==0,v13==0].all id)))
    else
     (some (false))))
  else
   (if (decide (v14=v15))=true then
    (some (([v12==0,v13==0].all id)))
   else
    (some (false))))
 else
  (some (true))
noncomputable def Ge(v1:Int):Option (Bool):=
 (bC v1 0 2).bind fun v3 =>
 some (v3)
noncomputable def eC(v1:Int)(v2:(List Nat))(v3:Int)(v4:Int)(v5:Int)(v9:Int)(v10:Int):(Int×Int)→Option ((Int×Int) ⊕ ((Int×Int) ⊕ (Unit))):=fun (v11,v12) =>
 if (decide (v12<(v2.length:Int)))=true then
  ((jS v1 v2 v3 v4 v12).bind fun (v21,v22) =>
  if (decide (v11<0))=true then
   ((jC v21 v10 v5).bind fun v23 =>
   if v23=true then
    ((jC v22 v9 v5).bind fun v24 =>
    if v24=true then
     (some (.inr (.inl ((if (IntKind.i64.wrap (v12-1))>0 then (IntKind.i64.wrap (v12-1)) else 0),v12))))
    else
     (some (.inl (v12,(IntKind.i64.wrap (v12+1))))))
   else
    ((jC v22 v9 v5).bind fun v25 =>
    if v25=true then
     (some (.inr (.inl ((if (IntKind.i64.wrap (v11-1))>0 then (IntKind.i64.wrap (v11-1)) else 0),v12))))
    else
     (some (.inl (v11,(IntKind.i64.wrap (v12+1)))))))
  else
   ((jC v22 v9 v5).bind fun v26 =>
   if v26=true then
    (some (.inr (.inl ((if (IntKind.i64.wrap (v11-1))>0 then (IntKind.i64.wrap (v11-1)) else 0),v12))))
   else
    (some (.inl (v11,(IntKind.i64.wrap (v12+1)))))))
 else
  (some (.inr (.inr ())))
noncomputable def aT(v1:Int)(v2:(List Nat))(v3:Int)(v4:Int)(v5:Int):Option (Int×Int×Bool):=
 (jS v1 v2 v3 v4 0).bind fun (v9,v10) =>
 (run (eC v1 v2 v3 v4 v5 v9 v10) ((-1),0)).bind fun v27=>match v27 with
 | (.inl (v28,v29)) =>
  some (v28,v29,true)
 | (.inr _) =>
  some (0,0,false)
noncomputable def iJ(v1:Int)(v2:(List Nat))(v3:Int)(v4:Int)(v5:Int):Option (Int×Int×Int):=
 (jS v1 v2 v3 v4 0).bind fun (v9,v10) =>
 if (decide (v9=0))=true then
  (some (0,0,11))
 else
  (if (decide (v5=0))=true then
   ((aT v1 v2 v3 v4 2).bind fun (v11,v12,v13) =>
   if v13=true then
    ((eB (IntKind.i64.wrap ((IntKind.i64.wrap (6*v11))*1000000)) v1).bind fun v14 =>
    (eN (IntKind.i64.wrap ((IntKind.i64.wrap (6*v12))*1000000)) v1).bind fun v15 =>
    some (v14,v15,0))
   else
    (some (0,0,12)))
  else
   (if (decide (v5=2))=true then
    ((aT v1 v2 v3 v4 1).bind fun (v16,v17,v18) =>
    (aT v1 v2 v3 v4 7).bind fun (v19,v20,v21) =>
    if v18=true then
     (if v21=true then
      ((eB (IntKind.i64.wrap ((IntKind.i64.wrap (2*(if (IntKind.i64.wrap (v19-v17))>0 then (IntKind.i64.wrap (v19-v17)) else 0)))*1000000)) v1).bind fun v22 =>
      (eN (IntKind.i64.wrap ((IntKind.i64.wrap (2*(IntKind.i64.wrap (v20-v16))))*1000000)) v1).bind fun v23 =>
      some (v22,v23,0))
     else
      (some (0,0,12)))
    else
     (some (0,0,12)))
   else
    ((aT v1 v2 v3 v4 1).bind fun (v24,v25,v26) =>
    (aT v1 v2 v3 v4 5).bind fun (v27,v28,v29) =>
    if v26=true then
     (if v29=true then
      ((eB (IntKind.i64.wrap ((IntKind.i64.wrap (3*(if (IntKind.i64.wrap (v27-v25))>0 then (IntKind.i64.wrap (v27-v25)) else 0)))*1000000)) v1).bind fun v30 =>
      (eN (IntKind.i64.wrap ((IntKind.i64.wrap (3*(IntKind.i64.wrap (v28-v24))))*1000000)) v1).bind fun v31 =>
      some (v30,v31,0))
     else
      (some (0,0,12)))
    else
     (some (0,0,12)))))
noncomputable def Kz(v1:Int)(v2:(List Nat))(v3:Int)(v4:Int)(v5:Int):Option Bool:=
 (dT v1 v2).bind fun v7 =>
 if v7=true then
  ((aF v1 v2).bind fun (v8,v9) =>
  (iC v8 v9 v5).bind fun (v10,v11,v12) =>
  (aL v1 v2 v3 v4).bind fun (v13,v14,v15,v16) =>
  (cH v13 v14 v15 v16 v5).bind fun (v17,v18,v19) =>
  (bZ v1 v2).bind fun v20 =>
  (cT v1 v2 v3 v4).bind fun v21 =>
  (Ge v5).bind fun v22 =>
  if v22=true then
   (if (decide (v20=0))=true then
    ((kC v1 v2).bind fun (v23,v24) =>
    (iJ v23 v24 0 0 v5).bind fun (v25,v26,v27) =>
    if (decide (v21=0))=true then
     ((iJ v1 v2 v3 v4 v5).bind fun (v28,v29,v30) =>
     if (decide (v12=v27))=true then
      (if ([v10==v25,v11==v26].all id)=true then
       (if (decide (v19=v30))=true then
        (some (([v17==v28,v18==v29].all id)))
       else
        (some (false)))
      else
       (some (false)))
     else
      (some (false)))
    else
     (if (decide (v12=v27))=true then
      (if ([v10==v25,v11==v26].all id)=true then
       (if (decide (v19=v21))=true then
        (some (([v17==0,v18==0].all id)))
       else
        (some (false)))
      else
       (some (false)))
     else
      (some (false))))
   else
    (if (decide (v21=0))=true then
     ((iJ v1 v2 v3 v4 v5).bind fun (v31,v32,v33) =>
     if (decide (v12=v20))=true then
      (if ([v10==0,v11==0].all id)=true then
       (if (decide (v19=v33))=true then
        (some (([v17==v31,v18==v32].all id)))
       else
        (some (false)))
      else
       (some (false)))
     else
      (some (false)))
    else
     (if (decide (v12=v20))=true then
      (if ([v10==0,v11==0].all id)=true then
       (if (decide (v19=v21))=true then
        (some (([v17==0,v18==0].all id)))
       else
        (some (false)))
      else
       (some (false)))
     else
      (some (false)))))
  else
   (if (decide (v20=0))=true then
    (if (decide (v21=0))=true then
     (if (decide (v12=15))=true then
      (if ([v10==0,v11==0].all id)=true then
       (if (decide (v19=15))=true then
        (some (([v17==0,v18==0].all id)))
       else
        (some (false)))
      else
       (some (false)))
     else
      (some (false)))
    else
     (if (decide (v12=15))=true then
      (if ([v10==0,v11==0].all id)=true then
       (if (decide (v19=v21))=true then
        (some (([v17==0,v18==0].all id)))
       else
        (some (false)))
      else
       (some (false)))
     else
      (some (false))))
   else
    (if (decide (v21=0))=true then
     (if (decide (v12=v20))=true then
      (if ([v10==0,v11==0].all id)=true then
       (if (decide (v19=15))=true then
        (some (([v17==0,v18==0].all id)))
       else
        (some (false)))
      else
       (some (false)))
     else
      (some (false)))
    else
     (if (decide (v12=v20))=true then
      (if ([v10==0,v11==0].all id)=true then
       (if (decide (v19=v21))=true then
        (some (([v17==0,v18==0].all id)))
       else
        (some (false)))
      else
       (some (false)))
     else
      (some (false))))))
 else
  (some (true))
noncomputable def yW(v1:Int)(v2:(List Nat))(v3:Int)(v4:Int):(Int×Int×Int)→Option ((Int×Int×Int) ⊕ ((Int×Int))):=fun (v10,v11,v12) =>
 if (decide (v12<(v2.length:Int)))=true then
  ((kF v1 v2 v3 v4 v12).bind fun (v17,v18) =>
  some (.inl ((IntKind.i64.wrap (v10+(IntKind.i64.wrap (v12*v17)))),(IntKind.i64.wrap (v11+(IntKind.i64.wrap (v12*v18)))),(IntKind.i64.wrap (v12+1)))))
 else
  (some (.inr (v10,v11)))
noncomputable def Ff(v1:Int)(v2:(List Nat))(v3:Int)(v4:Int):Option (Int×Int×Int):=
 if (decide (v4≠0))=true then
  (some (0,0,23))
 else
  ((jS v1 v2 v3 v4 0).bind fun (v8,v9) =>
  if (decide (v8=0))=true then
   (some (0,0,11))
  else
   ((run (yW v1 v2 v3 v4) (0,0,0)).bind fun (v19,v20) =>
   if v9=0 then none else
   ((eB (IntKind.i64.wrap ((v19.tmod v9)*1000000)) v9).bind fun v21 =>
   (eB (IntKind.i64.wrap ((IntKind.i64.wrap ((IntKind.i64.wrap (v19.tdiv v9))*1000000))+v21)) v1).bind fun v22 =>
   (eN (IntKind.i64.wrap ((IntKind.i64.wrap ((v2.length:Int)-1))*1000000)) v1).bind fun v23 =>
   if v8=0 then none else
   (if (decide ((IntKind.i64.wrap (v20.tdiv v8))<(v2.length:Int)))=true then
    ((eN (IntKind.i64.wrap ((v20.tmod v8)*1000000)) v8).bind fun v24 =>
    (eN (IntKind.i64.wrap ((IntKind.i64.wrap ((IntKind.i64.wrap (v20.tdiv v8))*1000000))+v24)) v1).bind fun v25 =>
    some (v22,(if v25<v23 then v25 else v23),0))
   else
    (some (v22,v23,0))))))
noncomputable def Jy(v1:Int)(v2:(List Nat))(v3:Int)(v4:Int):Option Bool:=
 (dT v1 v2).bind fun v6 =>
 if v6=true then
  ((aL v1 v2 v3 v4).bind fun (v7,v8,v9,v10) =>
  (aV v7 v8 v9 v10).bind fun (v11,v12,v13) =>
  (cT v1 v2 v3 v4).bind fun v14 =>
  if (decide (v14=0))=true then
   ((Ff v1 v2 v3 v4).bind fun (v15,v16,v17) =>
   if (decide (v13=v17))=true then
    (some (([v11==v15,v12==v16].all id)))
   else
    (some (false)))
  else
   (if (decide (v13=v14))=true then
    (some (([v11==0,v12==0].all id)))
   else
    (some (false))))
 else
  (some (true))
noncomputable def rR(v2:(List Nat))(v3:Int):((List Nat)×Int)→Option (((List Nat)×Int) ⊕ ((Unit) ⊕ ((List Nat)))):=fun (v12,v13) =>
 if (decide (v13<(v2.length:Int)))=true then
  ((fN v2 v13).bind fun v18 =>
  if (fcmp .gtr .f32 v18 1133903872)=true then
   (some (.inr (.inl ())))
  else
   (if (fcmp .lss .f32 v18 3281387520)=true then
    (some (.inr (.inl ())))
   else
    ((farith .mul .f32 (FloatKind.f32.nearest v3) v18).bind fun v19 =>
    (fN v12 v13).bind fun v20 =>
    some (.inl ((v12.set v13.toNat v19),(IntKind.i64.wrap (v13+1)))))))
 else
  (some (.inr (.inr v12)))
noncomputable def rQ(v1:Int)(v2:(List Nat))(v10:Int)(v22:(List Nat)):(Int)→Option ((Int) ⊕ ((Unit) ⊕ (Unit))):=fun v23 =>
 if (decide (v23≤12))=true then
  ((aF v1 v2).bind fun (v32,v33) =>
  (iA v32 v33 v23).bind fun (v34,v35) =>
  (aF v10 v22).bind fun (v36,v37) =>
  (iA v36 v37 v23).bind fun (v38,v39) =>
  if (decide (v35≠v39))=true then
   (some (.inr (.inl ())))
  else
   (if (decide (v34≠v38))=true then
    (some (.inr (.inl ())))
   else
    (some (.inl (IntKind.i64.wrap (v23+1))))))
 else
  (some (.inr (.inr ())))
noncomputable def rP(v1:Int)(v2:(List Nat))(v10:Int)(v22:(List Nat)):(Int)→Option ((Int) ⊕ ((Unit) ⊕ (Unit))):=fun v41 =>
 if (decide (v41≤2))=true then
  ((aF v1 v2).bind fun (v52,v53) =>
  (iC v52 v53 v41).bind fun (v54,v55,v56) =>
  (aF v10 v22).bind fun (v57,v58) =>
  (iC v57 v58 v41).bind fun (v59,v60,v61) =>
  if (decide (v56≠v61))=true then
   (some (.inr (.inl ())))
  else
   (if ([v54==v59,v55==v60].all id)=true then
    (some (.inl (IntKind.i64.wrap (v41+1))))
   else
    (some (.inr (.inl ())))))
 else
  (some (.inr (.inr ())))
noncomputable def Kh(v1:Int)(v2:(List Nat))(v3:Int)(v4:Int):Option Bool:=
 (dT v1 v2).bind fun v6 =>
 if v6=true then
  ((bZ v1 v2).bind fun v7 =>
  if (decide (v7≠0))=true then
   (some (true))
  else
   ((bC v3 1 100).bind fun v8 =>
   if v8=true then
    ((fF v4).bind fun v9 =>
    if (decide (v9≠0))=true then
     (some (true))
    else
     ((aF v1 v2).bind fun (v10,v11) =>
     (run (rR v2 v3) (v11,0)).bind fun v21=>match v21 with
     | (.inl _) =>
      some (true)
     | (.inr v22) =>
      (run (rQ v1 v2 v10 v22) 0).bind fun v40=>match v40 with
      | (.inl _) =>
       some (false)
      | (.inr _) =>
       (run (rP v1 v2 v10 v22) 0).bind fun v62=>match v62 with
       | (.inl _) =>
        some (false)
       | (.inr _) =>
        (aL v1 v2 0 0).bind fun (v63,v64,v65,v66) =>
        (dV v63 v64 v65 v66 v4).bind fun (v67,v68,v69) =>
        (aL v10 v22 0 0).bind fun (v70,v71,v72,v73) =>
        (dV v70 v71 v72 v73 v4).bind fun (v74,v75,v76) =>
        (aF v1 v2).bind fun (v77,v78) =>
        (lV v77 v78 v4).bind fun (v79,v80,v81) =>
        (aF v10 v22).bind fun (v82,v83) =>
        (lV v82 v83 v4).bind fun (v84,v85,v86) =>
        (aL v1 v2 0 0).bind fun (v87,v88,v89,v90) =>
        (aV v87 v88 v89 v90).bind fun (v91,v92,v93) =>
        (aL v10 v22 0 0).bind fun (v94,v95,v96,v97) =>
        (aV v94 v95 v96 v97).bind fun (v98,v99,v100) =>
        if (decide (v69=v76))=true then
         (if ([v67==v74,v68==v75].all id)=true then
          (if (decide (v81=v86))=true then
           (if ([v79==v84,v80==v85].all id)=true then
            (if (decide (v93=v100))=true then
             (some (([v91==v98,v92==v99].all id)))
            else
             (some (false)))
           else
            (some (false)))
          else
           (some (false)))
         else
          (some (false)))
        else
         (some (false))))
   else
    (some (true))))
 else
  (some (true))
end Go.Rex
