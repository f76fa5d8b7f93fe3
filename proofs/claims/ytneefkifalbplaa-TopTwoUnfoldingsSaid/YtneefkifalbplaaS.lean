/- The functions of the program and of the reference,as functions of lists and numbers. -/
import Derived.Test.YtneefkifalbplaaRexG10
set_option linter.unusedSimpArgs false
set_option linter.unusedVariables false
set_option linter.defProp false
namespace Go.Rex
open Go Go.Rex
def e_i(x:Int):List TV:=[.v (.int .i64 x)]
def e_c(x:(Nat×Nat)):List TV:=[.v (.complex .f32 x.1 x.2)]
def e_ii(x:(Int×Int)):List TV:=[.v (.int .i64 x.1),.v (.int .i64 x.2)]
noncomputable def eS(v1:Int)(v2:Int)(v3:Int):Option (Bool):=
 if (decide (v2≤v1))=true then
  (some ((decide (v1≤v3))))
 else
  (some (false))
noncomputable def cS(v1:Int)(v2:(List Int)):(Int)→Option ((Int) ⊕ ((Int) ⊕ (Unit))):=fun v5 =>
 if (decide (v5<(v2.length:Int)))=true then
  ((gR v2 v5).bind fun v10 =>
  (eS v10 1 v1).bind fun v11 =>
  if v11=true then
   (if (decide (v5>0))=true then
    ((gR v2 (IntKind.i64.wrap (v5-1))).bind fun v12 =>
    if (decide (v10≤v12))=true then
     (some (.inr (.inl 9)))
    else
     (some (.inl (IntKind.i64.wrap (v5+1)))))
   else
    (some (.inl (IntKind.i64.wrap (v5+1)))))
  else
   (some (.inr (.inl 2))))
 else
  (some (.inr (.inr ())))
noncomputable def gA(v1:Int)(v2:(List Int)):Option (Int):=
 (eS v1 2 8).bind fun v4 =>
 if v4=true then
  (if (decide ((v2.length:Int)=0))=true then
   (some (10))
  else
   ((run (cS v1 v2) 0).bind fun v13=>match v13 with
   | (.inl v14) =>
    some (v14)
   | (.inr _) =>
    (gR v2 (IntKind.i64.wrap ((v2.length:Int)-1))).bind fun v15 =>
    if (decide (v15≠v1))=true then
     (some (6))
    else
     (some (0))))
 else
  (some (2))
noncomputable def kJ(v1:Int):(Int×Int)→Option ((Int×Int) ⊕ ((Int))):=fun (v4,v5) =>
 if (decide (v5<v1))=true then
  (some (.inl ((IntKind.i64.wrap (2*v4)),(IntKind.i64.wrap (v5+1)))))
 else
  (some (.inr v4))
noncomputable def mP(v1:Int)(v2:(List Int)):Option (Int):=
 (run (kJ v1) (1,0)).bind fun v7 =>
 some ((IntKind.i64.wrap (v7-1)))
noncomputable def gU(v1:Int)(v2:(List Int))(v3:Int):Option (Int):=
 (gA v1 v2).bind fun v5 =>
 if (decide (v5≠0))=true then
  (some (v5))
 else
  ((mP v1 v2).bind fun v6 =>
  (eS v3 1 v6).bind fun v7 =>
  if v7=true then
   (some (0))
  else
   (some (2)))
noncomputable def kK(v2:(List Int))(v7:(List Int))(v8:Int):(Int×Int)→Option ((Int×Int) ⊕ ((Int))):=fun (v21,v22) =>
 if (decide (v22<(v2.length:Int)))=true then
  ((gR v2 v22).bind fun v26 =>
  (gR v7 (IntKind.i64.wrap (v8-v26))).bind fun v27 =>
  some (.inl ((IntKind.i64.wrap (v21+v27)),(IntKind.i64.wrap (v22+1)))))
 else
  (some (.inr v21))
noncomputable def kG(v1:Int)(v2:(List Int))(v4:Int):(Int×(List Int)×Int)→Option ((Int×(List Int)×Int) ⊕ (((List Int)))):=fun (v6,v7,v8) =>
 if (decide (v8<v4))=true then
  (if (decide (v8<v1))=true then
   ((nB 8 v7 ([(v6.tmod 2)]:List Int)).bind fun v20 =>
   some (.inl ((IntKind.i64.wrap (v6.tdiv 2)),v20,(IntKind.i64.wrap (v8+1)))))
  else
   ((run (kK v2 v7 v8) (0,0)).bind fun v28 =>
   (nB 8 v7 ([(v28.tmod 2)]:List Int)).bind fun v29 =>
   some (.inl (v6,v29,(IntKind.i64.wrap (v8+1))))))
 else
  (some (.inr v7))
noncomputable def qN(v1:Int)(v2:(List Int))(v3:Int)(v4:Int):Option ((List Int)):=
 (run (kG v1 v2 v4) (v3,([]:List Int),0)).bind fun v30 =>
 some (v30)
noncomputable def kL(v5:(List Int)):(Int×Int)→Option ((Int×Int) ⊕ ((Int))):=fun (v6,v7) =>
 if (decide (v7≥1))=true then
  ((gR v5 v7).bind fun v10 =>
  some (.inl ((IntKind.i64.wrap ((IntKind.i64.wrap (2*v6))+v10)),(IntKind.i64.wrap (v7-1)))))
 else
  (some (.inr v6))
noncomputable def nY(v1:Int)(v2:(List Int))(v3:Int):Option (Int):=
 (qN v1 v2 v3 (IntKind.i64.wrap (v1+1))).bind fun v5 =>
 (run (kL v5) (0,v1)).bind fun v11 =>
 some (v11)
noncomputable def iN(v1:Int)(v2:(List Int))(v3:Int):(Int×Int)→Option ((Int×Int) ⊕ ((Int))):=fun (v6,v7) =>
 if (decide (v7≠v3))=true then
  ((nY v1 v2 v7).bind fun v10 =>
  some (.inl ((IntKind.i64.wrap (v6+1)),v10)))
 else
  (some (.inr v6))
noncomputable def nJ(v1:Int)(v2:(List Int))(v3:Int):Option (Int):=
 (nY v1 v2 v3).bind fun v5 =>
 (run (iN v1 v2 v3) (1,v5)).bind fun v11 =>
 some (v11)
noncomputable def kA(v1:Int)(v2:(List Int)):Option (Bool):=
 (nJ v1 v2 1).bind fun v4 =>
 (mP v1 v2).bind fun v5 =>
 some ((decide (v4=v5)))
noncomputable def gF(v1:Int)(v2:(List Int))(v3:Int):Option (Bool):=
 if (decide ((v2.length:Int)≤8))=true then
  ((gU v1 v2 v3).bind fun v5 =>
  if (decide (v5=0))=true then
   (if (decide (v1≤5))=true then
    ((kA v1 v2).bind fun v6 =>
    some (v6))
   else
    (some (false)))
  else
   (some (false)))
 else
  (some (false))
noncomputable def pC(v1:Int)(v2:Int):Option (Nat×Nat):=
 some ((FloatKind.f32.nearest (if (if v1<10000 then v1 else 10000)>(-10000) then (if v1<10000 then v1 else 10000) else (-10000))),(FloatKind.f32.nearest (if (if v2<10000 then v2 else 10000)>(-10000) then (if v2<10000 then v2 else 10000) else (-10000))))
noncomputable def eP(v1:(List (Int×Int)))(v2:Int):((List (Nat×Nat))×Int)→Option (((List (Nat×Nat))×Int) ⊕ ((Unit) ⊕ ((List (Nat×Nat))))):=fun (v5,v6) =>
 if (decide (v6<(v1.length:Int)))=true then
  ((gR v1 v6).bind fun (v15,v16) =>
  (eS v15 (IntKind.i64.wrap (0-v2)) v2).bind fun v17 =>
  if v17=true then
   ((eS v16 (IntKind.i64.wrap (0-v2)) v2).bind fun v18 =>
   if v18=true then
    ((pC v15 v16).bind fun (v19,v20) =>
    (nB 8 v5 ([(v19,v20)]:List (Nat×Nat))).bind fun v21 =>
    some (.inl (v21,(IntKind.i64.wrap (v6+1)))))
   else
    (some (.inr (.inl ()))))
  else
   (some (.inr (.inl ()))))
 else
  (some (.inr (.inr v5)))
noncomputable def jQ(v1:(List (Int×Int)))(v2:Int):Option ((List (Nat×Nat))×Bool):=
 (run (eP v1 v2) (([]:List (Nat×Nat)),0)).bind fun v22=>match v22 with
 | (.inl _) =>
  some (([]:List (Nat×Nat)),false)
 | (.inr v23) =>
  some (v23,true)
noncomputable def aD(v1:Bool)(v2:Int):Option (Bool×Int):=
 some (v1,v2)
noncomputable def cF(v1:Int)(v2:Int)(v3:Int):Option (Bool×Int):=
 if (decide (v1<v2))=true then
  ((aD true 2).bind fun (v6,v7) =>
  some (v6,v7))
 else
  ((aD (decide (v1>v3)) 2).bind fun (v8,v9) =>
  some (v8,v9))
noncomputable def aA(v1:Bool)(v2:Int):Option (Int):=
 if v1=true then
  (some (v2))
 else
  (some (0))
noncomputable def aQ(v1:Bool)(v2:Int)(v3:Bool)(v4:Int):Option (Int):=
 (aA v1 v2).bind fun v6 =>
 if (decide (v6≠0))=true then
  (some (v6))
 else
  ((aA v3 v4).bind fun v7 =>
  if (decide (v7≠0))=true then
   (some (v7))
  else
   (some (0)))
noncomputable def eH(v1:Int)(v2:Int):Option (Int):=
 if v2=0 then none else
 (some (((IntKind.i64.wrap ((v1.tmod v2)+v2)).tmod v2)))
noncomputable def dV(v1:Int):(Int)→Option ((Int) ⊕ ((Unit) ⊕ (Unit))):=fun v3 =>
 if (decide ((IntKind.i64.wrap (v3*v3))≤v1))=true then
  (if v3=0 then none else
  (if (decide ((v1.tmod v3)=0))=true then
   (some (.inr (.inl ())))
  else
   (some (.inl (IntKind.i64.wrap (v3+1))))))
 else
  (some (.inr (.inr ())))
noncomputable def kH(v1:Int):Option (Bool):=
 (run (dV v1) 2).bind fun v4=>match v4 with
 | (.inl _) =>
  some (false)
 | (.inr _) =>
  some (true)
noncomputable def aS(v1:Int)(v2:Int)(v3:Int)(v4:Int)(v5:Int):Option (Int):=
 if v1=0 then none else
 (some (((IntKind.i64.wrap (v4*v5)).tmod v1)))
noncomputable def cP(v1:Int)(v2:Int)(v3:Int):(Int×Int×Int)→Option ((Int×Int×Int) ⊕ ((Int))):=fun (v7,v8,v9) =>
 if (decide (v8>0))=true then
  (if (decide ((v8.tmod 2)=1))=true then
   ((aS v1 v2 v3 v9 v7).bind fun v14 =>
   (aS v1 v2 v3 v7 v7).bind fun v15 =>
   some (.inl (v15,(IntKind.i64.wrap (v8.tdiv 2)),v14)))
  else
   ((aS v1 v2 v3 v7 v7).bind fun v16 =>
   some (.inl (v16,(IntKind.i64.wrap (v8.tdiv 2)),v9))))
 else
  (some (.inr v9))
noncomputable def eD(v1:Int)(v2:Int)(v3:Int)(v4:Int)(v5:Int):Option (Int):=
 (run (cP v1 v2 v3) (v4,v5,1)).bind fun v17 =>
 some (v17)
noncomputable def cJ(v1:Int)(v2:Int)(v3:Int):(Int×Int)→Option ((Int×Int) ⊕ ((Int×Int))):=fun (v5,v6) =>
 if (decide (v5≠1))=true then
  (if (decide (v6<v3))=true then
   ((aS v1 v2 v3 v5 v2).bind fun v10 =>
   some (.inl (v10,(IntKind.i64.wrap (v6+1)))))
  else
   (some (.inr (v5,v6))))
 else
  (some (.inr (v5,v6)))
noncomputable def cQ(v1:Int)(v2:Int)(v3:Int):Option (Bool):=
 (run (cJ v1 v2 v3) (v2,1)).bind fun (v11,v12) =>
 if (decide (v11=1))=true then
  (some ((decide (v12=v3))))
 else
  (some (false))
noncomputable def iP(v1:Int)(v2:Int):(Int)→Option ((Int) ⊕ ((Int))):=fun v6 =>
 if v1=0 then none else
 ((eD v2 0 v1 v6 (IntKind.i64.wrap ((IntKind.i64.wrap (v2-1)).tdiv v1))).bind fun v10 =>
 (cQ v2 v10 v1).bind fun v11 =>
 if v11=true then
  (some (.inr v10))
 else
  (some (.inl (IntKind.i64.wrap (v6+1)))))
noncomputable def pP(v1:Int)(v2:Int):Option (Int×Int×Int):=
 (run (iP v1 v2) 1).bind fun v12 =>
 some (v2,v12,v1)
noncomputable def fC(v1:Int):(Int)→Option ((Int) ⊕ ((Int×Int×Int) ⊕ (Unit))):=fun v13 =>
 if (decide (v13≤2147483647))=true then
  ((kH v13).bind fun v21 =>
  if v21=true then
   ((pP v1 v13).bind fun (v22,v23,v24) =>
   some (.inr (.inl (v22,v23,v24))))
  else
   (some (.inl (IntKind.i64.wrap (v13+v1)))))
 else
  (some (.inr (.inr ())))
noncomputable def lV(v1:Int)(v2:Int):Option (Int×Int×Int×Int):=
 (cF v1 1 1024).bind fun (v7,v8) =>
 (cF v2 2 2147483647).bind fun (v9,v10) =>
 (aQ v7 v8 v9 v10).bind fun v11 =>
 if (decide (v11≠0))=true then
  (some (0,0,0,v11))
 else
  ((eH (IntKind.i64.wrap (1-v2)) v1).bind fun v12 =>
  (run (fC v1) (IntKind.i64.wrap (v2+v12))).bind fun v25=>match v25 with
  | (.inl (v26,v27,v28)) =>
   some (v26,v27,v28,0)
  | (.inr _) =>
   some (0,0,0,12))
noncomputable def iZ(v1:(List (Nat×Nat))):Option ((List (Nat×Nat))):=
 (nB 8 ([]:List (Nat×Nat)) v1).bind fun v3 =>
 some (v3)
noncomputable def mB(v1:(List Int)):Option ((List Int)):=
 (nB 8 ([]:List Int) v1).bind fun v3 =>
 some (v3)
noncomputable def lB(v1:Int)(v2:(List Int)):Option (Int×(List Int)):=
 (mB v2).bind fun v5 =>
 some (v1,v5)
noncomputable def iT(v1:(List (Nat×Nat))):Option ((List (Nat×Nat))):=
 some (v1)
noncomputable def aZ(v1:Int)(v2:(List Int))(v3:Int):Option (Int×Int×(List Int)):=
 some (v3,v1,v2)
noncomputable def mJ(v1:Int)(v2:(List (Nat×Nat))):Option (Int×(List (Nat×Nat))):=
 some (v1,v2)
noncomputable def mL(v1:Nat):Option (Nat):=
 (trI .zero v1).bind fun v3 =>
 some (v3)
noncomputable def zM(v1:Nat):Option (Nat):=
 (fbits .f64 v1).bind fun v3 =>
 some (((xH .andNot .u64 v3 9223372036854775808)).toNat)
noncomputable def oH(v1:Nat)(v2:Int):Option (Bool):=
 if (decide (v2=0))=true then
  ((zM v1).bind fun v4 =>
  some ((fcmp .gtr .f64 v4 9218868437227405311)))
 else
  (if (decide (v2<0))=true then
   (some ((fcmp .gtr .f64 (Op.negFloat .f64 v1) 9218868437227405311)))
  else
   (some ((fcmp .gtr .f64 v1 9218868437227405311))))
noncomputable def jC(v1:Nat):Option (Bool):=
 (f2f .f32 v1 .f64).bind fun v3 =>
 (mL v3).bind fun v4 =>
 if (fcmp .eql .f64 v3 v4)=true then
  ((oH v3 0).bind fun v5 =>
  some ((!v5)))
 else
  (some (false))
noncomputable def aX(v1:Nat)(v2:Nat):Option (Bool):=
 if (fcmp .leq .f32 (Op.negFloat .f32 v2) v1)=true then
  (some ((fcmp .leq .f32 v1 v2)))
 else
  (some (false))
noncomputable def lZ(v1:Nat)(v2:Nat):Option (Int):=
 (jC v1).bind fun v4 =>
 if v4=true then
  ((jC v2).bind fun v5 =>
  (aD (!v5) 27).bind fun (v6,v7) =>
  (aX v1 1266679808).bind fun v8 =>
  if v8=true then
   ((aX v2 1266679808).bind fun v9 =>
   (aD (!v9) 2).bind fun (v10,v11) =>
   (aQ v6 v7 v10 v11).bind fun v12 =>
   some (v12))
  else
   ((aD true 2).bind fun (v13,v14) =>
   (aQ v6 v7 v13 v14).bind fun v15 =>
   some (v15)))
 else
  ((aD true 27).bind fun (v16,v17) =>
  (aX v1 1266679808).bind fun v18 =>
  if v18=true then
   ((aX v2 1266679808).bind fun v19 =>
   (aD (!v19) 2).bind fun (v20,v21) =>
   (aQ v16 v17 v20 v21).bind fun v22 =>
   some (v22))
  else
   ((aD true 2).bind fun (v23,v24) =>
   (aQ v16 v17 v23 v24).bind fun v25 =>
   some (v25)))
noncomputable def fR(v1:Int)(v2:(List (Nat×Nat))):Option (Int):=
 (gR v2 v1).bind fun (v4,v5) =>
 (lZ v4 v5).bind fun v6 =>
 some (v6)
noncomputable def bM(v1:Int)(v2:(List (Nat×Nat))):(Int)→Option ((Int) ⊕ ((Int) ⊕ (Unit))):=fun v4 =>
 if (decide (v4<v1))=true then
  ((fR v4 v2).bind fun v7 =>
  if (decide (v7≠0))=true then
   (some (.inr (.inl v7)))
  else
   (some (.inl (IntKind.i64.wrap (v4+1)))))
 else
  (some (.inr (.inr ())))
noncomputable def jR(v1:Int)(v2:(List (Nat×Nat))):Option (Int):=
 (run (bM v1 v2) 0).bind fun v8=>match v8 with
 | (.inl v9) =>
  some (v9)
 | (.inr _) =>
  some (0)
noncomputable def iH(v1:Bool)(v2:Int)(v3:Bool)(v4:Int)(v5:Int)(v6:(List (Nat×Nat))):Option (Int):=
 (aA v1 v2).bind fun v8 =>
 if (decide (v8≠0))=true then
  (some (v8))
 else
  ((aA v3 v4).bind fun v9 =>
  if (decide (v9≠0))=true then
   (some (v9))
  else
   ((jR v5 v6).bind fun v10 =>
   if (decide (v10≠0))=true then
    (some (v10))
   else
    (some (0))))
noncomputable def cM(v1:(List (Nat×Nat))):Option (Int):=
 (aD (decide ((v1.length:Int)=0)) 10).bind fun (v3,v4) =>
 (aD (decide ((v1.length:Int)>1024)) 8).bind fun (v5,v6) =>
 (mJ (v1.length:Int) v1).bind fun (v7,v8) =>
 (iH v3 v4 v5 v6 v7 v8).bind fun v9 =>
 some (v9)
noncomputable def mH(v1:Int)(v2:(List Int))(v3:Int)(v4:Int):Option (Int×(List Int)×Int×Int):=
 some (v1,v2,v3,v4)
noncomputable def mG(v1:(List Int))(v2:Int)(v3:Int):Option (Int×(List Int)×Int×Int):=
 (mH (v1.length:Int) v1 v2 v3).bind fun (v8,v9,v10,v11) =>
 some (v8,v9,v10,v11)
noncomputable def cH(v1:(List Int))(v2:Int):(Int)→Option ((Int) ⊕ ((Int) ⊕ (Unit))):=fun v4 =>
 if (decide (v4<(v1.length:Int)))=true then
  ((gR v1 v4).bind fun v7 =>
  if (decide (v2=v7))=true then
   (some (.inr (.inl v4)))
  else
   (some (.inl (IntKind.i64.wrap (v4+1)))))
 else
  (some (.inr (.inr ())))
noncomputable def iV(v1:(List Int))(v2:Int):Option (Int):=
 (run (cH v1 v2) 0).bind fun v8=>match v8 with
 | (.inl v9) =>
  some (v9)
 | (.inr _) =>
  some ((-1))
noncomputable def dT(v1:(List Int))(v2:Int):Option (Bool):=
 (iV v1 v2).bind fun v4 =>
 some ((decide (v4≥0)))
noncomputable def dR(v1:Int)(v2:(List Int))(v3:Int)(v4:Int):Option (Int):=
 (gR v2 v1).bind fun v6 =>
 (cF v6 v3 v4).bind fun (v7,v8) =>
 if (decide (v1>0))=true then
  ((gR v2 (IntKind.i64.wrap (v1-1))).bind fun v9 =>
  (aD (decide (v6≤v9)) 9).bind fun (v10,v11) =>
  (aQ v7 v8 v10 v11).bind fun v12 =>
  some (v12))
 else
  ((aD false 9).bind fun (v13,v14) =>
  (aQ v7 v8 v13 v14).bind fun v15 =>
  some (v15))
noncomputable def dG(v1:Int)(v2:(List Int))(v3:Int)(v4:Int):(Int)→Option ((Int) ⊕ ((Int) ⊕ (Unit))):=fun v6 =>
 if (decide (v6<v1))=true then
  ((dR v6 v2 v3 v4).bind fun v9 =>
  if (decide (v9≠0))=true then
   (some (.inr (.inl v9)))
  else
   (some (.inl (IntKind.i64.wrap (v6+1)))))
 else
  (some (.inr (.inr ())))
noncomputable def jW(v1:Int)(v2:(List Int))(v3:Int)(v4:Int):Option (Int):=
 (run (dG v1 v2 v3 v4) 0).bind fun v10=>match v10 with
 | (.inl v11) =>
  some (v11)
 | (.inr _) =>
  some (0)
noncomputable def iJ(v1:Bool)(v2:Int)(v3:Bool)(v4:Int)(v5:Int)(v6:(List Int))(v7:Int)(v8:Int)(v9:Bool)(v10:Int):Option (Int):=
 (aA v1 v2).bind fun v12 =>
 if (decide (v12≠0))=true then
  (some (v12))
 else
  ((aA v3 v4).bind fun v13 =>
  if (decide (v13≠0))=true then
   (some (v13))
  else
   ((jW v5 v6 v7 v8).bind fun v14 =>
   if (decide (v14≠0))=true then
    (some (v14))
   else
    ((aA v9 v10).bind fun v15 =>
    if (decide (v15≠0))=true then
     (some (v15))
    else
     (some (0)))))
noncomputable def fY(v1:Int)(v2:(List Int)):Option (Int):=
 (cF v1 2 8).bind fun (v4,v5) =>
 (aD (decide ((v2.length:Int)=0)) 10).bind fun (v6,v7) =>
 (mG v2 1 v1).bind fun (v8,v9,v10,v11) =>
 (dT v2 v1).bind fun v12 =>
 (aD (!v12) 6).bind fun (v13,v14) =>
 (iJ v4 v5 v6 v7 v8 v9 v10 v11 v13 v14).bind fun v15 =>
 some (v15)
noncomputable def cC(v1:Int)(v2:(List Int)):Option (Int):=
 (fY v1 v2).bind fun v4 =>
 some (v4)
noncomputable def aE(v1:Int)(v2:(List Int)):Option (Int):=
 (shI .shl .i64 1 v1).bind fun v4 =>
 some ((IntKind.i64.wrap (v4-1)))
noncomputable def aR(v1:Int)(v2:Int)(v3:(List Int)):Option (Int):=
 (aE v2 v3).bind fun v5 =>
 (cF v1 1 v5).bind fun (v6,v7) =>
 (aA v6 v7).bind fun v8 =>
 some (v8)
noncomputable def cK(v1:Int)(v2:(List Int))(v3:Int):(Int×Int)→Option ((Int×Int) ⊕ ((Int))):=fun (v5,v6) =>
 if (decide (v6<(v2.length:Int)))=true then
  ((gR v2 v6).bind fun v10 =>
  (shI .shr .i64 v3 (IntKind.i64.wrap (v1-v10))).bind fun v11 =>
  some (.inl ((xH .xor .i64 v5 (xH .and .i64 v11 1)),(IntKind.i64.wrap (v6+1)))))
 else
  (some (.inr v5))
noncomputable def dS(v1:Int)(v2:(List Int))(v3:Int):Option (Int):=
 (run (cK v1 v2 v3) (0,0)).bind fun v12 =>
 (shI .shr .i64 v3 1).bind fun v13 =>
 (shI .shl .i64 v12 (IntKind.i64.wrap (v1-1))).bind fun v14 =>
 some ((xH .or .i64 v13 v14))
noncomputable def eC(v1:Int)(v2:(List Int))(v3:Int):Option (Int×Int×(List Int)):=
 some (v3,v1,v2)
noncomputable def aV{X:Type}(H:(Int)→X→Option (Bool×X))(v2:Int)(v3:(List Int)):(Int×X)→Option ((Int×X) ⊕ ((X))):=fun (v5,v6) =>
 (H v5 v6).bind fun (v11,v12) =>
 if v11=true then
  ((dS v2 v3 v5).bind fun v13 =>
  some (.inl (v13,v12)))
 else
  (some (.inr v12))
noncomputable def aK(v1:Int)(v2:Int)(v3:(List Int)){X:Type}(H:(Int)→X→Option (Bool×X))(v4:X):Option X:=
 (run (aV H v2 v3) (v1,v4)).bind fun v14 =>
 some v14
noncomputable def cW(v3:Int):((Int))→(Int)→Option ((Int) ⊕ ((Int))):=fun v12 v9 =>
 if (decide (v12=v3))=true then
  (some (.inr v9))
 else
  (some (.inl (IntKind.i64.wrap (v9+1))))
noncomputable def eN(v1:Int)(v2:(List Int))(v3:Int):Option (Int):=
 (dS v1 v2 v3).bind fun v5 =>
 (eC v1 v2 v5).bind fun (v6,v7,v8) =>
 (aK v6 v7 v8 (hand (cW v3)) (.inl 1)).bind fun v13=>match v13 with
 | .inl v14 =>
  some (v14)
 | .inr v15 =>
  some (v15)
noncomputable def eY(v1:Int)(v2:(List Int)):Option (Bool):=
 (eN v1 v2 1).bind fun v4 =>
 (aE v1 v2).bind fun v5 =>
 some ((decide (v4=v5)))
noncomputable def cG(v1:Int)(v2:(List Int)):Option (Int):=
 (eY v1 v2).bind fun v4 =>
 (aD (!v4) 22).bind fun (v5,v6) =>
 (aA v5 v6).bind fun v7 =>
 some (v7)
noncomputable def eJ(v1:(List (Nat×Nat)))(v2:Int)(v3:(List Int)):Option (Int):=
 (aE v2 v3).bind fun v5 =>
 (aD (decide ((v1.length:Int)≠v5)) 13).bind fun (v6,v7) =>
 (aA v6 v7).bind fun v8 =>
 some (v8)
noncomputable def iG(v1:(List (Nat×Nat)))(v2:Int)(v3:(List Int))(v4:Int)(v5:Int)(v6:(List Int))(v7:Int)(v8:(List Int))(v9:(List (Nat×Nat)))(v10:Int)(v11:(List Int)):Option (Int):=
 (cM v1).bind fun v13 =>
 if (decide (v13≠0))=true then
  (some (v13))
 else
  ((cC v2 v3).bind fun v14 =>
  if (decide (v14≠0))=true then
   (some (v14))
  else
   ((aR v4 v5 v6).bind fun v15 =>
   if (decide (v15≠0))=true then
    (some (v15))
   else
    ((cG v7 v8).bind fun v16 =>
    if (decide (v16≠0))=true then
     (some (v16))
    else
     ((eJ v9 v10 v11).bind fun v17 =>
     if (decide (v17≠0))=true then
      (some (v17))
     else
      (some (0))))))
noncomputable def dQ(v4:Int):((Int))→((List Int))→Option (((List Int)) ⊕ (((List Int)))):=fun v13 v9 =>
 if (decide ((v9.length:Int)=v4))=true then
  (some (.inr v9))
 else
  ((nB 8 v9 ([(xH .and .i64 v13 1)]:List Int)).bind fun v14 =>
  some (.inl v14))
noncomputable def fN(v1:Int)(v2:(List Int))(v3:Int)(v4:Int):Option ((List Int)):=
 (eC v1 v2 v3).bind fun (v6,v7,v8) =>
 (aK v6 v7 v8 (hand (dQ v4)) (.inl ([]:List Int))).bind fun v15=>match v15 with
 | .inl v16 =>
  some (v16)
 | .inr v17 =>
  some (v17)
noncomputable def dL(v6:(List Int)):((List Int)×Int)→Option (((List Int)×Int) ⊕ (((List Int)))):=fun (v7,v8) =>
 if (decide (v8<(v6.length:Int)))=true then
  ((gR v7 v8).bind fun v11 =>
  some (.inl ((v7.set v8.toNat (IntKind.i64.wrap (1-(IntKind.i64.wrap (2*v11))))),(IntKind.i64.wrap (v8+1)))))
 else
  (some (.inr v7))
noncomputable def cB(v1:Int)(v2:(List Int))(v3:Int):Option ((List Int)):=
 (aE v1 v2).bind fun v5 =>
 (fN v1 v2 v3 v5).bind fun v6 =>
 (run (dL v6) (v6,0)).bind fun v12 =>
 some (v12)
noncomputable def bG(v1:Int)(v2:(List Int))(v3:Int):Option ((List Int)):=
 (cB v1 v2 v3).bind fun v5 =>
 some (v5)
noncomputable def nH(v1:Nat)(v2:Nat):Option (Int×Int):=
 (f2i .f32 v1 .i64).bind fun v5 =>
 (f2i .f32 v2 .i64).bind fun v6 =>
 some (v5,v6)
noncomputable def fA(v1:(List (Nat×Nat))):((List (Int×Int))×Int)→Option (((List (Int×Int))×Int) ⊕ (((List (Int×Int))))):=fun (v3,v4) =>
 if (decide (v4<(v1.length:Int)))=true then
  ((gR v1 v4).bind fun (v11,v12) =>
  (nH v11 v12).bind fun (v13,v14) =>
  (nB 16 v3 ([(v13,v14)]:List (Int×Int))).bind fun v15 =>
  some (.inl (v15,(IntKind.i64.wrap (v4+1)))))
 else
  (some (.inr v3))
noncomputable def cR(v1:(List (Nat×Nat))):Option ((List (Int×Int))):=
 (run (fA v1) (([]:List (Int×Int)),0)).bind fun v16 =>
 some (v16)
noncomputable def bB(v1:Int)(v2:(List Int)):Option (Int):=
 (eH v1 (v2.length:Int)).bind fun v4 =>
 (gR v2 v4).bind fun v5 =>
 some (v5)
noncomputable def eG(v1:Int)(v2:Int)(v3:(List Int)):Option (Int):=
 (bB (IntKind.i64.wrap (v2-v1)) v3).bind fun v5 =>
 some ((IntKind.i64.wrap (v5-1)))
noncomputable def cU(v1:Int)(v2:Int)(v3:Int):Option (Int×Int):=
 some ((IntKind.i64.wrap (v1*v3)),(IntKind.i64.wrap (v2*v3)))
noncomputable def cY(v1:Int)(v2:Int)(v3:Int)(v4:Int):Option (Int×Int):=
 some ((IntKind.i64.wrap (v1+v3)),(IntKind.i64.wrap (v2+v4)))
noncomputable def bL(v1:(List (Int×Int)))(v2:(List Int))(v6:Int):((List (Int×Int))×Int)→Option (((List (Int×Int))×Int) ⊕ (((List (Int×Int))))):=fun (v30,v31) =>
 if (decide (v31<(v1.length:Int)))=true then
  ((gR v1 v31).bind fun (v42,v43) =>
  (gR v30 v6).bind fun (v44,v45) =>
  (eG v6 v31 v2).bind fun v46 =>
  (cU v42 v43 v46).bind fun (v47,v48) =>
  (cY v44 v45 v47 v48).bind fun (v49,v50) =>
  some (.inl ((v30.set v6.toNat (v49,v50)),(IntKind.i64.wrap (v31+1)))))
 else
  (some (.inr v30))
noncomputable def dF(v1:(List (Int×Int)))(v2:(List Int))(v4:(List (Int×Int))):((List (Int×Int))×Int)→Option (((List (Int×Int))×Int) ⊕ (((List (Int×Int))))):=fun (v5,v6) =>
 if (decide (v6<(v4.length:Int)))=true then
  ((run (bL v1 v2 v6) (v5,0)).bind fun v51 =>
  some (.inl (v51,(IntKind.i64.wrap (v6+1)))))
 else
  (some (.inr v5))
noncomputable def eZ(v1:(List (Int×Int)))(v2:(List Int)):Option ((List (Int×Int))):=
 (mkI 16 (v1.length:Int) ((0,0):(Int×Int))).bind fun v4 =>
 (run (dF v1 v2 v4) (v4,0)).bind fun v52 =>
 some (v52)
noncomputable def gH(v1:(List (Int×Int)))(v2:Int):((List (Int×Int))×Int)→Option (((List (Int×Int))×Int) ⊕ ((Unit) ⊕ ((List (Int×Int))))):=fun (v5,v6) =>
 if (decide (v6<(v1.length:Int)))=true then
  ((gR v1 v6).bind fun (v11,v12) =>
  if v2=0 then none else
  (if (decide ((v11.tmod v2)≠0))=true then
   (some (.inr (.inl ())))
  else
   (if (decide ((v12.tmod v2)≠0))=true then
    (some (.inr (.inl ())))
   else
    ((nB 16 v5 ([((IntKind.i64.wrap (v11.tdiv v2)),(IntKind.i64.wrap (v12.tdiv v2)))]:List (Int×Int))).bind fun v13 =>
    some (.inl (v13,(IntKind.i64.wrap (v6+1))))))))
 else
  (some (.inr (.inr v5)))
noncomputable def kF(v1:(List (Int×Int)))(v2:Int):Option ((List (Int×Int))×Bool):=
 (run (gH v1 v2) (([]:List (Int×Int)),0)).bind fun v14=>match v14 with
 | (.inl _) =>
  some (([]:List (Int×Int)),false)
 | (.inr v15) =>
  some (v15,true)
noncomputable def mK(v1:Int)(v2:(List (Int×Int))):Option (Int×(List (Int×Int))):=
 some (v1,v2)
noncomputable def fT(v1:Int)(v2:Int):Option (Bool):=
 if (decide ((IntKind.i64.wrap (0-v2))≤v1))=true then
  (some ((decide (v1≤v2))))
 else
  (some (false))
noncomputable def gX(v1:Int)(v2:Int)(v3:Int):Option (Bool×Int):=
 (fT v1 v3).bind fun v6 =>
 if v6=true then
  ((fT v2 v3).bind fun v7 =>
  (aD (!v7) 8).bind fun (v8,v9) =>
  some (v8,v9))
 else
  ((aD true 8).bind fun (v10,v11) =>
  some (v10,v11))
noncomputable def gC(v1:Int)(v2:(List (Int×Int))):Option (Int):=
 (gR v2 v1).bind fun (v4,v5) =>
 (gX v4 v5 16777216).bind fun (v6,v7) =>
 (aA v6 v7).bind fun v8 =>
 some (v8)
noncomputable def cA(v1:Int)(v2:(List (Int×Int))):(Int)→Option ((Int) ⊕ ((Int) ⊕ (Unit))):=fun v4 =>
 if (decide (v4<v1))=true then
  ((gC v4 v2).bind fun v7 =>
  if (decide (v7≠0))=true then
   (some (.inr (.inl v7)))
  else
   (some (.inl (IntKind.i64.wrap (v4+1)))))
 else
  (some (.inr (.inr ())))
noncomputable def jY(v1:Int)(v2:(List (Int×Int))):Option (Int):=
 (run (cA v1 v2) 0).bind fun v8=>match v8 with
 | (.inl v9) =>
  some (v9)
 | (.inr _) =>
  some (0)
noncomputable def eA(v1:(List (Int×Int))):((List (Nat×Nat))×Int)→Option (((List (Nat×Nat))×Int) ⊕ (((List (Nat×Nat))))):=fun (v7,v8) =>
 if (decide (v8<(v1.length:Int)))=true then
  ((gR v1 v8).bind fun (v13,v14) =>
  (nB 8 v7 ([((FloatKind.f32.nearest v13),(FloatKind.f32.nearest v14))]:List (Nat×Nat))).bind fun v15 =>
  some (.inl (v15,(IntKind.i64.wrap (v8+1)))))
 else
  (some (.inr v7))
noncomputable def bV(v1:(List (Int×Int))):Option ((List (Nat×Nat))×Int):=
 (mK (v1.length:Int) v1).bind fun (v4,v5) =>
 (jY v4 v5).bind fun v6 =>
 if (decide (v6≠0))=true then
  (some (([]:List (Nat×Nat)),v6))
 else
  ((run (eA v1) (([]:List (Nat×Nat)),0)).bind fun v16 =>
  some (v16,0))
noncomputable def jL(v1:(List (Nat×Nat)))(v2:Int)(v3:(List Int))(v4:Int):Option ((List (Nat×Nat))×Int):=
 (iT v1).bind fun v7 =>
 (aZ v2 v3 v4).bind fun (v8,v9,v10) =>
 (iG v7 v2 v3 v8 v9 v10 v2 v3 v1 v2 v3).bind fun v11 =>
 if (decide (v11≠0))=true then
  (some (([]:List (Nat×Nat)),v11))
 else
  ((bG v2 v3 v4).bind fun v12 =>
  (cR v1).bind fun v13 =>
  (eZ v13 v12).bind fun v14 =>
  (aE v2 v3).bind fun v15 =>
  (kF v14 (IntKind.i64.wrap (v15+1))).bind fun (v16,v17) =>
  if v17=true then
   ((bV v16).bind fun (v18,v19) =>
   some (v18,v19))
  else
   (some (([]:List (Nat×Nat)),20)))
noncomputable def nE(v1:Int)(v2:(List Int))(v3:Int):Option (Int×(List Int)×Int):=
 (lB v1 v2).bind fun (v7,v8) =>
 some (v7,v8,v3)
noncomputable def fG(v1:Int)(v2:Int)(v3:Int):Option (Int):=
 (kH v1).bind fun v5 =>
 (aD (!v5) 15).bind fun (v6,v7) =>
 (aA v6 v7).bind fun v8 =>
 some (v8)
noncomputable def fE(v1:Int)(v2:Int)(v3:Int):Option (Int):=
 if v3=0 then none else
 ((aD (decide (((IntKind.i64.wrap (v1-1)).tmod v3)≠0)) 13).bind fun (v5,v6) =>
 (aA v5 v6).bind fun v7 =>
 some (v7))
noncomputable def fF(v1:Int)(v2:Int)(v3:Int):Option (Int):=
 (cQ v1 v2 v3).bind fun v5 =>
 (aD (!v5) 20).bind fun (v6,v7) =>
 (aA v6 v7).bind fun v8 =>
 some (v8)
noncomputable def iD(v1:Bool)(v2:Int)(v3:Bool)(v4:Int)(v5:Bool)(v6:Int)(v7:Int)(v8:Int)(v9:Int)(v10:Int)(v11:Int)(v12:Int)(v13:Int)(v14:Int)(v15:Int):Option (Int):=
 (aA v1 v2).bind fun v17 =>
 if (decide (v17≠0))=true then
  (some (v17))
 else
  ((aA v3 v4).bind fun v18 =>
  if (decide (v18≠0))=true then
   (some (v18))
  else
   ((aA v5 v6).bind fun v19 =>
   if (decide (v19≠0))=true then
    (some (v19))
   else
    ((fG v7 v8 v9).bind fun v20 =>
    if (decide (v20≠0))=true then
     (some (v20))
    else
     ((fE v10 v11 v12).bind fun v21 =>
     if (decide (v21≠0))=true then
      (some (v21))
     else
      ((fF v13 v14 v15).bind fun v22 =>
      if (decide (v22≠0))=true then
       (some (v22))
      else
       (some (0)))))))
noncomputable def gE(v1:Int)(v2:Int)(v3:Int):Option (Int):=
 (cF v1 2 2147483647).bind fun (v5,v6) =>
 (cF v3 1 1024).bind fun (v7,v8) =>
 (cF v2 1 (IntKind.i64.wrap (v1-1))).bind fun (v9,v10) =>
 (iD v5 v6 v7 v8 v9 v10 v1 v2 v3 v1 v2 v3 v1 v2 v3).bind fun v11 =>
 some (v11)
noncomputable def kR(v1:Int)(v2:Int)(v3:Int):Option (Int):=
 (gE v1 v2 v3).bind fun v5 =>
 some (v5)
noncomputable def dK(v1:(List (Nat×Nat)))(v2:Int)(v3:(List Int))(v4:Int)(v5:Int)(v6:Int):Option (Int):=
 (aE v2 v3).bind fun v8 =>
 if (decide ((v1.length:Int)≠v8))=true then
  ((aD true 13).bind fun (v9,v10) =>
  (aA v9 v10).bind fun v11 =>
  some (v11))
 else
  ((aE v2 v3).bind fun v12 =>
  (aD (decide (v6≠v12)) 13).bind fun (v13,v14) =>
  (aA v13 v14).bind fun v15 =>
  some (v15))
noncomputable def gZ(v1:(List (Nat×Nat)))(v2:Int)(v3:(List Int))(v4:Int)(v5:Int)(v6:(List Int))(v7:Int)(v8:Int)(v9:Int)(v10:Int)(v11:(List Int))(v12:(List (Nat×Nat)))(v13:Int)(v14:(List Int))(v15:Int)(v16:Int)(v17:Int):Option (Int):=
 (cM v1).bind fun v19 =>
 if (decide (v19≠0))=true then
  (some (v19))
 else
  ((cC v2 v3).bind fun v20 =>
  if (decide (v20≠0))=true then
   (some (v20))
  else
   ((aR v4 v5 v6).bind fun v21 =>
   if (decide (v21≠0))=true then
    (some (v21))
   else
    ((kR v7 v8 v9).bind fun v22 =>
    if (decide (v22≠0))=true then
     (some (v22))
    else
     ((cG v10 v11).bind fun v23 =>
     if (decide (v23≠0))=true then
      (some (v23))
     else
      ((dK v12 v13 v14 v15 v16 v17).bind fun v24 =>
      if (decide (v24≠0))=true then
       (some (v24))
      else
       (some (0)))))))
noncomputable def dE(v1:Int)(v2:Int)(v3:Int):((List Int))→Option (((List Int)) ⊕ (((List Int)))):=fun v5 =>
 if (decide ((v5.length:Int)<v3))=true then
  ((gR v5 (IntKind.i64.wrap ((v5.length:Int)-1))).bind fun v10 =>
  (aS v1 v2 v3 v10 v2).bind fun v11 =>
  (nB 8 v5 ([v11]:List Int)).bind fun v12 =>
  some (.inl v12))
 else
  (some (.inr v5))
noncomputable def gK(v1:Int)(v2:Int)(v3:Int):Option ((List Int)):=
 (run (dE v1 v2 v3) ([1]:List Int)).bind fun v13 =>
 some (v13)
noncomputable def bJ(v1:Int)(v2:Int)(v3:Int)(v4:(List Int))(v6:(List Int))(v9:Int):((List Int)×Int)→Option (((List Int)×Int) ⊕ (((List Int)))):=fun (v26,v27) =>
 if (decide (v27<(v4.length:Int)))=true then
  ((gR v4 v27).bind fun v34 =>
  (gR v26 v9).bind fun v35 =>
  (eH v34 v1).bind fun v36 =>
  if v3=0 then none else
  ((gR v6 ((IntKind.i64.wrap (v27*v9)).tmod v3)).bind fun v37 =>
  (aS v1 v2 v3 v36 v37).bind fun v38 =>
  some (.inl ((v26.set v9.toNat (IntKind.i64.wrap (v35+v38))),(IntKind.i64.wrap (v27+1))))))
 else
  (some (.inr v26))
noncomputable def bX(v1:Int)(v2:Int)(v3:Int)(v4:(List Int))(v6:(List Int))(v7:(List Int)):((List Int)×Int)→Option (((List Int)×Int) ⊕ (((List Int)))):=fun (v8,v9) =>
 if (decide (v9<(v7.length:Int)))=true then
  ((run (bJ v1 v2 v3 v4 v6 v9) (v8,0)).bind fun v39 =>
  (gR v39 v9).bind fun v40 =>
  if v1=0 then none else
  (some (.inl ((v39.set v9.toNat (v40.tmod v1)),(IntKind.i64.wrap (v9+1))))))
 else
  (some (.inr v8))
noncomputable def bE(v1:Int)(v2:Int)(v3:Int)(v4:(List Int)):Option ((List Int)):=
 (gK v1 v2 v3).bind fun v6 =>
 (mkI 8 v3 (0:Int)).bind fun v7 =>
 (run (bX v1 v2 v3 v4 v6 v7) (v7,0)).bind fun v41 =>
 some (v41)
noncomputable def gM(v1:(List (Int×Int))):((List Int)×(List Int)×Int)→Option (((List Int)×(List Int)×Int) ⊕ (((List Int)×(List Int)))):=fun (v4,v5,v6) =>
 if (decide (v6<(v1.length:Int)))=true then
  ((gR v1 v6).bind fun (v13,v14) =>
  (nB 8 v4 ([v13]:List Int)).bind fun v15 =>
  (nB 8 v5 ([v14]:List Int)).bind fun v16 =>
  some (.inl (v15,v16,(IntKind.i64.wrap (v6+1)))))
 else
  (some (.inr (v4,v5)))
noncomputable def mT(v1:(List (Int×Int))):Option ((List Int)×(List Int)):=
 (run (gM v1) (([]:List Int),([]:List Int),0)).bind fun (v17,v18) =>
 some (v17,v18)
noncomputable def cX(v1:Int)(v2:Int)(v3:Int)(v4:Int):Option (Int):=
 (eD v1 v2 v3 v4 (IntKind.i64.wrap (v1-2))).bind fun v6 =>
 some (v6)
noncomputable def bQ(v1:Int)(v2:Int)(v3:Int)(v4:(List Int))(v5:(List Int)):((List Int)×Int)→Option (((List Int)×Int) ⊕ (((List Int)))):=fun (v7,v8) =>
 if (decide (v8<(v4.length:Int)))=true then
  ((gR v4 v8).bind fun v15 =>
  (gR v5 v8).bind fun v16 =>
  (cX v1 v2 v3 v16).bind fun v17 =>
  (aS v1 v2 v3 v15 v17).bind fun v18 =>
  (nB 8 v7 ([v18]:List Int)).bind fun v19 =>
  some (.inl (v19,(IntKind.i64.wrap (v8+1)))))
 else
  (some (.inr v7))
noncomputable def fJ(v1:Int)(v2:Int)(v3:Int)(v4:(List Int))(v5:(List Int)):Option ((List Int)):=
 (run (bQ v1 v2 v3 v4 v5) (([]:List Int),0)).bind fun v20 =>
 some (v20)
noncomputable def eQ(v1:Int)(v2:Int)(v3:Int)(v7:Int)(v8:(List Int)):((List Int)×Int)→Option (((List Int)×Int) ⊕ (((List Int)))):=fun (v9,v10) =>
 if (decide (v10<(v8.length:Int)))=true then
  ((gR v9 v10).bind fun v14 =>
  (aS v1 v2 v3 v14 v7).bind fun v15 =>
  some (.inl ((v9.set v10.toNat v15),(IntKind.i64.wrap (v10+1)))))
 else
  (some (.inr v9))
noncomputable def jP(v1:Int)(v2:Int)(v3:Int)(v4:(List Int)):Option ((List Int)):=
 (cX v1 v2 v3 v2).bind fun v6 =>
 (cX v1 v2 v3 v3).bind fun v7 =>
 (bE v1 v6 v3 v4).bind fun v8 =>
 (run (eQ v1 v2 v3 v7 v8) (v8,0)).bind fun v16 =>
 some (v16)
noncomputable def gN(v1:Int)(v2:Int)(v3:Int)(v4:Int):Option (Int):=
 if (decide (v4>(IntKind.i64.wrap (v1.tdiv 2))))=true then
  (some ((IntKind.i64.wrap (v4-v1))))
 else
  (some (v4))
noncomputable def cL(v1:Int)(v2:Int)(v3:Int)(v9:(List Int)):((List Int)×Int)→Option (((List Int)×Int) ⊕ (((List Int)))):=fun (v10,v11) =>
 if (decide (v11<(v9.length:Int)))=true then
  ((gR v10 v11).bind fun v15 =>
  (gN v1 v2 v3 v15).bind fun v16 =>
  some (.inl ((v10.set v11.toNat v16),(IntKind.i64.wrap (v11+1)))))
 else
  (some (.inr v10))
noncomputable def bT(v1:Int)(v2:Int)(v3:Int)(v4:(List Int))(v5:(List Int)):Option ((List Int)):=
 (bE v1 v2 v3 v4).bind fun v7 =>
 (fJ v1 v2 v3 v7 v5).bind fun v8 =>
 (jP v1 v2 v3 v8).bind fun v9 =>
 (run (cL v1 v2 v3 v9) (v9,0)).bind fun v17 =>
 some (v17)
noncomputable def bZ(v20:(List Int))(v21:(List Int)):((List (Int×Int))×Int)→Option (((List (Int×Int))×Int) ⊕ (((List (Int×Int))))):=fun (v22,v23) =>
 if (decide (v23<(v20.length:Int)))=true then
  ((gR v20 v23).bind fun v28 =>
  (gR v21 v23).bind fun v29 =>
  (nB 16 v22 ([(v28,v29)]:List (Int×Int))).bind fun v30 =>
  some (.inl (v30,(IntKind.i64.wrap (v23+1)))))
 else
  (some (.inr v22))
noncomputable def gJ(v1:(List (Nat×Nat)))(v2:Int)(v3:(List Int))(v4:Int)(v5:Int)(v6:Int)(v7:Int):Option ((List (Nat×Nat))×Int):=
 (iT v1).bind fun v10 =>
 (aZ v2 v3 v4).bind fun (v11,v12,v13) =>
 (gZ v10 v2 v3 v11 v12 v13 v5 v6 v7 v2 v3 v1 v2 v3 v5 v6 v7).bind fun v14 =>
 if (decide (v14≠0))=true then
  (some (([]:List (Nat×Nat)),v14))
 else
  ((cB v2 v3 v4).bind fun v15 =>
  (bE v5 v6 v7 v15).bind fun v16 =>
  (cR v1).bind fun v17 =>
  (mT v17).bind fun (v18,v19) =>
  (bT v5 v6 v7 v18 v16).bind fun v20 =>
  (bT v5 v6 v7 v19 v16).bind fun v21 =>
  (run (bZ v20 v21) (([]:List (Int×Int)),0)).bind fun v31 =>
  (bV v31).bind fun (v32,v33) =>
  some (v32,v33))
noncomputable def iA(v1:(List (Nat×Nat)))(v2:Int)(v3:(List Int))(v4:Int)(v5:Int)(v6:(List Int)):Option (Int):=
 (cM v1).bind fun v8 =>
 if (decide (v8≠0))=true then
  (some (v8))
 else
  ((cC v2 v3).bind fun v9 =>
  if (decide (v9≠0))=true then
   (some (v9))
  else
   ((aR v4 v5 v6).bind fun v10 =>
   if (decide (v10≠0))=true then
    (some (v10))
   else
    (some (0))))
noncomputable def eB(v1:(List (Int×Int)))(v2:Int):((List (Int×Int))×Int)→Option (((List (Int×Int))×Int) ⊕ (((List (Int×Int))))):=fun (v5,v6) =>
 if (decide (v6<(v1.length:Int)))=true then
  ((gR v1 v6).bind fun (v14,v15) =>
  if v2=0 then none else
  ((gR v5 (v6.tmod v2)).bind fun (v16,v17) =>
  (cY v16 v17 v14 v15).bind fun (v18,v19) =>
  some (.inl ((v5.set ((v6.tmod v2)).toNat (v18,v19)),(IntKind.i64.wrap (v6+1))))))
 else
  (some (.inr v5))
noncomputable def jK(v1:(List (Int×Int)))(v2:Int):Option ((List (Int×Int))):=
 (mkI 16 v2 ((0,0):(Int×Int))).bind fun v4 =>
 (run (eB v1 v2) (v4,0)).bind fun v20 =>
 some (v20)
noncomputable def hU(v1:Int)(v2:Int)(v3:(List Int)):Option (Int):=
 (bB (IntKind.i64.wrap (v1-v2)) v3).bind fun v5 =>
 some (v5)
noncomputable def bN(v1:(List (Int×Int)))(v2:(List Int))(v6:Int):((List (Int×Int))×Int)→Option (((List (Int×Int))×Int) ⊕ (((List (Int×Int))))):=fun (v30,v31) =>
 if (decide (v31<(v1.length:Int)))=true then
  ((gR v1 v31).bind fun (v42,v43) =>
  (gR v30 v6).bind fun (v44,v45) =>
  (hU v6 v31 v2).bind fun v46 =>
  (cU v42 v43 v46).bind fun (v47,v48) =>
  (cY v44 v45 v47 v48).bind fun (v49,v50) =>
  some (.inl ((v30.set v6.toNat (v49,v50)),(IntKind.i64.wrap (v31+1)))))
 else
  (some (.inr v30))
noncomputable def dD(v1:(List (Int×Int)))(v2:(List Int))(v4:(List (Int×Int))):((List (Int×Int))×Int)→Option (((List (Int×Int))×Int) ⊕ (((List (Int×Int))))):=fun (v5,v6) =>
 if (decide (v6<(v4.length:Int)))=true then
  ((run (bN v1 v2 v6) (v5,0)).bind fun v51 =>
  some (.inl (v51,(IntKind.i64.wrap (v6+1)))))
 else
  (some (.inr v5))
noncomputable def fD(v1:(List (Int×Int)))(v2:(List Int)):Option ((List (Int×Int))):=
 (mkI 16 (v1.length:Int) ((0,0):(Int×Int))).bind fun v4 =>
 (run (dD v1 v2 v4) (v4,0)).bind fun v52 =>
 some (v52)
noncomputable def jA(v1:(List (Nat×Nat)))(v2:Int)(v3:(List Int))(v4:Int):Option ((List (Nat×Nat))×Int):=
 (iT v1).bind fun v7 =>
 (aZ v2 v3 v4).bind fun (v8,v9,v10) =>
 (iA v7 v2 v3 v8 v9 v10).bind fun v11 =>
 if (decide (v11≠0))=true then
  (some (([]:List (Nat×Nat)),v11))
 else
  ((cR v1).bind fun v12 =>
  (aE v2 v3).bind fun v13 =>
  (jK v12 v13).bind fun v14 =>
  (bG v2 v3 v4).bind fun v15 =>
  (bV v14).bind fun (v16,v17) =>
  if (decide (v17≠0))=true then
   (some (([]:List (Nat×Nat)),v17))
  else
   ((fD v14 v15).bind fun v18 =>
   (bV v18).bind fun (v19,v20) =>
   some (v19,v20)))
noncomputable def lY(v1:Nat)(v2:Nat)(v3:Nat)(v4:Nat):Option (Bool):=
 (fbits .f64 v1).bind fun v6 =>
 (fbits .f64 v3).bind fun v7 =>
 if (decide (v6=v7))=true then
  ((fbits .f64 v2).bind fun v8 =>
  (fbits .f64 v4).bind fun v9 =>
  some ((decide (v8=v9))))
 else
  (some (false))
noncomputable def bP(v1:(List (Nat×Nat)))(v2:(List (Nat×Nat))):(Int)→Option ((Int) ⊕ ((Unit) ⊕ (Unit))):=fun v4 =>
 if (decide (v4<(v1.length:Int)))=true then
  ((gR v1 v4).bind fun (v14,v15) =>
  (f2f .f32 v14 .f64).bind fun v16 =>
  (f2f .f32 v15 .f64).bind fun v17 =>
  (gR v2 v4).bind fun (v18,v19) =>
  (f2f .f32 v18 .f64).bind fun v20 =>
  (f2f .f32 v19 .f64).bind fun v21 =>
  (lY v16 v17 v20 v21).bind fun v22 =>
  if v22=true then
   (some (.inl (IntKind.i64.wrap (v4+1))))
  else
   (some (.inr (.inl ()))))
 else
  (some (.inr (.inr ())))
noncomputable def bY(v1:(List (Nat×Nat)))(v2:(List (Nat×Nat))):Option (Bool):=
 if (decide ((v1.length:Int)≠(v2.length:Int)))=true then
  (some (false))
 else
  ((run (bP v1 v2) 0).bind fun v23=>match v23 with
  | (.inl _) =>
   some (false)
  | (.inr _) =>
   some (true))
noncomputable def iU(v1:(List (Int×Int)))(v2:Int)(v3:(List Int))(v4:Int)(v5:Int):Option Bool:=
 if (decide ((v1.length:Int)=0))=true then
  (some (true))
 else
  (if (decide ((v1.length:Int)>31))=true then
   (some (true))
  else
   ((gF v2 v3 v4).bind fun v7 =>
   if v7=true then
    ((mP v2 v3).bind fun v8 =>
    if (decide ((v1.length:Int)≠v8))=true then
     (some (true))
    else
     ((eS v5 3000000 16000000).bind fun v9 =>
     if v9=true then
      ((jQ v1 10000).bind fun (v10,v11) =>
      if v11=true then
       ((lV (v10.length:Int) v5).bind fun (v12,v13,v14,v15) =>
       (iZ v10).bind fun v16 =>
       (lB v2 v3).bind fun (v17,v18) =>
       (jL v16 v17 v18 v4).bind fun (v19,v20) =>
       (iZ v10).bind fun v21 =>
       (nE v2 v3 v4).bind fun (v22,v23,v24) =>
       (gJ v21 v22 v23 v24 v12 v13 v14).bind fun (v25,v26) =>
       if (decide (v15≠0))=true then
        (some (false))
       else
        (if (decide (v26≠0))=true then
         (some (false))
        else
         (if (decide ((v25.length:Int)≠(v10.length:Int)))=true then
          (some (false))
         else
          (if (decide (v20=0))=true then
           ((iZ v19).bind fun v27 =>
           (lB v2 v3).bind fun (v28,v29) =>
           (jA v27 v28 v29 v4).bind fun (v30,v31) =>
           if (decide (v31=0))=true then
            ((bY v30 v10).bind fun v32 =>
            if v32=true then
             ((bY v19 v25).bind fun v33 =>
             some (v33))
            else
             (some (false)))
           else
            (some (false)))
          else
           ((lB v2 v3).bind fun (v34,v35) =>
           (jA v25 v34 v35 v4).bind fun (v36,v37) =>
           if (decide (v20=20))=true then
            (if (decide (v37=8))=true then
             (some (true))
            else
             (if (decide (v37=0))=true then
              ((bY v36 v10).bind fun v38 =>
              some ((!v38)))
             else
              (some (false))))
           else
            (some (false)))))))
      else
       (some (true)))
     else
      (some (true))))
   else
    (some (true))))
noncomputable def dJ(v1:Nat):Option (Bool):=
 (f2f .f32 v1 .f64).bind fun v3 =>
 (mL v3).bind fun v4 =>
 if (fcmp .eql .f64 v3 v4)=true then
  ((oH v3 0).bind fun v5 =>
  some ((!v5)))
 else
  (some (false))
noncomputable def lN(v1:Nat):Option (Bool):=
 if (fcmp .neq .f64 v1 v1)=true then
  (some (false))
 else
  ((farith .sub .f64 v1 v1).bind fun v3 =>
  if (fcmp .neq .f64 v3 0)=true then
   (some (false))
  else
   (if (fcmp .geq .f64 v1 14069741636278059008)=true then
    (if (fcmp .leq .f64 v1 4846369599423283200)=true then
     ((f2i .f64 v1 .i64).bind fun v4 =>
     some ((fcmp .eql .f64 (FloatKind.f64.nearest v4) v1)))
    else
     (some (true)))
   else
    (some (true))))
end Go.Rex
