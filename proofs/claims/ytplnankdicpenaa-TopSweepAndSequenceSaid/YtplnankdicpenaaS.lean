/- The functions of the program and of the reference,as functions of lists and numbers. -/
import Derived.Test.YtplnankdicpenaaRexG11
set_option linter.unusedSimpArgs false
set_option linter.unusedVariables false
set_option linter.defProp false
namespace Go.Rex
open Go Go.Rex
def e_i(x:Int):List TV:=[.v (.int .i64 x)]
def e_c(x:(Nat×Nat)):List TV:=[.v (.complex .f32 x.1 x.2)]
def e_ii(x:(Int×Int)):List TV:=[.v (.int .i64 x.1),.v (.int .i64 x.2)]
noncomputable def aN(v1:Int)(v2:Int)(v3:Int):Option (Bool):=
 if (decide (v2≤v1))=true then
  (some ((decide (v1≤v3))))
 else
  (some (false))
noncomputable def cL(v1:Int)(v2:(List Int)):(Int)→Option ((Int) ⊕ ((Int) ⊕ (Unit))):=fun v5 =>
 if (decide (v5<(v2.length:Int)))=true then
  ((bE v2 v5).bind fun v10 =>
  (aN v10 1 v1).bind fun v11 =>
  if v11=true then
   (if (decide (v5>0))=true then
    ((bE v2 (IntKind.i64.wrap (v5-1))).bind fun v12 =>
    if (decide (v10≤v12))=true then
     (some (.inr (.inl 9)))
    else
     (some (.inl (IntKind.i64.wrap (v5+1)))))
   else
    (some (.inl (IntKind.i64.wrap (v5+1)))))
  else
   (some (.inr (.inl 2))))
 else
  (some (.inr (.inr ())))
noncomputable def fY(v1:Int)(v2:(List Int)):Option (Int):=
 (aN v1 2 8).bind fun v4 =>
 if v4=true then
  (if (decide ((v2.length:Int)=0))=true then
   (some (10))
  else
   ((run (cL v1 v2) 0).bind fun v13=>match v13 with
   | (.inl v14) =>
    some (v14)
   | (.inr _) =>
    (bE v2 (IntKind.i64.wrap ((v2.length:Int)-1))).bind fun v15 =>
    if (decide (v15≠v1))=true then
     (some (6))
    else
     (some (0))))
 else
  (some (2))
noncomputable def kA(v1:Int):(Int×Int)→Option ((Int×Int) ⊕ ((Int))):=fun (v4,v5) =>
 if (decide (v5<v1))=true then
  (some (.inl ((IntKind.i64.wrap (2*v4)),(IntKind.i64.wrap (v5+1)))))
 else
  (some (.inr v4))
noncomputable def gN(v1:Int)(v2:(List Int)):Option (Int):=
 (run (kA v1) (1,0)).bind fun v7 =>
 some ((IntKind.i64.wrap (v7-1)))
noncomputable def dZ(v1:Int)(v2:(List Int))(v3:Int):Option (Int):=
 (fY v1 v2).bind fun v5 =>
 if (decide (v5≠0))=true then
  (some (v5))
 else
  ((gN v1 v2).bind fun v6 =>
  (aN v3 1 v6).bind fun v7 =>
  if v7=true then
   (some (0))
  else
   (some (2)))
noncomputable def kD(v2:(List Int))(v7:(List Int))(v8:Int):(Int×Int)→Option ((Int×Int) ⊕ ((Int))):=fun (v21,v22) =>
 if (decide (v22<(v2.length:Int)))=true then
  ((bE v2 v22).bind fun v26 =>
  (bE v7 (IntKind.i64.wrap (v8-v26))).bind fun v27 =>
  some (.inl ((IntKind.i64.wrap (v21+v27)),(IntKind.i64.wrap (v22+1)))))
 else
  (some (.inr v21))
noncomputable def jY(v1:Int)(v2:(List Int))(v4:Int):(Int×(List Int)×Int)→Option ((Int×(List Int)×Int) ⊕ (((List Int)))):=fun (v6,v7,v8) =>
 if (decide (v8<v4))=true then
  (if (decide (v8<v1))=true then
   ((jD 8 v7 ([(v6.tmod 2)]:List Int)).bind fun v20 =>
   some (.inl ((IntKind.i64.wrap (v6.tdiv 2)),v20,(IntKind.i64.wrap (v8+1)))))
  else
   ((run (kD v2 v7 v8) (0,0)).bind fun v28 =>
   (jD 8 v7 ([(v28.tmod 2)]:List Int)).bind fun v29 =>
   some (.inl (v6,v29,(IntKind.i64.wrap (v8+1))))))
 else
  (some (.inr v7))
noncomputable def nL(v1:Int)(v2:(List Int))(v3:Int)(v4:Int):Option ((List Int)):=
 (run (jY v1 v2 v4) (v3,([]:List Int),0)).bind fun v30 =>
 some (v30)
noncomputable def jZ(v5:(List Int)):(Int×Int)→Option ((Int×Int) ⊕ ((Int))):=fun (v6,v7) =>
 if (decide (v7≥1))=true then
  ((bE v5 v7).bind fun v10 =>
  some (.inl ((IntKind.i64.wrap ((IntKind.i64.wrap (2*v6))+v10)),(IntKind.i64.wrap (v7-1)))))
 else
  (some (.inr v6))
noncomputable def nC(v1:Int)(v2:(List Int))(v3:Int):Option (Int):=
 (nL v1 v2 v3 (IntKind.i64.wrap (v1+1))).bind fun v5 =>
 (run (jZ v5) (0,v1)).bind fun v11 =>
 some (v11)
noncomputable def iB(v1:Int)(v2:(List Int))(v3:Int):(Int×Int)→Option ((Int×Int) ⊕ ((Int))):=fun (v6,v7) =>
 if (decide (v7≠v3))=true then
  ((nC v1 v2 v7).bind fun v10 =>
  some (.inl ((IntKind.i64.wrap (v6+1)),v10)))
 else
  (some (.inr v6))
noncomputable def mS(v1:Int)(v2:(List Int))(v3:Int):Option (Int):=
 (nC v1 v2 v3).bind fun v5 =>
 (run (iB v1 v2 v3) (1,v5)).bind fun v11 =>
 some (v11)
noncomputable def iA(v1:Int)(v2:(List Int)):Option (Bool):=
 (mS v1 v2 1).bind fun v4 =>
 (gN v1 v2).bind fun v5 =>
 some ((decide (v4=v5)))
noncomputable def gF(v1:Int)(v2:(List Int))(v3:Int):Option (Bool):=
 if (decide ((v2.length:Int)≤8))=true then
  ((dZ v1 v2 v3).bind fun v5 =>
  if (decide (v5=0))=true then
   (if (decide (v1≤5))=true then
    ((iA v1 v2).bind fun v6 =>
    some (v6))
   else
    (some (false)))
  else
   (some (false)))
 else
  (some (false))
noncomputable def iF(v1:Int)(v2:Int):Option (Nat×Nat):=
 some ((FloatKind.f32.nearest (if (if v1<10000 then v1 else 10000)>(-10000) then (if v1<10000 then v1 else 10000) else (-10000))),(FloatKind.f32.nearest (if (if v2<10000 then v2 else 10000)>(-10000) then (if v2<10000 then v2 else 10000) else (-10000))))
noncomputable def eD(v1:(List (Int×Int)))(v2:Int):((List (Nat×Nat))×Int)→Option (((List (Nat×Nat))×Int) ⊕ ((Unit) ⊕ ((List (Nat×Nat))))):=fun (v5,v6) =>
 if (decide (v6<(v1.length:Int)))=true then
  ((bE v1 v6).bind fun (v15,v16) =>
  (aN v15 (IntKind.i64.wrap (0-v2)) v2).bind fun v17 =>
  if v17=true then
   ((aN v16 (IntKind.i64.wrap (0-v2)) v2).bind fun v18 =>
   if v18=true then
    ((iF v15 v16).bind fun (v19,v20) =>
    (jD 8 v5 ([(v19,v20)]:List (Nat×Nat))).bind fun v21 =>
    some (.inl (v21,(IntKind.i64.wrap (v6+1)))))
   else
    (some (.inr (.inl ()))))
  else
   (some (.inr (.inl ()))))
 else
  (some (.inr (.inr v5)))
noncomputable def jB(v1:(List (Int×Int)))(v2:Int):Option ((List (Nat×Nat))×Bool):=
 (run (eD v1 v2) (([]:List (Nat×Nat)),0)).bind fun v22=>match v22 with
 | (.inl _) =>
  some (([]:List (Nat×Nat)),false)
 | (.inr v23) =>
  some (v23,true)
noncomputable def aC(v1:Bool)(v2:Int):Option (Bool×Int):=
 some (v1,v2)
noncomputable def dW(v1:Int)(v2:Int)(v3:Int):Option (Bool×Int):=
 if (decide (v1<v2))=true then
  ((aC true 2).bind fun (v6,v7) =>
  some (v6,v7))
 else
  ((aC (decide (v1>v3)) 2).bind fun (v8,v9) =>
  some (v8,v9))
noncomputable def aA(v1:Bool)(v2:Int):Option (Int):=
 if v1=true then
  (some (v2))
 else
  (some (0))
noncomputable def aL(v1:Bool)(v2:Int)(v3:Bool)(v4:Int):Option (Int):=
 (aA v1 v2).bind fun v6 =>
 if (decide (v6≠0))=true then
  (some (v6))
 else
  ((aA v3 v4).bind fun v7 =>
  if (decide (v7≠0))=true then
   (some (v7))
  else
   (some (0)))
noncomputable def fD(v1:Int)(v2:Int):((List (Nat×Nat))×Int×Int)→Option (((List (Nat×Nat))×Int×Int) ⊕ (((List (Nat×Nat))))):=fun (v10,v11,v12) =>
 if (decide (v12<v1))=true then
  (if v2=0 then none else
  ((bE ([(1065353216,0),(0,1065353216),(3212836864,0),(0,3212836864)]:List (Nat×Nat)) ((IntKind.i64.wrap (v11+(IntKind.i64.wrap (v12.tdiv v2)))).tmod 4)).bind fun (v17,v18) =>
  (jD 8 v10 ([(v17,v18)]:List (Nat×Nat))).bind fun v19 =>
  some (.inl (v19,(IntKind.i64.wrap (v11+(IntKind.i64.wrap (v12.tdiv v2)))),(IntKind.i64.wrap (v12+1))))))
 else
  (some (.inr v10))
noncomputable def mB(v1:Int)(v2:Int):Option ((List (Nat×Nat))×Int):=
 (dW v1 1 1024).bind fun (v5,v6) =>
 (dW v2 1 1000).bind fun (v7,v8) =>
 (aL v5 v6 v7 v8).bind fun v9 =>
 if (decide (v9≠0))=true then
  (some (([]:List (Nat×Nat)),v9))
 else
  ((run (fD v1 v2) (([]:List (Nat×Nat)),0,0)).bind fun v20 =>
  some (v20,0))
noncomputable def iP(v1:(List (Nat×Nat))):Option ((List (Nat×Nat))):=
 (jD 8 ([]:List (Nat×Nat)) v1).bind fun v3 =>
 some (v3)
noncomputable def cK(v1:(List (Nat×Nat))):Option ((List (Nat×Nat))):=
 some (v1)
noncomputable def lQ(v1:Int)(v2:(List (Nat×Nat))):Option (Int×(List (Nat×Nat))):=
 some (v1,v2)
noncomputable def lV(v1:Nat):Option (Nat):=
 (trI .zero v1).bind fun v3 =>
 some (v3)
noncomputable def yT(v1:Nat):Option (Nat):=
 (fbits .f64 v1).bind fun v3 =>
 some (((wZ .andNot .u64 v3 9223372036854775808)).toNat)
noncomputable def nE(v1:Nat)(v2:Int):Option (Bool):=
 if (decide (v2=0))=true then
  ((yT v1).bind fun v4 =>
  some ((fcmp .gtr .f64 v4 9218868437227405311)))
 else
  (if (decide (v2<0))=true then
   (some ((fcmp .gtr .f64 (Op.negFloat .f64 v1) 9218868437227405311)))
  else
   (some ((fcmp .gtr .f64 v1 9218868437227405311))))
noncomputable def iR(v1:Nat):Option (Bool):=
 (f2f .f32 v1 .f64).bind fun v3 =>
 (lV v3).bind fun v4 =>
 if (fcmp .eql .f64 v3 v4)=true then
  ((nE v3 0).bind fun v5 =>
  some ((!v5)))
 else
  (some (false))
noncomputable def aV(v1:Nat)(v2:Nat):Option (Bool):=
 if (fcmp .leq .f32 (Op.negFloat .f32 v2) v1)=true then
  (some ((fcmp .leq .f32 v1 v2)))
 else
  (some (false))
noncomputable def lJ(v1:Nat)(v2:Nat):Option (Int):=
 (iR v1).bind fun v4 =>
 if v4=true then
  ((iR v2).bind fun v5 =>
  (aC (!v5) 27).bind fun (v6,v7) =>
  (aV v1 1266679808).bind fun v8 =>
  if v8=true then
   ((aV v2 1266679808).bind fun v9 =>
   (aC (!v9) 2).bind fun (v10,v11) =>
   (aL v6 v7 v10 v11).bind fun v12 =>
   some (v12))
  else
   ((aC true 2).bind fun (v13,v14) =>
   (aL v6 v7 v13 v14).bind fun v15 =>
   some (v15)))
 else
  ((aC true 27).bind fun (v16,v17) =>
  (aV v1 1266679808).bind fun v18 =>
  if v18=true then
   ((aV v2 1266679808).bind fun v19 =>
   (aC (!v19) 2).bind fun (v20,v21) =>
   (aL v16 v17 v20 v21).bind fun v22 =>
   some (v22))
  else
   ((aC true 2).bind fun (v23,v24) =>
   (aL v16 v17 v23 v24).bind fun v25 =>
   some (v25)))
noncomputable def fN(v1:Int)(v2:(List (Nat×Nat))):Option (Int):=
 (bE v2 v1).bind fun (v4,v5) =>
 (lJ v4 v5).bind fun v6 =>
 some (v6)
noncomputable def bL(v1:Int)(v2:(List (Nat×Nat))):(Int)→Option ((Int) ⊕ ((Int) ⊕ (Unit))):=fun v4 =>
 if (decide (v4<v1))=true then
  ((fN v4 v2).bind fun v7 =>
  if (decide (v7≠0))=true then
   (some (.inr (.inl v7)))
  else
   (some (.inl (IntKind.i64.wrap (v4+1)))))
 else
  (some (.inr (.inr ())))
noncomputable def jP(v1:Int)(v2:(List (Nat×Nat))):Option (Int):=
 (run (bL v1 v2) 0).bind fun v8=>match v8 with
 | (.inl v9) =>
  some (v9)
 | (.inr _) =>
  some (0)
noncomputable def gX(v1:Bool)(v2:Int)(v3:Bool)(v4:Int)(v5:Int)(v6:(List (Nat×Nat))):Option (Int):=
 (aA v1 v2).bind fun v8 =>
 if (decide (v8≠0))=true then
  (some (v8))
 else
  ((aA v3 v4).bind fun v9 =>
  if (decide (v9≠0))=true then
   (some (v9))
  else
   ((jP v5 v6).bind fun v10 =>
   if (decide (v10≠0))=true then
    (some (v10))
   else
    (some (0))))
noncomputable def aT(v1:(List (Nat×Nat))):Option (Int):=
 (aC (decide ((v1.length:Int)=0)) 10).bind fun (v3,v4) =>
 (aC (decide ((v1.length:Int)>1024)) 8).bind fun (v5,v6) =>
 (lQ (v1.length:Int) v1).bind fun (v7,v8) =>
 (gX v3 v4 v5 v6 v7 v8).bind fun v9 =>
 some (v9)
noncomputable def eJ(v1:(List (Nat×Nat)))(v2:(List (Nat×Nat)))(v3:Bool)(v4:Int):Option (Int):=
 (aT v1).bind fun v6 =>
 if (decide (v6≠0))=true then
  (some (v6))
 else
  ((aT v2).bind fun v7 =>
  if (decide (v7≠0))=true then
   (some (v7))
  else
   ((aA v3 v4).bind fun v8 =>
   if (decide (v8≠0))=true then
    (some (v8))
   else
    (some (0))))
noncomputable def gQ(v1:Nat)(v2:Nat):Option (Int×Int):=
 (f2i .f32 v1 .i64).bind fun v5 =>
 (f2i .f32 v2 .i64).bind fun v6 =>
 some (v5,v6)
noncomputable def cH(v1:(List (Nat×Nat))):((List (Int×Int))×Int)→Option (((List (Int×Int))×Int) ⊕ (((List (Int×Int))))):=fun (v3,v4) =>
 if (decide (v4<(v1.length:Int)))=true then
  ((bE v1 v4).bind fun (v11,v12) =>
  (gQ v11 v12).bind fun (v13,v14) =>
  (jD 16 v3 ([(v13,v14)]:List (Int×Int))).bind fun v15 =>
  some (.inl (v15,(IntKind.i64.wrap (v4+1)))))
 else
  (some (.inr v3))
noncomputable def aY(v1:(List (Nat×Nat))):Option ((List (Int×Int))):=
 (run (cH v1) (([]:List (Int×Int)),0)).bind fun v16 =>
 some (v16)
noncomputable def bB(v1:Int)(v2:Int)(v3:Int)(v4:Int):Option (Int×Int):=
 some ((IntKind.i64.wrap ((IntKind.i64.wrap (v1*v3))-(IntKind.i64.wrap (v2*v4)))),(IntKind.i64.wrap ((IntKind.i64.wrap (v1*v4))+(IntKind.i64.wrap (v2*v3)))))
noncomputable def bS(v1:Int)(v2:Int)(v3:Int)(v4:Int):Option (Int×Int):=
 some ((IntKind.i64.wrap (v1+v3)),(IntKind.i64.wrap (v2+v4)))
noncomputable def eZ(v2:(List (Int×Int)))(v6:Int)(v30:Int)(v31:Int):((List (Int×Int))×Int)→Option (((List (Int×Int))×Int) ⊕ (((List (Int×Int))))):=fun (v32,v33) =>
 if (decide (v33<(v2.length:Int)))=true then
  ((bE v2 v33).bind fun (v43,v44) =>
  (bE v32 (IntKind.i64.wrap (v6+v33))).bind fun (v45,v46) =>
  (bB v30 v31 v43 v44).bind fun (v47,v48) =>
  (bS v45 v46 v47 v48).bind fun (v49,v50) =>
  some (.inl ((v32.set ((IntKind.i64.wrap (v6+v33))).toNat (v49,v50)),(IntKind.i64.wrap (v33+1)))))
 else
  (some (.inr v32))
noncomputable def jA(v1:(List (Int×Int)))(v2:(List (Int×Int))):((List (Int×Int))×Int)→Option (((List (Int×Int))×Int) ⊕ (((List (Int×Int))))):=fun (v5,v6) =>
 if (decide (v6<(v1.length:Int)))=true then
  ((bE v1 v6).bind fun (v30,v31) =>
  (run (eZ v2 v6 v30 v31) (v5,0)).bind fun v51 =>
  some (.inl (v51,(IntKind.i64.wrap (v6+1)))))
 else
  (some (.inr v5))
noncomputable def nV(v1:(List (Int×Int)))(v2:(List (Int×Int))):Option ((List (Int×Int))):=
 (mkI 16 (IntKind.i64.wrap ((IntKind.i64.wrap ((v1.length:Int)+(v2.length:Int)))-1)) ((0,0):(Int×Int))).bind fun v4 =>
 (run (jA v1 v2) (v4,0)).bind fun v52 =>
 some (v52)
noncomputable def lT(v1:Int)(v2:(List (Int×Int))):Option (Int×(List (Int×Int))):=
 some (v1,v2)
noncomputable def fL(v1:Int)(v2:Int):Option (Bool):=
 if (decide ((IntKind.i64.wrap (0-v2))≤v1))=true then
  (some ((decide (v1≤v2))))
 else
  (some (false))
noncomputable def gS(v1:Int)(v2:Int)(v3:Int):Option (Bool×Int):=
 (fL v1 v3).bind fun v6 =>
 if v6=true then
  ((fL v2 v3).bind fun v7 =>
  (aC (!v7) 8).bind fun (v8,v9) =>
  some (v8,v9))
 else
  ((aC true 8).bind fun (v10,v11) =>
  some (v10,v11))
noncomputable def fZ(v1:Int)(v2:(List (Int×Int))):Option (Int):=
 (bE v2 v1).bind fun (v4,v5) =>
 (gS v4 v5 16777216).bind fun (v6,v7) =>
 (aA v6 v7).bind fun v8 =>
 some (v8)
noncomputable def bY(v1:Int)(v2:(List (Int×Int))):(Int)→Option ((Int) ⊕ ((Int) ⊕ (Unit))):=fun v4 =>
 if (decide (v4<v1))=true then
  ((fZ v4 v2).bind fun v7 =>
  if (decide (v7≠0))=true then
   (some (.inr (.inl v7)))
  else
   (some (.inl (IntKind.i64.wrap (v4+1)))))
 else
  (some (.inr (.inr ())))
noncomputable def jL(v1:Int)(v2:(List (Int×Int))):Option (Int):=
 (run (bY v1 v2) 0).bind fun v8=>match v8 with
 | (.inl v9) =>
  some (v9)
 | (.inr _) =>
  some (0)
noncomputable def dT(v1:(List (Int×Int))):((List (Nat×Nat))×Int)→Option (((List (Nat×Nat))×Int) ⊕ (((List (Nat×Nat))))):=fun (v7,v8) =>
 if (decide (v8<(v1.length:Int)))=true then
  ((bE v1 v8).bind fun (v13,v14) =>
  (jD 8 v7 ([((FloatKind.f32.nearest v13),(FloatKind.f32.nearest v14))]:List (Nat×Nat))).bind fun v15 =>
  some (.inl (v15,(IntKind.i64.wrap (v8+1)))))
 else
  (some (.inr v7))
noncomputable def bR(v1:(List (Int×Int))):Option ((List (Nat×Nat))×Int):=
 (lT (v1.length:Int) v1).bind fun (v4,v5) =>
 (jL v4 v5).bind fun v6 =>
 if (decide (v6≠0))=true then
  (some (([]:List (Nat×Nat)),v6))
 else
  ((run (dT v1) (([]:List (Nat×Nat)),0)).bind fun v16 =>
  some (v16,0))
noncomputable def fG(v1:(List (Nat×Nat)))(v2:(List (Nat×Nat))):Option ((List (Nat×Nat))×Int):=
 (cK v1).bind fun v5 =>
 (cK v2).bind fun v6 =>
 (aC (decide ((IntKind.i64.wrap ((IntKind.i64.wrap ((v1.length:Int)+(v2.length:Int)))-1))>1024)) 8).bind fun (v7,v8) =>
 (eJ v5 v6 v7 v8).bind fun v9 =>
 if (decide (v9≠0))=true then
  (some (([]:List (Nat×Nat)),v9))
 else
  ((aY v1).bind fun v10 =>
  (aY v2).bind fun v11 =>
  (nV v10 v11).bind fun v12 =>
  (bR v12).bind fun (v13,v14) =>
  some (v13,v14))
noncomputable def nM(v1:(List (Nat×Nat))):Option ((List (Nat×Nat))):=
 some (v1)
noncomputable def cM(v1:Int)(v2:Int):Option (Int×Int):=
 some (v1,(IntKind.i64.wrap (0-v2)))
noncomputable def cW(v1:(List (Nat×Nat))):Option (Int):=
 (bE v1 0).bind fun (v3,v4) =>
 (gQ v3 v4).bind fun (v5,v6) =>
 (cM v5 v6).bind fun (v7,v8) =>
 (bB v5 v6 v7 v8).bind fun (v9,v10) =>
 (aC (!([v9==1,v10==0].all id)) 15).bind fun (v11,v12) =>
 (aA v11 v12).bind fun v13 =>
 some (v13)
noncomputable def eM(v1:(List (Nat×Nat)))(v2:(List (Nat×Nat)))(v3:(List (Nat×Nat))):Option (Int):=
 (aT v1).bind fun v5 =>
 if (decide (v5≠0))=true then
  (some (v5))
 else
  ((aT v2).bind fun v6 =>
  if (decide (v6≠0))=true then
   (some (v6))
  else
   ((cW v3).bind fun v7 =>
   if (decide (v7≠0))=true then
    (some (v7))
   else
    (some (0))))
noncomputable def kJ(v1:Int)(v2:Int)(v3:Int)(v4:Int):Option (Int×Int):=
 some ((IntKind.i64.wrap (v1-v3)),(IntKind.i64.wrap (v2-v4)))
noncomputable def eV(v9:(List (Int×Int)))(v15:(List (Int×Int)))(v16:Int):(Int×Int×Int)→Option ((Int×Int×Int) ⊕ ((Int×Int))):=fun (v48,v49,v50) =>
 if (decide (v50<v16))=true then
  ((bE v15 v50).bind fun (v61,v62) =>
  (bE v9 (IntKind.i64.wrap (v16-v50))).bind fun (v63,v64) =>
  (bB v61 v62 v63 v64).bind fun (v65,v66) =>
  (kJ v48 v49 v65 v66).bind fun (v67,v68) =>
  some (.inl (v67,v68,(IntKind.i64.wrap (v50+1)))))
 else
  (some (.inr (v48,v49)))
noncomputable def eN(v9:(List (Int×Int)))(v12:Int)(v13:Int)(v14:(List (Int×Int))):((List (Int×Int))×Int)→Option (((List (Int×Int))×Int) ⊕ (((List (Int×Int))))):=fun (v15,v16) =>
 if (decide (v16<(v14.length:Int)))=true then
  ((bE v14 v16).bind fun (v46,v47) =>
  (run (eV v9 v15 v16) (v46,v47,(if (IntKind.i64.wrap ((IntKind.i64.wrap (v16+1))-(v9.length:Int)))>0 then (IntKind.i64.wrap ((IntKind.i64.wrap (v16+1))-(v9.length:Int))) else 0))).bind fun (v69,v70) =>
  (bB v69 v70 v12 v13).bind fun (v71,v72) =>
  (jD 16 v15 ([(v71,v72)]:List (Int×Int))).bind fun v73 =>
  some (.inl (v73,(IntKind.i64.wrap (v16+1)))))
 else
  (some (.inr v15))
noncomputable def gE(v1:(List (Nat×Nat)))(v2:(List (Nat×Nat))):Option ((List (Nat×Nat))×Int):=
 (cK v1).bind fun v5 =>
 (cK v2).bind fun v6 =>
 (nM v2).bind fun v7 =>
 (eM v5 v6 v7).bind fun v8 =>
 if (decide (v8≠0))=true then
  (some (([]:List (Nat×Nat)),v8))
 else
  ((aY v2).bind fun v9 =>
  (bE v9 0).bind fun (v10,v11) =>
  (cM v10 v11).bind fun (v12,v13) =>
  (aY v1).bind fun v14 =>
  (run (eN v9 v12 v13 v14) (([]:List (Int×Int)),0)).bind fun v74 =>
  (bR v74).bind fun (v75,v76) =>
  some (v75,v76))
noncomputable def lK(v1:(List Int)):Option ((List Int)):=
 (jD 8 ([]:List Int) v1).bind fun v3 =>
 some (v3)
noncomputable def jN(v1:Int)(v2:(List Int)):Option (Int×(List Int)):=
 (lK v2).bind fun v5 =>
 some (v1,v5)
noncomputable def bX(v1:Int)(v2:(List Int))(v3:Int):Option (Int×Int×(List Int)):=
 some (v3,v1,v2)
noncomputable def lN(v1:Int)(v2:(List Int))(v3:Int)(v4:Int):Option (Int×(List Int)×Int×Int):=
 some (v1,v2,v3,v4)
noncomputable def lP(v1:(List Int))(v2:Int)(v3:Int):Option (Int×(List Int)×Int×Int):=
 (lN (v1.length:Int) v1 v2 v3).bind fun (v8,v9,v10,v11) =>
 some (v8,v9,v10,v11)
noncomputable def cC(v1:(List Int))(v2:Int):(Int)→Option ((Int) ⊕ ((Int) ⊕ (Unit))):=fun v4 =>
 if (decide (v4<(v1.length:Int)))=true then
  ((bE v1 v4).bind fun v7 =>
  if (decide (v2=v7))=true then
   (some (.inr (.inl v4)))
  else
   (some (.inl (IntKind.i64.wrap (v4+1)))))
 else
  (some (.inr (.inr ())))
noncomputable def iL(v1:(List Int))(v2:Int):Option (Int):=
 (run (cC v1 v2) 0).bind fun v8=>match v8 with
 | (.inl v9) =>
  some (v9)
 | (.inr _) =>
  some ((-1))
noncomputable def dH(v1:(List Int))(v2:Int):Option (Bool):=
 (iL v1 v2).bind fun v4 =>
 some ((decide (v4≥0)))
noncomputable def dG(v1:Int)(v2:(List Int))(v3:Int)(v4:Int):Option (Int):=
 (bE v2 v1).bind fun v6 =>
 (dW v6 v3 v4).bind fun (v7,v8) =>
 if (decide (v1>0))=true then
  ((bE v2 (IntKind.i64.wrap (v1-1))).bind fun v9 =>
  (aC (decide (v6≤v9)) 9).bind fun (v10,v11) =>
  (aL v7 v8 v10 v11).bind fun v12 =>
  some (v12))
 else
  ((aC false 9).bind fun (v13,v14) =>
  (aL v7 v8 v13 v14).bind fun v15 =>
  some (v15))
noncomputable def cZ(v1:Int)(v2:(List Int))(v3:Int)(v4:Int):(Int)→Option ((Int) ⊕ ((Int) ⊕ (Unit))):=fun v6 =>
 if (decide (v6<v1))=true then
  ((dG v6 v2 v3 v4).bind fun v9 =>
  if (decide (v9≠0))=true then
   (some (.inr (.inl v9)))
  else
   (some (.inl (IntKind.i64.wrap (v6+1)))))
 else
  (some (.inr (.inr ())))
noncomputable def jJ(v1:Int)(v2:(List Int))(v3:Int)(v4:Int):Option (Int):=
 (run (cZ v1 v2 v3 v4) 0).bind fun v10=>match v10 with
 | (.inl v11) =>
  some (v11)
 | (.inr _) =>
  some (0)
noncomputable def gZ(v1:Bool)(v2:Int)(v3:Bool)(v4:Int)(v5:Int)(v6:(List Int))(v7:Int)(v8:Int)(v9:Bool)(v10:Int):Option (Int):=
 (aA v1 v2).bind fun v12 =>
 if (decide (v12≠0))=true then
  (some (v12))
 else
  ((aA v3 v4).bind fun v13 =>
  if (decide (v13≠0))=true then
   (some (v13))
  else
   ((jJ v5 v6 v7 v8).bind fun v14 =>
   if (decide (v14≠0))=true then
    (some (v14))
   else
    ((aA v9 v10).bind fun v15 =>
    if (decide (v15≠0))=true then
     (some (v15))
    else
     (some (0)))))
noncomputable def fX(v1:Int)(v2:(List Int)):Option (Int):=
 (dW v1 2 8).bind fun (v4,v5) =>
 (aC (decide ((v2.length:Int)=0)) 10).bind fun (v6,v7) =>
 (lP v2 1 v1).bind fun (v8,v9,v10,v11) =>
 (dH v2 v1).bind fun v12 =>
 (aC (!v12) 6).bind fun (v13,v14) =>
 (gZ v4 v5 v6 v7 v8 v9 v10 v11 v13 v14).bind fun v15 =>
 some (v15)
noncomputable def dA(v1:Int)(v2:(List Int)):Option (Int):=
 (fX v1 v2).bind fun v4 =>
 some (v4)
noncomputable def aG(v1:Int)(v2:(List Int)):Option (Int):=
 (shI .shl .i64 1 v1).bind fun v4 =>
 some ((IntKind.i64.wrap (v4-1)))
noncomputable def aU(v1:Int)(v2:Int)(v3:(List Int)):Option (Int):=
 (aG v2 v3).bind fun v5 =>
 (dW v1 1 v5).bind fun (v6,v7) =>
 (aA v6 v7).bind fun v8 =>
 some (v8)
noncomputable def gY(v1:(List (Nat×Nat)))(v2:Int)(v3:(List Int))(v4:Int)(v5:Int)(v6:(List Int)):Option (Int):=
 (aT v1).bind fun v8 =>
 if (decide (v8≠0))=true then
  (some (v8))
 else
  ((dA v2 v3).bind fun v9 =>
  if (decide (v9≠0))=true then
   (some (v9))
  else
   ((aU v4 v5 v6).bind fun v10 =>
   if (decide (v10≠0))=true then
    (some (v10))
   else
    (some (0))))
noncomputable def dY(v1:(List (Int×Int)))(v2:Int):((List (Int×Int))×Int)→Option (((List (Int×Int))×Int) ⊕ (((List (Int×Int))))):=fun (v5,v6) =>
 if (decide (v6<(v1.length:Int)))=true then
  ((bE v1 v6).bind fun (v14,v15) =>
  if v2=0 then none else
  ((bE v5 (v6.tmod v2)).bind fun (v16,v17) =>
  (bS v16 v17 v14 v15).bind fun (v18,v19) =>
  some (.inl ((v5.set ((v6.tmod v2)).toNat (v18,v19)),(IntKind.i64.wrap (v6+1))))))
 else
  (some (.inr v5))
noncomputable def gM(v1:(List (Int×Int)))(v2:Int):Option ((List (Int×Int))):=
 (mkI 16 v2 ((0,0):(Int×Int))).bind fun v4 =>
 (run (dY v1 v2) (v4,0)).bind fun v20 =>
 some (v20)
noncomputable def eC(v1:Int)(v2:(List Int))(v3:Int):Option (Int×Int×(List Int)):=
 some (v3,v1,v2)
noncomputable def cB(v1:Int)(v2:(List Int))(v3:Int):(Int×Int)→Option ((Int×Int) ⊕ ((Int))):=fun (v5,v6) =>
 if (decide (v6<(v2.length:Int)))=true then
  ((bE v2 v6).bind fun v10 =>
  (shI .shr .i64 v3 (IntKind.i64.wrap (v1-v10))).bind fun v11 =>
  some (.inl ((wZ .xor .i64 v5 (wZ .and .i64 v11 1)),(IntKind.i64.wrap (v6+1)))))
 else
  (some (.inr v5))
noncomputable def dK(v1:Int)(v2:(List Int))(v3:Int):Option (Int):=
 (run (cB v1 v2 v3) (0,0)).bind fun v12 =>
 (shI .shr .i64 v3 1).bind fun v13 =>
 (shI .shl .i64 v12 (IntKind.i64.wrap (v1-1))).bind fun v14 =>
 some ((wZ .or .i64 v13 v14))
noncomputable def aR{X:Type}(H:(Int)→X→Option (Bool×X))(v2:Int)(v3:(List Int)):(Int×X)→Option ((Int×X) ⊕ ((X))):=fun (v5,v6) =>
 (H v5 v6).bind fun (v11,v12) =>
 if v11=true then
  ((dK v2 v3 v5).bind fun v13 =>
  some (.inl (v13,v12)))
 else
  (some (.inr v12))
noncomputable def aJ(v1:Int)(v2:Int)(v3:(List Int)){X:Type}(H:(Int)→X→Option (Bool×X))(v4:X):Option X:=
 (run (aR H v2 v3) (v1,v4)).bind fun v14 =>
 some v14
noncomputable def dF(v4:Int):((Int))→((List Int))→Option (((List Int)) ⊕ (((List Int)))):=fun v13 v9 =>
 if (decide ((v9.length:Int)=v4))=true then
  (some (.inr v9))
 else
  ((jD 8 v9 ([(wZ .and .i64 v13 1)]:List Int)).bind fun v14 =>
  some (.inl v14))
noncomputable def fA(v1:Int)(v2:(List Int))(v3:Int)(v4:Int):Option ((List Int)):=
 (eC v1 v2 v3).bind fun (v6,v7,v8) =>
 (aJ v6 v7 v8 (hand (dF v4)) (.inl ([]:List Int))).bind fun v15=>match v15 with
 | .inl v16 =>
  some (v16)
 | .inr v17 =>
  some (v17)
noncomputable def dC(v6:(List Int)):((List Int)×Int)→Option (((List Int)×Int) ⊕ (((List Int)))):=fun (v7,v8) =>
 if (decide (v8<(v6.length:Int)))=true then
  ((bE v7 v8).bind fun v11 =>
  some (.inl ((v7.set v8.toNat (IntKind.i64.wrap (1-(IntKind.i64.wrap (2*v11))))),(IntKind.i64.wrap (v8+1)))))
 else
  (some (.inr v7))
noncomputable def eK(v1:Int)(v2:(List Int))(v3:Int):Option ((List Int)):=
 (aG v1 v2).bind fun v5 =>
 (fA v1 v2 v3 v5).bind fun v6 =>
 (run (dC v6) (v6,0)).bind fun v12 =>
 some (v12)
noncomputable def bG(v1:Int)(v2:(List Int))(v3:Int):Option ((List Int)):=
 (eK v1 v2 v3).bind fun v5 =>
 some (v5)
noncomputable def lC(v1:Int)(v2:Int):Option (Int):=
 if v2=0 then none else
 (some (((IntKind.i64.wrap ((v1.tmod v2)+v2)).tmod v2)))
noncomputable def aX(v1:Int)(v2:(List Int)):Option (Int):=
 (lC v1 (v2.length:Int)).bind fun v4 =>
 (bE v2 v4).bind fun v5 =>
 some (v5)
noncomputable def hU(v1:Int)(v2:Int)(v3:(List Int)):Option (Int):=
 (aX (IntKind.i64.wrap (v1-v2)) v3).bind fun v5 =>
 some (v5)
noncomputable def cN(v1:Int)(v2:Int)(v3:Int):Option (Int×Int):=
 some ((IntKind.i64.wrap (v1*v3)),(IntKind.i64.wrap (v2*v3)))
noncomputable def bM(v1:(List (Int×Int)))(v2:(List Int))(v6:Int):((List (Int×Int))×Int)→Option (((List (Int×Int))×Int) ⊕ (((List (Int×Int))))):=fun (v30,v31) =>
 if (decide (v31<(v1.length:Int)))=true then
  ((bE v1 v31).bind fun (v42,v43) =>
  (bE v30 v6).bind fun (v44,v45) =>
  (hU v6 v31 v2).bind fun v46 =>
  (cN v42 v43 v46).bind fun (v47,v48) =>
  (bS v44 v45 v47 v48).bind fun (v49,v50) =>
  some (.inl ((v30.set v6.toNat (v49,v50)),(IntKind.i64.wrap (v31+1)))))
 else
  (some (.inr v30))
noncomputable def cU(v1:(List (Int×Int)))(v2:(List Int))(v4:(List (Int×Int))):((List (Int×Int))×Int)→Option (((List (Int×Int))×Int) ⊕ (((List (Int×Int))))):=fun (v5,v6) =>
 if (decide (v6<(v4.length:Int)))=true then
  ((run (bM v1 v2 v6) (v5,0)).bind fun v51 =>
  some (.inl (v51,(IntKind.i64.wrap (v6+1)))))
 else
  (some (.inr v5))
noncomputable def eQ(v1:(List (Int×Int)))(v2:(List Int)):Option ((List (Int×Int))):=
 (mkI 16 (v1.length:Int) ((0,0):(Int×Int))).bind fun v4 =>
 (run (cU v1 v2 v4) (v4,0)).bind fun v52 =>
 some (v52)
noncomputable def eX(v1:(List (Nat×Nat)))(v2:Int)(v3:(List Int))(v4:Int):Option ((List (Nat×Nat))×Int):=
 (cK v1).bind fun v7 =>
 (bX v2 v3 v4).bind fun (v8,v9,v10) =>
 (gY v7 v2 v3 v8 v9 v10).bind fun v11 =>
 if (decide (v11≠0))=true then
  (some (([]:List (Nat×Nat)),v11))
 else
  ((aY v1).bind fun v12 =>
  (aG v2 v3).bind fun v13 =>
  (gM v12 v13).bind fun v14 =>
  (bG v2 v3 v4).bind fun v15 =>
  (bR v14).bind fun (v16,v17) =>
  if (decide (v17≠0))=true then
   (some (([]:List (Nat×Nat)),v17))
  else
   ((eQ v14 v15).bind fun v18 =>
   (bR v18).bind fun (v19,v20) =>
   some (v19,v20)))
noncomputable def cP(v3:Int):((Int))→(Int)→Option ((Int) ⊕ ((Int))):=fun v12 v9 =>
 if (decide (v12=v3))=true then
  (some (.inr v9))
 else
  (some (.inl (IntKind.i64.wrap (v9+1))))
noncomputable def dU(v1:Int)(v2:(List Int))(v3:Int):Option (Int):=
 (dK v1 v2 v3).bind fun v5 =>
 (eC v1 v2 v5).bind fun (v6,v7,v8) =>
 (aJ v6 v7 v8 (hand (cP v3)) (.inl 1)).bind fun v13=>match v13 with
 | .inl v14 =>
  some (v14)
 | .inr v15 =>
  some (v15)
noncomputable def eH(v1:Int)(v2:(List Int)):Option (Bool):=
 (dU v1 v2 1).bind fun v4 =>
 (aG v1 v2).bind fun v5 =>
 some ((decide (v4=v5)))
noncomputable def dN(v1:Int)(v2:(List Int)):Option (Int):=
 (eH v1 v2).bind fun v4 =>
 (aC (!v4) 22).bind fun (v5,v6) =>
 (aA v5 v6).bind fun v7 =>
 some (v7)
noncomputable def eA(v1:(List (Nat×Nat)))(v2:Int)(v3:(List Int)):Option (Int):=
 (aG v2 v3).bind fun v5 =>
 (aC (decide ((v1.length:Int)≠v5)) 13).bind fun (v6,v7) =>
 (aA v6 v7).bind fun v8 =>
 some (v8)
noncomputable def gV(v1:(List (Nat×Nat)))(v2:Int)(v3:(List Int))(v4:Int)(v5:Int)(v6:(List Int))(v7:Int)(v8:(List Int))(v9:(List (Nat×Nat)))(v10:Int)(v11:(List Int)):Option (Int):=
 (aT v1).bind fun v13 =>
 if (decide (v13≠0))=true then
  (some (v13))
 else
  ((dA v2 v3).bind fun v14 =>
  if (decide (v14≠0))=true then
   (some (v14))
  else
   ((aU v4 v5 v6).bind fun v15 =>
   if (decide (v15≠0))=true then
    (some (v15))
   else
    ((dN v7 v8).bind fun v16 =>
    if (decide (v16≠0))=true then
     (some (v16))
    else
     ((eA v9 v10 v11).bind fun v17 =>
     if (decide (v17≠0))=true then
      (some (v17))
     else
      (some (0))))))
noncomputable def dS(v1:Int)(v2:Int)(v3:(List Int)):Option (Int):=
 (aX (IntKind.i64.wrap (v2-v1)) v3).bind fun v5 =>
 some ((IntKind.i64.wrap (v5-1)))
noncomputable def bK(v1:(List (Int×Int)))(v2:(List Int))(v6:Int):((List (Int×Int))×Int)→Option (((List (Int×Int))×Int) ⊕ (((List (Int×Int))))):=fun (v30,v31) =>
 if (decide (v31<(v1.length:Int)))=true then
  ((bE v1 v31).bind fun (v42,v43) =>
  (bE v30 v6).bind fun (v44,v45) =>
  (dS v6 v31 v2).bind fun v46 =>
  (cN v42 v43 v46).bind fun (v47,v48) =>
  (bS v44 v45 v47 v48).bind fun (v49,v50) =>
  some (.inl ((v30.set v6.toNat (v49,v50)),(IntKind.i64.wrap (v31+1)))))
 else
  (some (.inr v30))
noncomputable def cV(v1:(List (Int×Int)))(v2:(List Int))(v4:(List (Int×Int))):((List (Int×Int))×Int)→Option (((List (Int×Int))×Int) ⊕ (((List (Int×Int))))):=fun (v5,v6) =>
 if (decide (v6<(v4.length:Int)))=true then
  ((run (bK v1 v2 v6) (v5,0)).bind fun v51 =>
  some (.inl (v51,(IntKind.i64.wrap (v6+1)))))
 else
  (some (.inr v5))
noncomputable def eR(v1:(List (Int×Int)))(v2:(List Int)):Option ((List (Int×Int))):=
 (mkI 16 (v1.length:Int) ((0,0):(Int×Int))).bind fun v4 =>
 (run (cV v1 v2 v4) (v4,0)).bind fun v52 =>
 some (v52)
noncomputable def gG(v1:(List (Int×Int)))(v2:Int):((List (Int×Int))×Int)→Option (((List (Int×Int))×Int) ⊕ ((Unit) ⊕ ((List (Int×Int))))):=fun (v5,v6) =>
 if (decide (v6<(v1.length:Int)))=true then
  ((bE v1 v6).bind fun (v11,v12) =>
  if v2=0 then none else
  (if (decide ((v11.tmod v2)≠0))=true then
   (some (.inr (.inl ())))
  else
   (if (decide ((v12.tmod v2)≠0))=true then
    (some (.inr (.inl ())))
   else
    ((jD 16 v5 ([((IntKind.i64.wrap (v11.tdiv v2)),(IntKind.i64.wrap (v12.tdiv v2)))]:List (Int×Int))).bind fun v13 =>
    some (.inl (v13,(IntKind.i64.wrap (v6+1))))))))
 else
  (some (.inr (.inr v5)))
noncomputable def jX(v1:(List (Int×Int)))(v2:Int):Option ((List (Int×Int))×Bool):=
 (run (gG v1 v2) (([]:List (Int×Int)),0)).bind fun v14=>match v14 with
 | (.inl _) =>
  some (([]:List (Int×Int)),false)
 | (.inr v15) =>
  some (v15,true)
noncomputable def gJ(v1:(List (Nat×Nat)))(v2:Int)(v3:(List Int))(v4:Int):Option ((List (Nat×Nat))×Int):=
 (cK v1).bind fun v7 =>
 (bX v2 v3 v4).bind fun (v8,v9,v10) =>
 (gV v7 v2 v3 v8 v9 v10 v2 v3 v1 v2 v3).bind fun v11 =>
 if (decide (v11≠0))=true then
  (some (([]:List (Nat×Nat)),v11))
 else
  ((bG v2 v3 v4).bind fun v12 =>
  (aY v1).bind fun v13 =>
  (eR v13 v12).bind fun v14 =>
  (aG v2 v3).bind fun v15 =>
  (jX v14 (IntKind.i64.wrap (v15+1))).bind fun (v16,v17) =>
  if v17=true then
   ((bR v16).bind fun (v18,v19) =>
   some (v18,v19))
  else
   (some (([]:List (Nat×Nat)),20)))
noncomputable def nR(v1:Nat)(v2:Nat)(v3:Nat)(v4:Nat):Option (Bool):=
 (fbits .f64 v1).bind fun v6 =>
 (fbits .f64 v3).bind fun v7 =>
 if (decide (v6=v7))=true then
  ((fbits .f64 v2).bind fun v8 =>
  (fbits .f64 v4).bind fun v9 =>
  some ((decide (v8=v9))))
 else
  (some (false))
noncomputable def eF(v1:(List (Nat×Nat)))(v2:(List (Nat×Nat))):(Int)→Option ((Int) ⊕ ((Unit) ⊕ (Unit))):=fun v4 =>
 if (decide (v4<(v1.length:Int)))=true then
  ((bE v1 v4).bind fun (v14,v15) =>
  (f2f .f32 v14 .f64).bind fun v16 =>
  (f2f .f32 v15 .f64).bind fun v17 =>
  (bE v2 v4).bind fun (v18,v19) =>
  (f2f .f32 v18 .f64).bind fun v20 =>
  (f2f .f32 v19 .f64).bind fun v21 =>
  (nR v16 v17 v20 v21).bind fun v22 =>
  if v22=true then
   (some (.inl (IntKind.i64.wrap (v4+1))))
  else
   (some (.inr (.inl ()))))
 else
  (some (.inr (.inr ())))
noncomputable def aQ(v1:(List (Nat×Nat)))(v2:(List (Nat×Nat))):Option (Bool):=
 if (decide ((v1.length:Int)≠(v2.length:Int)))=true then
  (some (false))
 else
  ((run (eF v1 v2) 0).bind fun v23=>match v23 with
  | (.inl _) =>
   some (false)
  | (.inr _) =>
   some (true))
noncomputable def fM(v1:(List (Int×Int)))(v2:Int)(v3:(List Int))(v4:Int)(v5:Int)(v6:Int):Option Bool:=
 if (decide ((v1.length:Int)=0))=true then
  (some (true))
 else
  (if (decide ((v1.length:Int)>31))=true then
   (some (true))
  else
   ((gF v2 v3 v4).bind fun v8 =>
   if v8=true then
    ((gN v2 v3).bind fun v9 =>
    if (decide ((v1.length:Int)>v9))=true then
     (some (true))
    else
     ((aN v5 1 40).bind fun v10 =>
     if v10=true then
      ((aN v6 1 1000).bind fun v11 =>
      if v11=true then
       ((jB v1 1000).bind fun (v12,v13) =>
       if v13=true then
        ((mB v5 v6).bind fun (v14,v15) =>
        (iP v12).bind fun v16 =>
        (iP v14).bind fun v17 =>
        (fG v16 v17).bind fun (v18,v19) =>
        (gE v18 v14).bind fun (v20,v21) =>
        (iP v12).bind fun v22 =>
        (jN v2 v3).bind fun (v23,v24) =>
        (eX v22 v23 v24 v4).bind fun (v25,v26) =>
        (jN v2 v3).bind fun (v27,v28) =>
        (gJ v25 v27 v28 v4).bind fun (v29,v30) =>
        if (decide (v15≠0))=true then
         (some (false))
        else
         (if (decide (v19≠0))=true then
          (some (false))
         else
          (if (decide (v21≠0))=true then
           (some (false))
          else
           (if (decide (v26≠0))=true then
            (some (false))
           else
            (if (decide (v30≠0))=true then
             (some (false))
            else
             (if (decide ((v20.length:Int)<(v12.length:Int)))=true then
              (some (false))
             else
              (if (decide ((v29.length:Int)<(v12.length:Int)))=true then
               (some (false))
              else
               ((Mn v20 (v12.length:Int)).bind fun v31 =>
               (aQ (v20.take v31) v12).bind fun v32 =>
               if v32=true then
                ((Mn v29 (v12.length:Int)).bind fun v33 =>
                (aQ (v29.take v33) v12).bind fun v34 =>
                some (v34))
               else
                (some (false))))))))))
       else
        (some (true)))
      else
       (some (true)))
     else
      (some (true))))
   else
    (some (true))))
noncomputable def cJ(v1:Nat):Option (Bool):=
 (f2f .f32 v1 .f64).bind fun v3 =>
 (lV v3).bind fun v4 =>
 if (fcmp .eql .f64 v3 v4)=true then
  ((nE v3 0).bind fun v5 =>
  some ((!v5)))
 else
  (some (false))
noncomputable def iS(v1:Bool)(v2:Int):Option (Int):=
 if v1=true then
  (some (v2))
 else
  (some (0))
noncomputable def uH(v1:(List Int)):(Int)→Option ((Int) ⊕ ((Int) ⊕ (Unit))):=fun v3 =>
 if (decide (v3<(v1.length:Int)))=true then
  ((bE v1 v3).bind fun v6 =>
  if (decide (v6≠0))=true then
   (some (.inr (.inl v6)))
  else
   (some (.inl (IntKind.i64.wrap (v3+1)))))
 else
  (some (.inr (.inr ())))
noncomputable def kM(v1:(List Int)):Option (Int):=
 (run (uH v1) 0).bind fun v7=>match v7 with
 | (.inl v8) =>
  some (v8)
 | (.inr _) =>
  some (0)
noncomputable def xE(v1:Nat):Option (Int):=
 (cJ v1).bind fun v3 =>
 (iS (!v3) 27).bind fun v4 =>
 if (fcmp .lss .f32 v1 3338665472)=true then
  ((iS true 2).bind fun v5 =>
  (kM ([v4,v5]:List Int)).bind fun v6 =>
  some (v6))
 else
  ((iS (fcmp .gtr .f32 v1 1191181824) 2).bind fun v7 =>
  (kM ([v4,v7]:List Int)).bind fun v8 =>
  some (v8))
noncomputable def gB(v1:Nat):Option (Bool):=
 if (fcmp .neq .f64 v1 v1)=true then
  (some (false))
 else
  ((farith .sub .f64 v1 v1).bind fun v3 =>
  if (fcmp .neq .f64 v3 0)=true then
   (some (false))
  else
   (if (fcmp .geq .f64 v1 14069741636278059008)=true then
    (if (fcmp .leq .f64 v1 4846369599423283200)=true then
     ((f2i .f64 v1 .i64).bind fun v4 =>
     some ((fcmp .eql .f64 (FloatKind.f64.nearest v4) v1)))
    else
     (some (true)))
   else
    (some (true))))
noncomputable def qR(v1:Int)(v2:Int)(v3:Int):Option (Int):=
 if (decide (v1<v2))=true then
  ((iS true 2).bind fun v5 =>
  some (v5))
 else
  ((iS (decide (v1>v3)) 2).bind fun v6 =>
  some (v6))
noncomputable def Ad(v1:Int):Option (Int):=
 (qR v1 8000 192000).bind fun v3 =>
 some (v3)
noncomputable def rQ(v2:(List Nat)):(Int)→Option ((Int) ⊕ ((Int×Int) ⊕ (Unit))):=fun v9 =>
 if (decide (v9<(v2.length:Int)))=true then
  ((bE v2 v9).bind fun v14 =>
  (xE v14).bind fun v15 =>
  if (decide (v15≠0))=true then
   (some (.inr (.inl (v9,v15))))
  else
   (some (.inl (IntKind.i64.wrap (v9+1)))))
 else
  (some (.inr (.inr ())))
noncomputable def tN(v1:Int)(v2:(List Nat)):Option (Int×Int):=
 (Ad v1).bind fun v5 =>
 (iS (decide ((v2.length:Int)=0)) 10).bind fun v6 =>
 (iS (decide ((v2.length:Int)>1024)) 8).bind fun v7 =>
 (kM ([v5,v6,v7]:List Int)).bind fun v8 =>
 if (decide (v8≠0))=true then
  (some (0,v8))
 else
  ((run (rQ v2) 0).bind fun v16=>match v16 with
  | (.inl (v17,v18)) =>
   some (v17,v18)
  | (.inr _) =>
   some (0,0))
noncomputable def Ua(v1:Int)(v2:(List Nat))(v3:Int)(v4:Int):Option (Int×Int):=
 (tN v1 v2).bind fun (v7,v8) =>
 if (decide (v8≠0))=true then
  (some (v7,v8))
 else
  ((qR v3 0 32767).bind fun v9 =>
  (qR v4 0 1000000000000).bind fun v10 =>
  (kM ([v9,v10]:List Int)).bind fun v11 =>
  some (0,v11))
noncomputable def Kg(v1:Int):Option (Bool):=
 (aN v1 8000 192000).bind fun v3 =>
 some (v3)
noncomputable def sA(v2:(List Nat)):(Int)→Option ((Int) ⊕ ((Int×Int) ⊕ (Unit))):=fun v6 =>
 if (decide (v6<(v2.length:Int)))=true then
  ((bE v2 v6).bind fun v12 =>
  (f2f .f32 v12 .f64).bind fun v13 =>
  (gB v13).bind fun v14 =>
  if v14=true then
   (if (fcmp .gtr .f64 v13 4674736138332667904)=true then
    (some (.inr (.inl (v6,2))))
   else
    (if (fcmp .lss .f64 v13 13898108175187443712)=true then
     (some (.inr (.inl (v6,2))))
    else
     (some (.inl (IntKind.i64.wrap (v6+1))))))
  else
   (some (.inr (.inl (v6,27)))))
 else
  (some (.inr (.inr ())))
noncomputable def vR(v1:Int)(v2:(List Nat)):Option (Int×Int):=
 (Kg v1).bind fun v5 =>
 if v5=true then
  (if (decide ((v2.length:Int)=0))=true then
   (some (0,10))
  else
   (if (decide ((v2.length:Int)>1024))=true then
    (some (0,8))
   else
    ((run (sA v2) 0).bind fun v15=>match v15 with
    | (.inl (v16,v17)) =>
     some (v16,v17)
    | (.inr _) =>
     some (0,0))))
 else
  (some (0,2))
noncomputable def Wr(v1:Int)(v2:(List Nat))(v3:Int)(v4:Int):Option (Int×Int):=
 (vR v1 v2).bind fun (v7,v8) =>
 if (decide (v8≠0))=true then
  (some (v7,v8))
 else
  ((aN v3 0 32767).bind fun v9 =>
  if v9=true then
   ((aN v4 0 1000000000000).bind fun v10 =>
   if v10=true then
    (some (0,0))
   else
    (some (0,2)))
  else
   (some (0,2)))
noncomputable def iZ(v1:(List (Nat×Nat))):(Int)→Option ((Int) ⊕ ((Int) ⊕ (Unit))):=fun v3 =>
 if (decide (v3<(v1.length:Int)))=true then
  ((bE v1 v3).bind fun (v11,v12) =>
  (f2f .f32 v11 .f64).bind fun v13 =>
  (f2f .f32 v12 .f64).bind fun v14 =>
  (gB v13).bind fun v15 =>
  if v15=true then
   ((gB v14).bind fun v16 =>
   if v16=true then
    (if (fcmp .gtr .f64 v13 4715268809856909312)=true then
     (some (.inr (.inl 2)))
    else
     (if (fcmp .lss .f64 v13 13938640846711685120)=true then
      (some (.inr (.inl 2)))
     else
      (if (fcmp .gtr .f64 v14 4715268809856909312)=true then
       (some (.inr (.inl 2)))
      else
       (if (fcmp .lss .f64 v14 13938640846711685120)=true then
        (some (.inr (.inl 2)))
       else
        (some (.inl (IntKind.i64.wrap (v3+1))))))))
   else
    (some (.inr (.inl 27))))
  else
   (some (.inr (.inl 27))))
 else
  (some (.inr (.inr ())))
noncomputable def iN(v1:(List (Nat×Nat))):Option (Int):=
 if (decide ((v1.length:Int)=0))=true then
  (some (10))
 else
  (if (decide ((v1.length:Int)>1024))=true then
   (some (8))
  else
   ((run (iZ v1) 0).bind fun v17=>match v17 with
   | (.inl v18) =>
    some (v18)
   | (.inr _) =>
    some (0)))
noncomputable def vT(v1:(List (Nat×Nat)))(v2:(List (Nat×Nat))):Option (Int):=
 (iN v1).bind fun v4 =>
 if (decide (v4≠0))=true then
  (some (v4))
 else
  ((iN v2).bind fun v5 =>
  some (v5))
noncomputable def pM(v1:(List (Nat×Nat))):((List (Int×Int))×Int)→Option (((List (Int×Int))×Int) ⊕ (((List (Int×Int))))):=fun (v3,v4) =>
 if (decide (v4<(v1.length:Int)))=true then
  ((bE v1 v4).bind fun (v11,v12) =>
  (f2i .f32 v11 .i64).bind fun v13 =>
  (f2i .f32 v12 .i64).bind fun v14 =>
  (jD 16 v3 ([(v13,v14)]:List (Int×Int))).bind fun v15 =>
  some (.inl (v15,(IntKind.i64.wrap (v4+1)))))
 else
  (some (.inr v3))
noncomputable def fC(v1:(List (Nat×Nat))):Option ((List (Int×Int))):=
 (run (pM v1) (([]:List (Int×Int)),0)).bind fun v16 =>
 some (v16)
noncomputable def rS(v1:Int):Option (Int):=
 some ((if (IntKind.i64.wrap (0-v1))>v1 then (IntKind.i64.wrap (0-v1)) else v1))
noncomputable def dL(v1:(List (Int×Int))):((List (Nat×Nat))×Int)→Option (((List (Nat×Nat))×Int) ⊕ ((Unit) ⊕ ((List (Nat×Nat))))):=fun (v4,v5) =>
 if (decide (v5<(v1.length:Int)))=true then
  ((bE v1 v5).bind fun (v12,v13) =>
  (rS v12).bind fun v14 =>
  if (decide (v14>16777216))=true then
   (some (.inr (.inl ())))
  else
   ((rS v13).bind fun v15 =>
   if (decide (v15>16777216))=true then
    (some (.inr (.inl ())))
   else
    ((jD 8 v4 ([((FloatKind.f32.nearest v12),(FloatKind.f32.nearest v13))]:List (Nat×Nat))).bind fun v16 =>
    some (.inl (v16,(IntKind.i64.wrap (v5+1)))))))
 else
  (some (.inr (.inr v4)))
noncomputable def wM(v1:(List (Int×Int))):Option ((List (Nat×Nat))×Bool):=
 (run (dL v1) (([]:List (Nat×Nat)),0)).bind fun v17=>match v17 with
 | (.inl _) =>
  some (([]:List (Nat×Nat)),false)
 | (.inr v18) =>
  some (v18,true)
noncomputable def gP(v1:(List (Int×Int))):Option ((List (Nat×Nat))×Int):=
 (wM v1).bind fun (v4,v5) =>
 if v5=true then
  (some (v4,0))
 else
  (some (([]:List (Nat×Nat)),8))
noncomputable def vB(v1:(List (Nat×Nat))):Option (Bool):=
 if (decide ((v1.length:Int)≤40))=true then
  (some (true))
 else
  (if (decide ((v1.length:Int)>1024))=true then
   (some ((decide ((v1.length:Int)≤1026))))
  else
   (some (false)))
noncomputable def Fo(v1:(List (Nat×Nat))):((List (Nat×Nat))×Int)→Option (((List (Nat×Nat))×Int) ⊕ (((List (Nat×Nat))))):=fun (v3,v4) =>
 if (decide (v4<(v1.length:Int)))=true then
  ((bE v1 v4).bind fun (v9,v10) =>
  (jD 8 v3 ([(v9,v10)]:List (Nat×Nat))).bind fun v11 =>
  some (.inl (v11,(IntKind.i64.wrap (v4+1)))))
 else
  (some (.inr v3))
noncomputable def bZ(v1:(List (Nat×Nat))):Option ((List (Nat×Nat))):=
 (run (Fo v1) (([]:List (Nat×Nat)),0)).bind fun v12 =>
 some (v12)
noncomputable def nU(v1:Int)(v2:Int)(v3:Int)(v4:Int):Option (Int×Int):=
 some ((IntKind.i64.wrap ((IntKind.i64.wrap (v1*v3))-(IntKind.i64.wrap (v2*v4)))),(IntKind.i64.wrap ((IntKind.i64.wrap (v1*v4))+(IntKind.i64.wrap (v2*v3)))))
noncomputable def iY(v6:(List (Int×Int)))(v7:(List (Int×Int)))(v10:Int):((List (Int×Int))×Int)→Option (((List (Int×Int))×Int) ⊕ (((List (Int×Int))))):=fun (v32,v33) =>
 if (decide (v33<(v7.length:Int)))=true then
  ((bE v6 v10).bind fun (v43,v44) =>
  (bE v7 v33).bind fun (v45,v46) =>
  (nU v43 v44 v45 v46).bind fun (v47,v48) =>
  (bE v32 (IntKind.i64.wrap (v10+v33))).bind fun (v49,v50) =>
  some (.inl ((v32.set ((IntKind.i64.wrap (v10+v33))).toNat ((IntKind.i64.wrap (v49+v47)),(IntKind.i64.wrap (v50+v48)))),(IntKind.i64.wrap (v33+1)))))
 else
  (some (.inr v32))
noncomputable def kQ(v6:(List (Int×Int)))(v7:(List (Int×Int))):((List (Int×Int))×Int)→Option (((List (Int×Int))×Int) ⊕ (((List (Int×Int))))):=fun (v9,v10) =>
 if (decide (v10<(v6.length:Int)))=true then
  ((run (iY v6 v7 v10) (v9,0)).bind fun v51 =>
  some (.inl (v51,(IntKind.i64.wrap (v10+1)))))
 else
  (some (.inr v9))
noncomputable def La(v1:(List (Nat×Nat)))(v2:(List (Nat×Nat))):Option ((List (Nat×Nat))×Int):=
 (vT v1 v2).bind fun v5 =>
 if (decide (v5≠0))=true then
  (some (([]:List (Nat×Nat)),v5))
 else
  (if (decide ((IntKind.i64.wrap ((IntKind.i64.wrap ((v1.length:Int)+(v2.length:Int)))-1))>1024))=true then
   (some (([]:List (Nat×Nat)),8))
  else
   ((fC v1).bind fun v6 =>
   (fC v2).bind fun v7 =>
   (mkI 16 (IntKind.i64.wrap ((IntKind.i64.wrap ((v1.length:Int)+(v2.length:Int)))-1)) ((0,0):(Int×Int))).bind fun v8 =>
   (run (kQ v6 v7) (v8,0)).bind fun v52 =>
   (gP v52).bind fun (v53,v54) =>
   some (v53,v54)))
noncomputable def wH(v1:Int):Option (Int×Int):=
 (bE ([(1,0),(0,1),((-1),0),(0,(-1))]:List (Int×Int)) (v1.tmod 4)).bind fun (v4,v5) =>
 some (v4,v5)
noncomputable def Ah(v7:(List (Int×Int))):(Int×Int)→Option ((Int×Int) ⊕ ((Int))):=fun (v8,v9) =>
 if (decide (v9<4))=true then
  ((bE v7 0).bind fun (v15,v16) =>
  (wH v9).bind fun (v17,v18) =>
  if ([v15==v17,v16==v18].all id)=true then
   (some (.inl (v9,(IntKind.i64.wrap (v9+1)))))
  else
   (some (.inl (v8,(IntKind.i64.wrap (v9+1))))))
 else
  (some (.inr v8))
noncomputable def Ae(v7:(List (Int×Int)))(v20:(List (Int×Int)))(v21:Int):(Int×Int×Int)→Option ((Int×Int×Int) ⊕ ((Int×Int))):=fun (v53,v54,v55) =>
 if (decide (v55≤v21))=true then
  (if (decide (v55<(v7.length:Int)))=true then
   ((bE v20 (IntKind.i64.wrap (v21-v55))).bind fun (v64,v65) =>
   (bE v7 v55).bind fun (v66,v67) =>
   (nU v64 v65 v66 v67).bind fun (v68,v69) =>
   some (.inl ((IntKind.i64.wrap (v53-v68)),(IntKind.i64.wrap (v54-v69)),(IntKind.i64.wrap (v55+1)))))
  else
   (some (.inr (v53,v54))))
 else
  (some (.inr (v53,v54)))
noncomputable def zM(v6:(List (Int×Int)))(v7:(List (Int×Int)))(v19:Int):((List (Int×Int))×Int)→Option (((List (Int×Int))×Int) ⊕ ((Unit) ⊕ ((List (Int×Int))))):=fun (v20,v21) =>
 if (decide (v21<(v6.length:Int)))=true then
  ((bE v6 v21).bind fun (v51,v52) =>
  (run (Ae v7 v20 v21) (v51,v52,1)).bind fun (v70,v71) =>
  (wH (IntKind.i64.wrap (4-v19))).bind fun (v72,v73) =>
  (nU v70 v71 v72 v73).bind fun (v74,v75) =>
  (rS v74).bind fun v76 =>
  if (decide (v76>16777216))=true then
   (some (.inr (.inl ())))
  else
   ((rS v75).bind fun v77 =>
   if (decide (v77>16777216))=true then
    (some (.inr (.inl ())))
   else
    ((jD 16 v20 ([(v74,v75)]:List (Int×Int))).bind fun v78 =>
    some (.inl (v78,(IntKind.i64.wrap (v21+1)))))))
 else
  (some (.inr (.inr v20)))
noncomputable def Fm(v1:(List (Nat×Nat)))(v2:(List (Nat×Nat))):Option ((List (Nat×Nat))×Int):=
 (vT v1 v2).bind fun v5 =>
 if (decide (v5≠0))=true then
  (some (([]:List (Nat×Nat)),v5))
 else
  ((fC v1).bind fun v6 =>
  (fC v2).bind fun v7 =>
  (run (Ah v7) ((-1),0)).bind fun v19 =>
  if (decide (v19<0))=true then
   (some (([]:List (Nat×Nat)),15))
  else
   ((run (zM v6 v7 v19) (([]:List (Int×Int)),0)).bind fun v79=>match v79 with
   | (.inl _) =>
    some (([]:List (Nat×Nat)),8)
   | (.inr v80) =>
    (gP v80).bind fun (v81,v82) =>
    some (v81,v82)))
noncomputable def Ra(v1:(List (Nat×Nat)))(v2:(List (Nat×Nat))):Option Bool:=
 (vB v1).bind fun v4 =>
 if v4=true then
  ((vB v2).bind fun v5 =>
  if v5=true then
   ((bZ v1).bind fun v6 =>
   (bZ v2).bind fun v7 =>
   (fG v6 v7).bind fun (v8,v9) =>
   (bZ v1).bind fun v10 =>
   (bZ v2).bind fun v11 =>
   (gE v10 v11).bind fun (v12,v13) =>
   (bZ v1).bind fun v14 =>
   (bZ v2).bind fun v15 =>
   (La v14 v15).bind fun (v16,v17) =>
   (bZ v1).bind fun v18 =>
   (bZ v2).bind fun v19 =>
   (Fm v18 v19).bind fun (v20,v21) =>
   if (decide (v9=v17))=true then
    ((aQ v8 v16).bind fun v22 =>
    if v22=true then
     (if (decide (v13=v21))=true then
      ((aQ v12 v20).bind fun v23 =>
      some (v23))
     else
      (some (false)))
    else
     (some (false)))
   else
    (some (false)))
  else
   (some (true)))
 else
  (some (true))
noncomputable def pZ:((List Int)×Int)→Option (((List Int)×Int) ⊕ (((List Int)))):=fun (v7,v8) =>
 if (decide (v8<(v7.length:Int)))=true then
  ((bE v7 v8).bind fun v11 =>
  some (.inl ((v7.set v8.toNat (IntKind.i64.wrap (1-(IntKind.i64.wrap (2*v11))))),(IntKind.i64.wrap (v8+1)))))
 else
  (some (.inr v7))
noncomputable def mE(v1:Int)(v2:(List Int))(v3:Int):Option ((List Int)):=
 (gN v1 v2).bind fun v5 =>
 (nL v1 v2 v3 v5).bind fun v6 =>
 (run (pZ) (v6,0)).bind fun v12 =>
 some (v12)
noncomputable def tG(v1:(List (Nat×Nat)))(v2:Bool)(v3:Int):Option (Int):=
 (aT v1).bind fun v5 =>
 if (decide (v5≠0))=true then
  (some (v5))
 else
  ((aA v2 v3).bind fun v6 =>
  if (decide (v6≠0))=true then
   (some (v6))
  else
   (some (0)))
noncomputable def xJ(v1:(List (Nat×Nat)))(v2:Int):Option ((List (Nat×Nat))×Int):=
 (cK v1).bind fun v5 =>
 (dW v2 1 1024).bind fun (v6,v7) =>
 (tG v5 v6 v7).bind fun v8 =>
 if (decide (v8≠0))=true then
  (some (([]:List (Nat×Nat)),v8))
 else
  ((aY v1).bind fun v9 =>
  (gM v9 v2).bind fun v10 =>
  (bR v10).bind fun (v11,v12) =>
  some (v11,v12))
noncomputable def jT(v1:(List (Int×Int)))(v2:Int):((List (Int×Int))×Int)→Option (((List (Int×Int))×Int) ⊕ (((List (Int×Int))))):=fun (v5,v6) =>
 if (decide (v6<(v1.length:Int)))=true then
  (if v2=0 then none else
  ((bE v5 (v6.tmod v2)).bind fun (v14,v15) =>
  (bE v1 v6).bind fun (v16,v17) =>
  (bE (v5.set ((v6.tmod v2)).toNat ((IntKind.i64.wrap (v14+v16)),v15)) (v6.tmod v2)).bind fun (v18,v19) =>
  some (.inl (((v5.set ((v6.tmod v2)).toNat ((IntKind.i64.wrap (v14+v16)),v15)).set ((v6.tmod v2)).toNat (v18,(IntKind.i64.wrap (v19+v17)))),(IntKind.i64.wrap (v6+1))))))
 else
  (some (.inr v5))
noncomputable def jS(v1:(List (Int×Int)))(v2:Int):Option ((List (Int×Int))):=
 (mkI 16 v2 ((0,0):(Int×Int))).bind fun v4 =>
 (run (jT v1 v2) (v4,0)).bind fun v20 =>
 some (v20)
noncomputable def xP(v1:(List (Nat×Nat)))(v2:Int):Option ((List (Nat×Nat))×Int):=
 (iN v1).bind fun v5 =>
 if (decide (v5≠0))=true then
  (some (([]:List (Nat×Nat)),v5))
 else
  ((aN v2 1 1024).bind fun v6 =>
  if v6=true then
   ((fC v1).bind fun v7 =>
   (jS v7 v2).bind fun v8 =>
   (gP v8).bind fun (v9,v10) =>
   some (v9,v10))
  else
   (some (([]:List (Nat×Nat)),2)))
noncomputable def kR(v1:Int)(v2:Int):Option (Int):=
 if v2=0 then none else
 (if (decide ((v1.tmod v2)<0))=true then
  (some ((IntKind.i64.wrap ((v1.tmod v2)+v2))))
 else
  (some ((v1.tmod v2))))
noncomputable def bU(v1:(List (Int×Int)))(v2:(List Int))(v3:Bool)(v7:Int):((List (Int×Int))×Int)→Option (((List (Int×Int))×Int) ⊕ (((List (Int×Int))))):=fun (v53,v54) =>
 if (decide (v54<(v2.length:Int)))=true then
  (if v3=true then
   ((bE v53 v54).bind fun (v76,v77) =>
   (bE v1 v7).bind fun (v78,v79) =>
   (kR (IntKind.i64.wrap (v7-v54)) (v2.length:Int)).bind fun v80 =>
   (bE v2 v80).bind fun v81 =>
   (bE (v53.set v54.toNat ((IntKind.i64.wrap (v76+(IntKind.i64.wrap (v78*v81)))),v77)) v54).bind fun (v82,v83) =>
   (kR (IntKind.i64.wrap (v7-v54)) (v2.length:Int)).bind fun v84 =>
   (bE v2 v84).bind fun v85 =>
   some (.inl (((v53.set v54.toNat ((IntKind.i64.wrap (v76+(IntKind.i64.wrap (v78*v81)))),v77)).set v54.toNat (v82,(IntKind.i64.wrap (v83+(IntKind.i64.wrap (v79*v85)))))),(IntKind.i64.wrap (v54+1)))))
  else
   ((bE v53 v7).bind fun (v86,v87) =>
   (bE v1 v54).bind fun (v88,v89) =>
   (kR (IntKind.i64.wrap (v7-v54)) (v2.length:Int)).bind fun v90 =>
   (bE v2 v90).bind fun v91 =>
   (bE (v53.set v7.toNat ((IntKind.i64.wrap (v86+(IntKind.i64.wrap (v88*v91)))),v87)) v7).bind fun (v92,v93) =>
   (kR (IntKind.i64.wrap (v7-v54)) (v2.length:Int)).bind fun v94 =>
   (bE v2 v94).bind fun v95 =>
   some (.inl (((v53.set v7.toNat ((IntKind.i64.wrap (v86+(IntKind.i64.wrap (v88*v91)))),v87)).set v7.toNat (v92,(IntKind.i64.wrap (v93+(IntKind.i64.wrap (v89*v95)))))),(IntKind.i64.wrap (v54+1))))))
 else
  (some (.inr v53))
noncomputable def fS(v1:(List (Int×Int)))(v2:(List Int))(v3:Bool):((List (Int×Int))×Int)→Option (((List (Int×Int))×Int) ⊕ (((List (Int×Int))))):=fun (v6,v7) =>
 if (decide (v7<(v2.length:Int)))=true then
  ((run (bU v1 v2 v3 v7) (v6,0)).bind fun v96 =>
  some (.inl (v96,(IntKind.i64.wrap (v7+1)))))
 else
  (some (.inr v6))
noncomputable def iE(v1:(List (Int×Int)))(v2:(List Int))(v3:Bool):Option ((List (Int×Int))):=
 (mkI 16 (v2.length:Int) ((0,0):(Int×Int))).bind fun v5 =>
 (run (fS v1 v2 v3) (v5,0)).bind fun v97 =>
 some (v97)
noncomputable def nP(v1:(List (Nat×Nat)))(v2:Int)(v3:(List Int))(v4:Int):Option ((List (Nat×Nat))×Int):=
 (iN v1).bind fun v7 =>
 if (decide (v7≠0))=true then
  (some (([]:List (Nat×Nat)),v7))
 else
  ((dZ v2 v3 v4).bind fun v8 =>
  if (decide (v8≠0))=true then
   (some (([]:List (Nat×Nat)),v8))
  else
   ((fC v1).bind fun v9 =>
   (gN v2 v3).bind fun v10 =>
   (jS v9 v10).bind fun v11 =>
   (gP v11).bind fun (v12,v13) =>
   if (decide (v13≠0))=true then
    (some (([]:List (Nat×Nat)),v13))
   else
    ((mE v2 v3 v4).bind fun v14 =>
    (iE v11 v14 false).bind fun v15 =>
    (gP v15).bind fun (v16,v17) =>
    some (v16,v17))))
noncomputable def Qk(v1:(List (Nat×Nat)))(v2:Int)(v3:(List Int))(v4:Int)(v5:Int):Option Bool:=
 (vB v1).bind fun v7 =>
 if v7=true then
  (if (decide ((v3.length:Int)>12))=true then
   (some (true))
  else
   (if (decide (v5>300))=true then
    (if (decide (v5≤1024))=true then
     (some (true))
    else
     ((bZ v1).bind fun v8 =>
     (xJ v8 v5).bind fun (v9,v10) =>
     (bZ v1).bind fun v11 =>
     (jN v2 v3).bind fun (v12,v13) =>
     (eX v11 v12 v13 v4).bind fun (v14,v15) =>
     (bZ v1).bind fun v16 =>
     (xP v16 v5).bind fun (v17,v18) =>
     (bZ v1).bind fun v19 =>
     (nP v19 v2 v3 v4).bind fun (v20,v21) =>
     if (decide (v10=v18))=true then
      ((aQ v9 v17).bind fun v22 =>
      if v22=true then
       (if (decide (v15=v21))=true then
        ((aQ v14 v20).bind fun v23 =>
        some (v23))
       else
        (some (false)))
      else
       (some (false)))
     else
      (some (false))))
   else
    ((bZ v1).bind fun v24 =>
    (xJ v24 v5).bind fun (v25,v26) =>
    (bZ v1).bind fun v27 =>
    (jN v2 v3).bind fun (v28,v29) =>
    (eX v27 v28 v29 v4).bind fun (v30,v31) =>
    (bZ v1).bind fun v32 =>
    (xP v32 v5).bind fun (v33,v34) =>
    (bZ v1).bind fun v35 =>
    (nP v35 v2 v3 v4).bind fun (v36,v37) =>
    if (decide (v26=v34))=true then
     ((aQ v25 v33).bind fun v38 =>
     if v38=true then
      (if (decide (v31=v37))=true then
       ((aQ v30 v36).bind fun v39 =>
       some (v39))
      else
       (some (false)))
     else
      (some (false)))
    else
     (some (false)))))
 else
  (some (true))
noncomputable def sP(v1:Int)(v2:Int):Option (Int):=
 if v2=0 then none else
 (if (decide ((v1.tmod v2)<0))=true then
  (some ((IntKind.i64.wrap ((IntKind.i64.wrap (v1.tdiv v2))-1))))
 else
  (some ((IntKind.i64.wrap (v1.tdiv v2)))))
noncomputable def qP:(Unit)→Option ((Unit) ⊕ ((Unit))):=fun _ =>
 some (.inr ())
noncomputable def fK(v10:Int)(v13:Int)(v14:Int):((List (Int×Int))×Int)→Option (((List (Int×Int))×Int) ⊕ ((Unit) ⊕ ((List (Int×Int))))):=fun (v17,v18) =>
 if (decide (v18<v10))=true then
  ((bE v17 v18).bind fun (v28,v29) =>
  (kR (IntKind.i64.wrap (v28-v13)) (IntKind.i64.wrap (v10+1))).bind fun v30 =>
  if (decide (v30≠0))=true then
   (some (.inr (.inl ())))
  else
   ((sP (IntKind.i64.wrap (v28-v13)) (IntKind.i64.wrap (v10+1))).bind fun v31 =>
   (bE (v17.set v18.toNat (v31,v29)) v18).bind fun (v32,v33) =>
   (kR (IntKind.i64.wrap (v33-v14)) (IntKind.i64.wrap (v10+1))).bind fun v34 =>
   if (decide (v34≠0))=true then
    (some (.inr (.inl ())))
   else
    ((sP (IntKind.i64.wrap (v33-v14)) (IntKind.i64.wrap (v10+1))).bind fun v35 =>
    (run (qP) ()).bind fun _ =>
    some (.inl (((v17.set v18.toNat (v31,v29)).set v18.toNat (v32,v35)),(IntKind.i64.wrap (v18+1)))))))
 else
  (some (.inr (.inr v17)))
noncomputable def pK(v1:(List (Nat×Nat)))(v2:Int)(v3:(List Int))(v4:Int):Option ((List (Nat×Nat))×Int):=
 (iN v1).bind fun v7 =>
 if (decide (v7≠0))=true then
  (some (([]:List (Nat×Nat)),v7))
 else
  ((dZ v2 v3 v4).bind fun v8 =>
  if (decide (v8≠0))=true then
   (some (([]:List (Nat×Nat)),v8))
  else
   ((iA v2 v3).bind fun v9 =>
   if v9=true then
    ((gN v2 v3).bind fun v10 =>
    if (decide ((v1.length:Int)≠v10))=true then
     (some (([]:List (Nat×Nat)),13))
    else
     ((fC v1).bind fun v11 =>
     (jS v11 1).bind fun v12 =>
     (bE v12 0).bind fun (v13,v14) =>
     (mE v2 v3 v4).bind fun v15 =>
     (iE v11 v15 true).bind fun v16 =>
     (run (fK v10 v13 v14) (v16,0)).bind fun v36=>match v36 with
     | (.inl _) =>
      some (([]:List (Nat×Nat)),20)
     | (.inr v37) =>
      (gP v37).bind fun (v38,v39) =>
      some (v38,v39)))
   else
    (some (([]:List (Nat×Nat)),22))))
noncomputable def Po(v1:(List (Nat×Nat)))(v2:Int)(v3:(List Int))(v4:Int):Option Bool:=
 (vB v1).bind fun v6 =>
 if v6=true then
  (if (decide ((v3.length:Int)>12))=true then
   (some (true))
  else
   ((bZ v1).bind fun v7 =>
   (jN v2 v3).bind fun (v8,v9) =>
   (gJ v7 v8 v9 v4).bind fun (v10,v11) =>
   (bZ v1).bind fun v12 =>
   (pK v12 v2 v3 v4).bind fun (v13,v14) =>
   if (decide (v11=v14))=true then
    ((aQ v10 v13).bind fun v15 =>
    some (v15))
   else
    (some (false))))
 else
  (some (true))
noncomputable def tD(v1:(List (Int×Int)))(v2:(List (Int×Int))):((List (Nat×Nat))×(List (Nat×Nat))×(List (Nat×Nat))×Int)→Option (((List (Nat×Nat))×(List (Nat×Nat))×(List (Nat×Nat))×Int) ⊕ ((Unit) ⊕ ((List (Nat×Nat))×(List (Nat×Nat))×(List (Nat×Nat))))):=fun (v8,v9,v10,v11) =>
 if (decide (v11<(v1.length:Int)))=true then
  ((bE v1 v11).bind fun (v41,v42) =>
  if (decide (v11<(v2.length:Int)))=true then
   ((bE v2 v11).bind fun (v43,v44) =>
   (aN v43 (-10000) 10000).bind fun v45 =>
   if v45=true then
    ((aN v44 (-10000) 10000).bind fun v46 =>
    if v46=true then
     ((aN v41 (-10000) 10000).bind fun v47 =>
     if v47=true then
      ((aN v42 (-10000) 10000).bind fun v48 =>
      if v48=true then
       ((iF v41 v42).bind fun (v49,v50) =>
       (jD 8 v8 ([(v49,v50)]:List (Nat×Nat))).bind fun v51 =>
       (iF v43 v44).bind fun (v52,v53) =>
       (jD 8 v9 ([(v52,v53)]:List (Nat×Nat))).bind fun v54 =>
       (jD 8 v10 ([((FloatKind.f32.nearest (IntKind.i64.wrap (v43+v41))),(FloatKind.f32.nearest (IntKind.i64.wrap (v44+v42))))]:List (Nat×Nat))).bind fun v55 =>
       some (.inl (v51,v54,v55,(IntKind.i64.wrap (v11+1)))))
      else
       (some (.inr (.inl ()))))
     else
      (some (.inr (.inl ()))))
    else
     (some (.inr (.inl ()))))
   else
    (some (.inr (.inl ()))))
  else
   ((aN 0 (-10000) 10000).bind fun v56 =>
   if v56=true then
    ((aN 0 (-10000) 10000).bind fun v57 =>
    if v57=true then
     ((aN v41 (-10000) 10000).bind fun v58 =>
     if v58=true then
      ((aN v42 (-10000) 10000).bind fun v59 =>
      if v59=true then
       ((iF v41 v42).bind fun (v60,v61) =>
       (jD 8 v8 ([(v60,v61)]:List (Nat×Nat))).bind fun v62 =>
       (iF 0 0).bind fun (v63,v64) =>
       (jD 8 v9 ([(v63,v64)]:List (Nat×Nat))).bind fun v65 =>
       (jD 8 v10 ([((FloatKind.f32.nearest (IntKind.i64.wrap (0+v41))),(FloatKind.f32.nearest (IntKind.i64.wrap (0+v42))))]:List (Nat×Nat))).bind fun v66 =>
       some (.inl (v62,v65,v66,(IntKind.i64.wrap (v11+1)))))
      else
       (some (.inr (.inl ()))))
     else
      (some (.inr (.inl ()))))
    else
     (some (.inr (.inl ()))))
   else
    (some (.inr (.inl ())))))
 else
  (some (.inr (.inr (v8,v9,v10))))
noncomputable def tC(v75:(List (Nat×Nat)))(v78:(List (Nat×Nat)))(v81:(List (Nat×Nat))):(Int)→Option ((Int) ⊕ ((Unit) ⊕ (Unit))):=fun v83 =>
 if (decide (v83<(v75.length:Int)))=true then
  ((bE v81 v83).bind fun (v92,v93) =>
  (bE v75 v83).bind fun (v94,v95) =>
  (bE v78 v83).bind fun (v96,v97) =>
  (farith .add .f32 v94 v96).bind fun v98 =>
  (farith .add .f32 v95 v97).bind fun v99 =>
  if (ceq .f32 v92 v93 v98 v99)=true then
   (some (.inl (IntKind.i64.wrap (v83+1))))
  else
   (some (.inr (.inl ()))))
 else
  (some (.inr (.inr ())))
noncomputable def tF(v101:(List (Nat×Nat))):(Int)→Option ((Int) ⊕ ((Unit) ⊕ (Unit))):=fun v105 =>
 if (decide (v105<(v101.length:Int)))=true then
  ((bE v101 v105).bind fun (v108,v109) =>
  if (ceq .f32 v108 v109 0 0)=true then
   (some (.inl (IntKind.i64.wrap (v105+1))))
  else
   (some (.inr (.inl ()))))
 else
  (some (.inr (.inr ())))
noncomputable def Qq(v1:(List (Int×Int)))(v2:(List (Int×Int)))(v3:Int)(v4:Int):Option Bool:=
 if (decide ((v1.length:Int)=0))=true then
  (some (true))
 else
  (if (decide ((v1.length:Int)>20))=true then
   (some (true))
  else
   (if (decide ((v2.length:Int)>20))=true then
    (some (true))
   else
    ((aN v3 1 40).bind fun v6 =>
    if v6=true then
     ((aN v4 1 1000).bind fun v7 =>
     if v7=true then
      ((run (tD v1 v2) (([]:List (Nat×Nat)),([]:List (Nat×Nat)),([]:List (Nat×Nat)),0)).bind fun v67=>match v67 with
      | (.inl _) =>
       some (true)
      | (.inr (v68,v69,v70)) =>
       (mB v3 v4).bind fun (v71,v72) =>
       if (decide (v72≠0))=true then
        (some (false))
       else
        (if (decide ((v71.length:Int)≠v3))=true then
         (some (false))
        else
         ((jD 8 ([]:List (Nat×Nat)) v68).bind fun v73 =>
         (jD 8 ([]:List (Nat×Nat)) v71).bind fun v74 =>
         (fG v73 v74).bind fun (v75,v76) =>
         (jD 8 ([]:List (Nat×Nat)) v71).bind fun v77 =>
         (fG v69 v77).bind fun (v78,v79) =>
         (jD 8 ([]:List (Nat×Nat)) v71).bind fun v80 =>
         (fG v70 v80).bind fun (v81,v82) =>
         if (decide (v76≠0))=true then
          (some (false))
         else
          (if (decide (v79≠0))=true then
           (some (false))
          else
           (if (decide (v82≠0))=true then
            (some (false))
           else
            (if (decide ((v75.length:Int)≠(IntKind.i64.wrap ((IntKind.i64.wrap ((v68.length:Int)+(v71.length:Int)))-1))))=true then
             (some (false))
            else
             (if (decide ((v78.length:Int)≠(v75.length:Int)))=true then
              (some (false))
             else
              (if (decide ((v81.length:Int)≠(v75.length:Int)))=true then
               (some (false))
              else
               ((run (tC v75 v78 v81) 0).bind fun v100=>match v100 with
               | (.inl _) =>
                some (false)
               | (.inr _) =>
                (gE v75 v71).bind fun (v101,v102) =>
                if (decide (v102≠0))=true then
                 (some (false))
                else
                 (if (decide ((v101.length:Int)≠(v75.length:Int)))=true then
                  (some (false))
                 else
                  ((Mn v101 (v68.length:Int)).bind fun v103 =>
                  (aQ (v101.take v103) v68).bind fun v104 =>
                  if v104=true then
                   ((run (tF v101) (v68.length:Int)).bind fun v110=>match v110 with
                   | (.inl _) =>
                    some (false)
                   | (.inr _) =>
                    some (true))
                  else
                   (some (false)))))))))))))
     else
      (some (true)))
    else
     (some (true)))))
end Go.Rex
