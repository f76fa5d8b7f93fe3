/- The functions of the program and of the reference,as functions of lists and numbers. -/
import Derived.Test.YtneefkifalbplaaGreatRexG11
set_option linter.unusedSimpArgs false
set_option linter.unusedVariables false
set_option linter.defProp false
namespace Go.Rex
open Go Go.Rex
def aCM(x:(Nat×Nat)):List TV:=[.v (.float .f32 x.1),.v (.float .f32 x.2)]
def e_c(x:(Nat×Nat)):List TV:=[.v (.complex .f32 x.1 x.2)]
def e_i(x:Int):List TV:=[.v (.int .i64 x)]
def e_ii(x:(Int×Int)):List TV:=[.v (.int .i64 x.1),.v (.int .i64 x.2)]
def e_Lc_(x:(List (Nat×Nat))):List TV:=[.list 1 (x.map e_c)]
def e_f(x:Nat):List TV:=[.v (.float .f32 x)]
def aCP(x:(List (Nat×Nat))):List TV:=[.list 2 (x.map aCM)]
noncomputable def fH(v1:Int)(v2:Int)(v3:Int):Option (Bool):=
 if (decide (v2≤v1))=true then
  (some ((decide (v1≤v3))))
 else
  (some (false))
noncomputable def cM(v1:Int)(v2:(List Int)):(Int)→Option ((Int) ⊕ ((Int) ⊕ (Unit))):=fun v5 =>
 if (decide (v5<(v2.length:Int)))=true then
  ((eQ v2 v5).bind fun v10 =>
  (fH v10 1 v1).bind fun v11 =>
  if v11=true then
   (if (decide (v5>0))=true then
    ((eQ v2 (IntKind.i64.wrap (v5-1))).bind fun v12 =>
    if (decide (v10≤v12))=true then
     (some (.inr (.inl 9)))
    else
     (some (.inl (IntKind.i64.wrap (v5+1)))))
   else
    (some (.inl (IntKind.i64.wrap (v5+1)))))
  else
   (some (.inr (.inl 2))))
 else
  (some (.inr (.inr ())))
noncomputable def fT(v1:Int)(v2:(List Int)):Option (Int):=
 (fH v1 2 8).bind fun v4 =>
 if v4=true then
  (if (decide ((v2.length:Int)=0))=true then
   (some (10))
  else
   ((run (cM v1 v2) 0).bind fun v13=>match v13 with
   | (.inl v14) =>
    some (v14)
   | (.inr _) =>
    (eQ v2 (IntKind.i64.wrap ((v2.length:Int)-1))).bind fun v15 =>
    if (decide (v15≠v1))=true then
     (some (6))
    else
     (some (0))))
 else
  (some (2))
noncomputable def kJ(v1:Int):(Int×Int)→Option ((Int×Int) ⊕ ((Int))):=fun (v4,v5) =>
 if (decide (v5<v1))=true then
  (some (.inl ((IntKind.i64.wrap (2*v4)),(IntKind.i64.wrap (v5+1)))))
 else
  (some (.inr v4))
noncomputable def lM(v1:Int)(v2:(List Int)):Option (Int):=
 (run (kJ v1) (1,0)).bind fun v7 =>
 some ((IntKind.i64.wrap (v7-1)))
noncomputable def gY(v1:Int)(v2:(List Int))(v3:Int):Option (Int):=
 (fT v1 v2).bind fun v5 =>
 if (decide (v5≠0))=true then
  (some (v5))
 else
  ((lM v1 v2).bind fun v6 =>
  (fH v3 1 v6).bind fun v7 =>
  if v7=true then
   (some (0))
  else
   (some (2)))
noncomputable def kH(v2:(List Int))(v7:(List Int))(v8:Int):(Int×Int)→Option ((Int×Int) ⊕ ((Int))):=fun (v21,v22) =>
 if (decide (v22<(v2.length:Int)))=true then
  ((eQ v2 v22).bind fun v26 =>
  (eQ v7 (IntKind.i64.wrap (v8-v26))).bind fun v27 =>
  some (.inl ((IntKind.i64.wrap (v21+v27)),(IntKind.i64.wrap (v22+1)))))
 else
  (some (.inr v21))
noncomputable def kN(v1:Int)(v2:(List Int))(v4:Int):(Int×(List Int)×Int)→Option ((Int×(List Int)×Int) ⊕ (((List Int)))):=fun (v6,v7,v8) =>
 if (decide (v8<v4))=true then
  (if (decide (v8<v1))=true then
   ((pJ 8 v7 ([(v6.tmod 2)]:List Int)).bind fun v20 =>
   some (.inl ((IntKind.i64.wrap (v6.tdiv 2)),v20,(IntKind.i64.wrap (v8+1)))))
  else
   ((run (kH v2 v7 v8) (0,0)).bind fun v28 =>
   (pJ 8 v7 ([(v28.tmod 2)]:List Int)).bind fun v29 =>
   some (.inl (v6,v29,(IntKind.i64.wrap (v8+1))))))
 else
  (some (.inr v7))
noncomputable def qH(v1:Int)(v2:(List Int))(v3:Int)(v4:Int):Option ((List Int)):=
 (run (kN v1 v2 v4) (v3,([]:List Int),0)).bind fun v30 =>
 some (v30)
noncomputable def kG(v5:(List Int)):(Int×Int)→Option ((Int×Int) ⊕ ((Int))):=fun (v6,v7) =>
 if (decide (v7≥1))=true then
  ((eQ v5 v7).bind fun v10 =>
  some (.inl ((IntKind.i64.wrap ((IntKind.i64.wrap (2*v6))+v10)),(IntKind.i64.wrap (v7-1)))))
 else
  (some (.inr v6))
noncomputable def oA(v1:Int)(v2:(List Int))(v3:Int):Option (Int):=
 (qH v1 v2 v3 (IntKind.i64.wrap (v1+1))).bind fun v5 =>
 (run (kG v5) (0,v1)).bind fun v11 =>
 some (v11)
noncomputable def iJ(v1:Int)(v2:(List Int))(v3:Int):(Int×Int)→Option ((Int×Int) ⊕ ((Int))):=fun (v6,v7) =>
 if (decide (v7≠v3))=true then
  ((oA v1 v2 v7).bind fun v10 =>
  some (.inl ((IntKind.i64.wrap (v6+1)),v10)))
 else
  (some (.inr v6))
noncomputable def nS(v1:Int)(v2:(List Int))(v3:Int):Option (Int):=
 (oA v1 v2 v3).bind fun v5 =>
 (run (iJ v1 v2 v3) (1,v5)).bind fun v11 =>
 some (v11)
noncomputable def jZ(v1:Int)(v2:(List Int)):Option (Bool):=
 (nS v1 v2 1).bind fun v4 =>
 (lM v1 v2).bind fun v5 =>
 some ((decide (v4=v5)))
noncomputable def gM(v1:Int)(v2:(List Int))(v3:Int):Option (Bool):=
 if (decide ((v2.length:Int)≤8))=true then
  ((gY v1 v2 v3).bind fun v5 =>
  if (decide (v5=0))=true then
   (if (decide (v1≤5))=true then
    ((jZ v1 v2).bind fun v6 =>
    some (v6))
   else
    (some (false)))
  else
   (some (false)))
 else
  (some (false))
noncomputable def pB(v1:Int)(v2:Int):Option (Nat×Nat):=
 some ((FloatKind.f32.nearest (if (if v1<10000 then v1 else 10000)>(-10000) then (if v1<10000 then v1 else 10000) else (-10000))),(FloatKind.f32.nearest (if (if v2<10000 then v2 else 10000)>(-10000) then (if v2<10000 then v2 else 10000) else (-10000))))
noncomputable def eK(v1:(List (Int×Int)))(v2:Int):((List (Nat×Nat))×Int)→Option (((List (Nat×Nat))×Int) ⊕ ((Unit) ⊕ ((List (Nat×Nat))))):=fun (v5,v6) =>
 if (decide (v6<(v1.length:Int)))=true then
  ((eQ v1 v6).bind fun (v15,v16) =>
  (fH v15 (IntKind.i64.wrap (0-v2)) v2).bind fun v17 =>
  if v17=true then
   ((fH v16 (IntKind.i64.wrap (0-v2)) v2).bind fun v18 =>
   if v18=true then
    ((pB v15 v16).bind fun (v19,v20) =>
    (pJ 8 v5 ([(v19,v20)]:List (Nat×Nat))).bind fun v21 =>
    some (.inl (v21,(IntKind.i64.wrap (v6+1)))))
   else
    (some (.inr (.inl ()))))
  else
   (some (.inr (.inl ()))))
 else
  (some (.inr (.inr v5)))
noncomputable def gN(v1:(List (Int×Int)))(v2:Int):Option ((List (Nat×Nat))×Bool):=
 (run (eK v1 v2) (([]:List (Nat×Nat)),0)).bind fun v22=>match v22 with
 | (.inl _) =>
  some (([]:List (Nat×Nat)),false)
 | (.inr v23) =>
  some (v23,true)
noncomputable def iV(v1:(List (Nat×Nat))):Option ((List (Nat×Nat))):=
 (pJ 8 ([]:List (Nat×Nat)) v1).bind fun v3 =>
 some (v3)
noncomputable def mF(v1:(List Int)):Option ((List Int)):=
 (pJ 8 ([]:List Int) v1).bind fun v3 =>
 some (v3)
noncomputable def oJ(v1:Int)(v2:(List Int)):Option (Int×(List Int)):=
 (mF v2).bind fun v5 =>
 some (v1,v5)
noncomputable def fE(v1:(List (Nat×Nat))):Option ((List (Nat×Nat))):=
 some (v1)
noncomputable def bZ(v1:Int)(v2:(List Int))(v3:Int):Option (Int×Int×(List Int)):=
 some (v3,v1,v2)
noncomputable def aD(v1:Bool)(v2:Int):Option (Bool×Int):=
 some (v1,v2)
noncomputable def mL(v1:Int)(v2:(List (Nat×Nat))):Option (Int×(List (Nat×Nat))):=
 some (v1,v2)
noncomputable def aA(v1:Bool)(v2:Int):Option (Int):=
 if v1=true then
  (some (v2))
 else
  (some (0))
noncomputable def mV(v1:Nat):Option (Nat):=
 (trI .zero v1).bind fun v3 =>
 some (v3)
noncomputable def zL(v1:Nat):Option (Nat):=
 (fbits .f64 v1).bind fun v3 =>
 some (((yA .andNot .u64 v3 9223372036854775808)).toNat)
noncomputable def oL(v1:Nat)(v2:Int):Option (Bool):=
 if (decide (v2=0))=true then
  ((zL v1).bind fun v4 =>
  some ((fcmp .gtr .f64 v4 9218868437227405311)))
 else
  (if (decide (v2<0))=true then
   (some ((fcmp .gtr .f64 (Op.negFloat .f64 v1) 9218868437227405311)))
  else
   (some ((fcmp .gtr .f64 v1 9218868437227405311))))
noncomputable def iT(v1:Nat):Option (Bool):=
 (f2f .f32 v1 .f64).bind fun v3 =>
 (mV v3).bind fun v4 =>
 if (fcmp .eql .f64 v3 v4)=true then
  ((oL v3 0).bind fun v5 =>
  some ((!v5)))
 else
  (some (false))
noncomputable def aT(v1:Nat)(v2:Nat):Option (Bool):=
 if (fcmp .leq .f32 (Op.negFloat .f32 v2) v1)=true then
  (some ((fcmp .leq .f32 v1 v2)))
 else
  (some (false))
noncomputable def aM(v1:Bool)(v2:Int)(v3:Bool)(v4:Int):Option (Int):=
 (aA v1 v2).bind fun v6 =>
 if (decide (v6≠0))=true then
  (some (v6))
 else
  ((aA v3 v4).bind fun v7 =>
  if (decide (v7≠0))=true then
   (some (v7))
  else
   (some (0)))
noncomputable def mC(v1:Nat)(v2:Nat):Option (Int):=
 (iT v1).bind fun v4 =>
 if v4=true then
  ((iT v2).bind fun v5 =>
  (aD (!v5) 27).bind fun (v6,v7) =>
  (aT v1 1266679808).bind fun v8 =>
  if v8=true then
   ((aT v2 1266679808).bind fun v9 =>
   (aD (!v9) 2).bind fun (v10,v11) =>
   (aM v6 v7 v10 v11).bind fun v12 =>
   some (v12))
  else
   ((aD true 2).bind fun (v13,v14) =>
   (aM v6 v7 v13 v14).bind fun v15 =>
   some (v15)))
 else
  ((aD true 27).bind fun (v16,v17) =>
  (aT v1 1266679808).bind fun v18 =>
  if v18=true then
   ((aT v2 1266679808).bind fun v19 =>
   (aD (!v19) 2).bind fun (v20,v21) =>
   (aM v16 v17 v20 v21).bind fun v22 =>
   some (v22))
  else
   ((aD true 2).bind fun (v23,v24) =>
   (aM v16 v17 v23 v24).bind fun v25 =>
   some (v25)))
noncomputable def fN(v1:Int)(v2:(List (Nat×Nat))):Option (Int):=
 (eQ v2 v1).bind fun (v4,v5) =>
 (mC v4 v5).bind fun v6 =>
 some (v6)
noncomputable def bL(v1:Int)(v2:(List (Nat×Nat))):(Int)→Option ((Int) ⊕ ((Int) ⊕ (Unit))):=fun v4 =>
 if (decide (v4<v1))=true then
  ((fN v4 v2).bind fun v7 =>
  if (decide (v7≠0))=true then
   (some (.inr (.inl v7)))
  else
   (some (.inl (IntKind.i64.wrap (v4+1)))))
 else
  (some (.inr (.inr ())))
noncomputable def jY(v1:Int)(v2:(List (Nat×Nat))):Option (Int):=
 (run (bL v1 v2) 0).bind fun v8=>match v8 with
 | (.inl v9) =>
  some (v9)
 | (.inr _) =>
  some (0)
noncomputable def gZ(v1:Bool)(v2:Int)(v3:Bool)(v4:Int)(v5:Int)(v6:(List (Nat×Nat))):Option (Int):=
 (aA v1 v2).bind fun v8 =>
 if (decide (v8≠0))=true then
  (some (v8))
 else
  ((aA v3 v4).bind fun v9 =>
  if (decide (v9≠0))=true then
   (some (v9))
  else
   ((jY v5 v6).bind fun v10 =>
   if (decide (v10≠0))=true then
    (some (v10))
   else
    (some (0))))
noncomputable def bT(v1:(List (Nat×Nat))):Option (Int):=
 (aD (decide ((v1.length:Int)=0)) 10).bind fun (v3,v4) =>
 (aD (decide ((v1.length:Int)>1024)) 8).bind fun (v5,v6) =>
 (mL (v1.length:Int) v1).bind fun (v7,v8) =>
 (gZ v3 v4 v5 v6 v7 v8).bind fun v9 =>
 some (v9)
noncomputable def iM(v1:Int)(v2:Int)(v3:Int):Option (Bool×Int):=
 if (decide (v1<v2))=true then
  ((aD true 2).bind fun (v6,v7) =>
  some (v6,v7))
 else
  ((aD (decide (v1>v3)) 2).bind fun (v8,v9) =>
  some (v8,v9))
noncomputable def mQ(v1:Int)(v2:(List Int))(v3:Int)(v4:Int):Option (Int×(List Int)×Int×Int):=
 some (v1,v2,v3,v4)
noncomputable def mH(v1:(List Int))(v2:Int)(v3:Int):Option (Int×(List Int)×Int×Int):=
 (mQ (v1.length:Int) v1 v2 v3).bind fun (v8,v9,v10,v11) =>
 some (v8,v9,v10,v11)
noncomputable def cF(v1:(List Int))(v2:Int):(Int)→Option ((Int) ⊕ ((Int) ⊕ (Unit))):=fun v4 =>
 if (decide (v4<(v1.length:Int)))=true then
  ((eQ v1 v4).bind fun v7 =>
  if (decide (v2=v7))=true then
   (some (.inr (.inl v4)))
  else
   (some (.inl (IntKind.i64.wrap (v4+1)))))
 else
  (some (.inr (.inr ())))
noncomputable def iP(v1:(List Int))(v2:Int):Option (Int):=
 (run (cF v1 v2) 0).bind fun v8=>match v8 with
 | (.inl v9) =>
  some (v9)
 | (.inr _) =>
  some ((-1))
noncomputable def dM(v1:(List Int))(v2:Int):Option (Bool):=
 (iP v1 v2).bind fun v4 =>
 some ((decide (v4≥0)))
noncomputable def dN(v1:Int)(v2:(List Int))(v3:Int)(v4:Int):Option (Int):=
 (eQ v2 v1).bind fun v6 =>
 (iM v6 v3 v4).bind fun (v7,v8) =>
 if (decide (v1>0))=true then
  ((eQ v2 (IntKind.i64.wrap (v1-1))).bind fun v9 =>
  (aD (decide (v6≤v9)) 9).bind fun (v10,v11) =>
  (aM v7 v8 v10 v11).bind fun v12 =>
  some (v12))
 else
  ((aD false 9).bind fun (v13,v14) =>
  (aM v7 v8 v13 v14).bind fun v15 =>
  some (v15))
noncomputable def cX(v1:Int)(v2:(List Int))(v3:Int)(v4:Int):(Int)→Option ((Int) ⊕ ((Int) ⊕ (Unit))):=fun v6 =>
 if (decide (v6<v1))=true then
  ((dN v6 v2 v3 v4).bind fun v9 =>
  if (decide (v9≠0))=true then
   (some (.inr (.inl v9)))
  else
   (some (.inl (IntKind.i64.wrap (v6+1)))))
 else
  (some (.inr (.inr ())))
noncomputable def jQ(v1:Int)(v2:(List Int))(v3:Int)(v4:Int):Option (Int):=
 (run (cX v1 v2 v3 v4) 0).bind fun v10=>match v10 with
 | (.inl v11) =>
  some (v11)
 | (.inr _) =>
  some (0)
noncomputable def iB(v1:Bool)(v2:Int)(v3:Bool)(v4:Int)(v5:Int)(v6:(List Int))(v7:Int)(v8:Int)(v9:Bool)(v10:Int):Option (Int):=
 (aA v1 v2).bind fun v12 =>
 if (decide (v12≠0))=true then
  (some (v12))
 else
  ((aA v3 v4).bind fun v13 =>
  if (decide (v13≠0))=true then
   (some (v13))
  else
   ((jQ v5 v6 v7 v8).bind fun v14 =>
   if (decide (v14≠0))=true then
    (some (v14))
   else
    ((aA v9 v10).bind fun v15 =>
    if (decide (v15≠0))=true then
     (some (v15))
    else
     (some (0)))))
noncomputable def fW(v1:Int)(v2:(List Int)):Option (Int):=
 (iM v1 2 8).bind fun (v4,v5) =>
 (aD (decide ((v2.length:Int)=0)) 10).bind fun (v6,v7) =>
 (mH v2 1 v1).bind fun (v8,v9,v10,v11) =>
 (dM v2 v1).bind fun v12 =>
 (aD (!v12) 6).bind fun (v13,v14) =>
 (iB v4 v5 v6 v7 v8 v9 v10 v11 v13 v14).bind fun v15 =>
 some (v15)
noncomputable def cW(v1:Int)(v2:(List Int)):Option (Int):=
 (fW v1 v2).bind fun v4 =>
 some (v4)
noncomputable def aF(v1:Int)(v2:(List Int)):Option (Int):=
 (shI .shl .i64 1 v1).bind fun v4 =>
 some ((IntKind.i64.wrap (v4-1)))
noncomputable def aQ(v1:Int)(v2:Int)(v3:(List Int)):Option (Int):=
 (aF v2 v3).bind fun v5 =>
 (iM v1 1 v5).bind fun (v6,v7) =>
 (aA v6 v7).bind fun v8 =>
 some (v8)
noncomputable def hZ(v1:(List (Nat×Nat)))(v2:Int)(v3:(List Int))(v4:Int)(v5:Int)(v6:(List Int)):Option (Int):=
 (bT v1).bind fun v8 =>
 if (decide (v8≠0))=true then
  (some (v8))
 else
  ((cW v2 v3).bind fun v9 =>
  if (decide (v9≠0))=true then
   (some (v9))
  else
   ((aQ v4 v5 v6).bind fun v10 =>
   if (decide (v10≠0))=true then
    (some (v10))
   else
    (some (0))))
noncomputable def fF(v1:Nat)(v2:Nat):Option (Int×Int):=
 (f2i .f32 v1 .i64).bind fun v5 =>
 (f2i .f32 v2 .i64).bind fun v6 =>
 some (v5,v6)
noncomputable def eZ(v1:(List (Nat×Nat))):((List (Int×Int))×Int)→Option (((List (Int×Int))×Int) ⊕ (((List (Int×Int))))):=fun (v3,v4) =>
 if (decide (v4<(v1.length:Int)))=true then
  ((eQ v1 v4).bind fun (v11,v12) =>
  (fF v11 v12).bind fun (v13,v14) =>
  (pJ 16 v3 ([(v13,v14)]:List (Int×Int))).bind fun v15 =>
  some (.inl (v15,(IntKind.i64.wrap (v4+1)))))
 else
  (some (.inr v3))
noncomputable def dH(v1:(List (Nat×Nat))):Option ((List (Int×Int))):=
 (run (eZ v1) (([]:List (Int×Int)),0)).bind fun v16 =>
 some (v16)
noncomputable def bS(v1:Int)(v2:Int)(v3:Int)(v4:Int):Option (Int×Int):=
 some ((IntKind.i64.wrap (v1+v3)),(IntKind.i64.wrap (v2+v4)))
noncomputable def dV(v1:(List (Int×Int)))(v2:Int):((List (Int×Int))×Int)→Option (((List (Int×Int))×Int) ⊕ (((List (Int×Int))))):=fun (v5,v6) =>
 if (decide (v6<(v1.length:Int)))=true then
  ((eQ v1 v6).bind fun (v14,v15) =>
  if v2=0 then none else
  ((eQ v5 (v6.tmod v2)).bind fun (v16,v17) =>
  (bS v16 v17 v14 v15).bind fun (v18,v19) =>
  some (.inl ((v5.set ((v6.tmod v2)).toNat (v18,v19)),(IntKind.i64.wrap (v6+1))))))
 else
  (some (.inr v5))
noncomputable def jG(v1:(List (Int×Int)))(v2:Int):Option ((List (Int×Int))):=
 (mkI 16 v2 ((0,0):(Int×Int))).bind fun v4 =>
 (run (dV v1 v2) (v4,0)).bind fun v20 =>
 some (v20)
noncomputable def eC(v1:Int)(v2:(List Int))(v3:Int):Option (Int×Int×(List Int)):=
 some (v3,v1,v2)
noncomputable def cG(v1:Int)(v2:(List Int))(v3:Int):(Int×Int)→Option ((Int×Int) ⊕ ((Int))):=fun (v5,v6) =>
 if (decide (v6<(v2.length:Int)))=true then
  ((eQ v2 v6).bind fun v10 =>
  (shI .shr .i64 v3 (IntKind.i64.wrap (v1-v10))).bind fun v11 =>
  some (.inl ((yA .xor .i64 v5 (yA .and .i64 v11 1)),(IntKind.i64.wrap (v6+1)))))
 else
  (some (.inr v5))
noncomputable def dR(v1:Int)(v2:(List Int))(v3:Int):Option (Int):=
 (run (cG v1 v2 v3) (0,0)).bind fun v12 =>
 (shI .shr .i64 v3 1).bind fun v13 =>
 (shI .shl .i64 v12 (IntKind.i64.wrap (v1-1))).bind fun v14 =>
 some ((yA .or .i64 v13 v14))
noncomputable def aN{X:Type}(H:(Int)→X→Option (Bool×X))(v2:Int)(v3:(List Int)):(Int×X)→Option ((Int×X) ⊕ ((X))):=fun (v5,v6) =>
 (H v5 v6).bind fun (v11,v12) =>
 if v11=true then
  ((dR v2 v3 v5).bind fun v13 =>
  some (.inl (v13,v12)))
 else
  (some (.inr v12))
noncomputable def aH(v1:Int)(v2:Int)(v3:(List Int)){X:Type}(H:(Int)→X→Option (Bool×X))(v4:X):Option X:=
 (run (aN H v2 v3) (v1,v4)).bind fun v14 =>
 some v14
noncomputable def dP(v4:Int):((Int))→((List Int))→Option (((List Int)) ⊕ (((List Int)))):=fun v13 v9 =>
 if (decide ((v9.length:Int)=v4))=true then
  (some (.inr v9))
 else
  ((pJ 8 v9 ([(yA .and .i64 v13 1)]:List Int)).bind fun v14 =>
  some (.inl v14))
noncomputable def fG(v1:Int)(v2:(List Int))(v3:Int)(v4:Int):Option ((List Int)):=
 (eC v1 v2 v3).bind fun (v6,v7,v8) =>
 (aH v6 v7 v8 (hand (dP v4)) (.inl ([]:List Int))).bind fun v15=>match v15 with
 | .inl v16 =>
  some (v16)
 | .inr v17 =>
  some (v17)
noncomputable def dE(v6:(List Int)):((List Int)×Int)→Option (((List Int)×Int) ⊕ (((List Int)))):=fun (v7,v8) =>
 if (decide (v8<(v6.length:Int)))=true then
  ((eQ v7 v8).bind fun v11 =>
  some (.inl ((v7.set v8.toNat (IntKind.i64.wrap (1-(IntKind.i64.wrap (2*v11))))),(IntKind.i64.wrap (v8+1)))))
 else
  (some (.inr v7))
noncomputable def eV(v1:Int)(v2:(List Int))(v3:Int):Option ((List Int)):=
 (aF v1 v2).bind fun v5 =>
 (fG v1 v2 v3 v5).bind fun v6 =>
 (run (dE v6) (v6,0)).bind fun v12 =>
 some (v12)
noncomputable def bE(v1:Int)(v2:(List Int))(v3:Int):Option ((List Int)):=
 (eV v1 v2 v3).bind fun v5 =>
 some (v5)
noncomputable def mR(v1:Int)(v2:(List (Int×Int))):Option (Int×(List (Int×Int))):=
 some (v1,v2)
noncomputable def cT(v1:Int)(v2:Int):Option (Bool):=
 if (decide ((IntKind.i64.wrap (0-v2))≤v1))=true then
  (some ((decide (v1≤v2))))
 else
  (some (false))
noncomputable def cJ(v1:Int)(v2:Int)(v3:Int):Option (Bool×Int):=
 (cT v1 v3).bind fun v6 =>
 if v6=true then
  ((cT v2 v3).bind fun v7 =>
  (aD (!v7) 8).bind fun (v8,v9) =>
  some (v8,v9))
 else
  ((aD true 8).bind fun (v10,v11) =>
  some (v10,v11))
noncomputable def gB(v1:Int)(v2:(List (Int×Int))):Option (Int):=
 (eQ v2 v1).bind fun (v4,v5) =>
 (cJ v4 v5 16777216).bind fun (v6,v7) =>
 (aA v6 v7).bind fun v8 =>
 some (v8)
noncomputable def cB(v1:Int)(v2:(List (Int×Int))):(Int)→Option ((Int) ⊕ ((Int) ⊕ (Unit))):=fun v4 =>
 if (decide (v4<v1))=true then
  ((gB v4 v2).bind fun v7 =>
  if (decide (v7≠0))=true then
   (some (.inr (.inl v7)))
  else
   (some (.inl (IntKind.i64.wrap (v4+1)))))
 else
  (some (.inr (.inr ())))
noncomputable def jW(v1:Int)(v2:(List (Int×Int))):Option (Int):=
 (run (cB v1 v2) 0).bind fun v8=>match v8 with
 | (.inl v9) =>
  some (v9)
 | (.inr _) =>
  some (0)
noncomputable def eB(v1:(List (Int×Int))):((List (Nat×Nat))×Int)→Option (((List (Nat×Nat))×Int) ⊕ (((List (Nat×Nat))))):=fun (v7,v8) =>
 if (decide (v8<(v1.length:Int)))=true then
  ((eQ v1 v8).bind fun (v13,v14) =>
  (pJ 8 v7 ([((FloatKind.f32.nearest v13),(FloatKind.f32.nearest v14))]:List (Nat×Nat))).bind fun v15 =>
  some (.inl (v15,(IntKind.i64.wrap (v8+1)))))
 else
  (some (.inr v7))
noncomputable def cL(v1:(List (Int×Int))):Option ((List (Nat×Nat))×Int):=
 (mR (v1.length:Int) v1).bind fun (v4,v5) =>
 (jW v4 v5).bind fun v6 =>
 if (decide (v6≠0))=true then
  (some (([]:List (Nat×Nat)),v6))
 else
  ((run (eB v1) (([]:List (Nat×Nat)),0)).bind fun v16 =>
  some (v16,0))
noncomputable def gA(v1:Int)(v2:Int):Option (Int):=
 if v2=0 then none else
 (some (((IntKind.i64.wrap ((v1.tmod v2)+v2)).tmod v2)))
noncomputable def aW(v1:Int)(v2:(List Int)):Option (Int):=
 (gA v1 (v2.length:Int)).bind fun v4 =>
 (eQ v2 v4).bind fun v5 =>
 some (v5)
noncomputable def iA(v1:Int)(v2:Int)(v3:(List Int)):Option (Int):=
 (aW (IntKind.i64.wrap (v1-v2)) v3).bind fun v5 =>
 some (v5)
noncomputable def cP(v1:Int)(v2:Int)(v3:Int):Option (Int×Int):=
 some ((IntKind.i64.wrap (v1*v3)),(IntKind.i64.wrap (v2*v3)))
noncomputable def bM(v1:(List (Int×Int)))(v2:(List Int))(v6:Int):((List (Int×Int))×Int)→Option (((List (Int×Int))×Int) ⊕ (((List (Int×Int))))):=fun (v30,v31) =>
 if (decide (v31<(v1.length:Int)))=true then
  ((eQ v1 v31).bind fun (v42,v43) =>
  (eQ v30 v6).bind fun (v44,v45) =>
  (iA v6 v31 v2).bind fun v46 =>
  (cP v42 v43 v46).bind fun (v47,v48) =>
  (bS v44 v45 v47 v48).bind fun (v49,v50) =>
  some (.inl ((v30.set v6.toNat (v49,v50)),(IntKind.i64.wrap (v31+1)))))
 else
  (some (.inr v30))
noncomputable def cV(v1:(List (Int×Int)))(v2:(List Int))(v4:(List (Int×Int))):((List (Int×Int))×Int)→Option (((List (Int×Int))×Int) ⊕ (((List (Int×Int))))):=fun (v5,v6) =>
 if (decide (v6<(v4.length:Int)))=true then
  ((run (bM v1 v2 v6) (v5,0)).bind fun v51 =>
  some (.inl (v51,(IntKind.i64.wrap (v6+1)))))
 else
  (some (.inr v5))
noncomputable def eX(v1:(List (Int×Int)))(v2:(List Int)):Option ((List (Int×Int))):=
 (mkI 16 (v1.length:Int) ((0,0):(Int×Int))).bind fun v4 =>
 (run (cV v1 v2 v4) (v4,0)).bind fun v52 =>
 some (v52)
noncomputable def kL(v1:(List (Nat×Nat)))(v2:Int)(v3:(List Int))(v4:Int):Option ((List (Nat×Nat))×Int):=
 (fE v1).bind fun v7 =>
 (bZ v2 v3 v4).bind fun (v8,v9,v10) =>
 (hZ v7 v2 v3 v8 v9 v10).bind fun v11 =>
 if (decide (v11≠0))=true then
  (some (([]:List (Nat×Nat)),v11))
 else
  ((dH v1).bind fun v12 =>
  (aF v2 v3).bind fun v13 =>
  (jG v12 v13).bind fun v14 =>
  (bE v2 v3 v4).bind fun v15 =>
  (cL v14).bind fun (v16,v17) =>
  if (decide (v17≠0))=true then
   (some (([]:List (Nat×Nat)),v17))
  else
   ((eX v14 v15).bind fun v18 =>
   (cL v18).bind fun (v19,v20) =>
   some (v19,v20)))
noncomputable def mP(v1:Int)(v2:(List (List (Nat×Nat)))):Option (Int×(List (List (Nat×Nat)))):=
 some (v1,v2)
noncomputable def iC(v1:(List (Nat×Nat)))(v2:Bool)(v3:Int):Option (Int):=
 (bT v1).bind fun v5 =>
 if (decide (v5≠0))=true then
  (some (v5))
 else
  ((aA v2 v3).bind fun v6 =>
  if (decide (v6≠0))=true then
   (some (v6))
  else
   (some (0)))
noncomputable def gD(v1:Int)(v2:(List (List (Nat×Nat)))):Option (Int):=
 (eQ v2 v1).bind fun v4 =>
 (fE v4).bind fun v5 =>
 (eQ v2 0).bind fun v6 =>
 (aD (decide ((v4.length:Int)≠(v6.length:Int))) 13).bind fun (v7,v8) =>
 (iC v5 v7 v8).bind fun v9 =>
 some (v9)
noncomputable def cC(v1:Int)(v2:(List (List (Nat×Nat)))):(Int)→Option ((Int) ⊕ ((Int) ⊕ (Unit))):=fun v4 =>
 if (decide (v4<v1))=true then
  ((gD v4 v2).bind fun v7 =>
  if (decide (v7≠0))=true then
   (some (.inr (.inl v7)))
  else
   (some (.inl (IntKind.i64.wrap (v4+1)))))
 else
  (some (.inr (.inr ())))
noncomputable def jV(v1:Int)(v2:(List (List (Nat×Nat)))):Option (Int):=
 (run (cC v1 v2) 0).bind fun v8=>match v8 with
 | (.inl v9) =>
  some (v9)
 | (.inr _) =>
  some (0)
noncomputable def eW(v1:Bool)(v2:Int)(v3:Bool)(v4:Int)(v5:Int)(v6:(List (List (Nat×Nat)))):Option (Int):=
 (aA v1 v2).bind fun v8 =>
 if (decide (v8≠0))=true then
  (some (v8))
 else
  ((aA v3 v4).bind fun v9 =>
  if (decide (v9≠0))=true then
   (some (v9))
  else
   ((jV v5 v6).bind fun v10 =>
   if (decide (v10≠0))=true then
    (some (v10))
   else
    (some (0))))
noncomputable def pE(v1:Int)(v2:Int):Option (Int):=
 (gA v1 v2).bind fun v4 =>
 if v2=0 then none else
 (some ((IntKind.i64.wrap ((IntKind.i64.wrap (v1-v4)).tdiv v2))))
noncomputable def iW(v1:Int)(v2:Int):Option (Int):=
 (pE (IntKind.i64.wrap ((IntKind.i64.wrap (2*v1))+v2)) (IntKind.i64.wrap (2*v2))).bind fun v4 =>
 some (v4)
noncomputable def eF(v1:(List (List (Nat×Nat))))(v14:Int):(Int×Int×Int)→Option ((Int×Int×Int) ⊕ ((Int×Int))):=fun (v41,v42,v43) =>
 if (decide (v43<(v1.length:Int)))=true then
  ((eQ v1 v43).bind fun v53 =>
  (eQ v53 v14).bind fun (v54,v55) =>
  (fF v54 v55).bind fun (v56,v57) =>
  (bS v41 v42 v56 v57).bind fun (v58,v59) =>
  some (.inl (v58,v59,(IntKind.i64.wrap (v43+1)))))
 else
  (some (.inr (v41,v42)))
noncomputable def dZ(v1:(List (List (Nat×Nat))))(v12:(List (Int×Int))):((List (Int×Int))×Int)→Option (((List (Int×Int))×Int) ⊕ (((List (Int×Int))))):=fun (v13,v14) =>
 if (decide (v14<(v12.length:Int)))=true then
  ((run (eF v1 v14) (0,0,0)).bind fun (v60,v61) =>
  (iW v60 (v1.length:Int)).bind fun v62 =>
  (iW v61 (v1.length:Int)).bind fun v63 =>
  (eQ v13 v14).bind fun (v64,v65) =>
  some (.inl ((v13.set v14.toNat (v62,v63)),(IntKind.i64.wrap (v14+1)))))
 else
  (some (.inr v13))
noncomputable def jK(v1:(List (List (Nat×Nat)))):Option ((List (Nat×Nat))×Int):=
 (aD (decide ((v1.length:Int)=0)) 10).bind fun (v4,v5) =>
 (aD (decide ((v1.length:Int)>32)) 8).bind fun (v6,v7) =>
 (mP (v1.length:Int) v1).bind fun (v8,v9) =>
 (eW v4 v5 v6 v7 v8 v9).bind fun v10 =>
 if (decide (v10≠0))=true then
  (some (([]:List (Nat×Nat)),v10))
 else
  ((eQ v1 0).bind fun v11 =>
  (mkI 16 (v11.length:Int) ((0,0):(Int×Int))).bind fun v12 =>
  (run (dZ v1 v12) (v12,0)).bind fun v66 =>
  (cL v66).bind fun (v67,v68) =>
  some (v67,v68))
noncomputable def cR(v3:Int):((Int))→(Int)→Option ((Int) ⊕ ((Int))):=fun v12 v9 =>
 if (decide (v12=v3))=true then
  (some (.inr v9))
 else
  (some (.inl (IntKind.i64.wrap (v9+1))))
noncomputable def eG(v1:Int)(v2:(List Int))(v3:Int):Option (Int):=
 (dR v1 v2 v3).bind fun v5 =>
 (eC v1 v2 v5).bind fun (v6,v7,v8) =>
 (aH v6 v7 v8 (hand (cR v3)) (.inl 1)).bind fun v13=>match v13 with
 | .inl v14 =>
  some (v14)
 | .inr v15 =>
  some (v15)
noncomputable def eT(v1:Int)(v2:(List Int)):Option (Bool):=
 (eG v1 v2 1).bind fun v4 =>
 (aF v1 v2).bind fun v5 =>
 some ((decide (v4=v5)))
noncomputable def dQ(v1:Int)(v2:(List Int)):Option (Int):=
 (eT v1 v2).bind fun v4 =>
 (aD (!v4) 22).bind fun (v5,v6) =>
 (aA v5 v6).bind fun v7 =>
 some (v7)
noncomputable def dY(v1:(List (Nat×Nat)))(v2:Int)(v3:(List Int)):Option (Int):=
 (aF v2 v3).bind fun v5 =>
 (aD (decide ((v1.length:Int)≠v5)) 13).bind fun (v6,v7) =>
 (aA v6 v7).bind fun v8 =>
 some (v8)
noncomputable def hP(v1:(List (Nat×Nat)))(v2:Int)(v3:(List Int))(v4:Int)(v5:Int)(v6:(List Int))(v7:Int)(v8:(List Int))(v9:(List (Nat×Nat)))(v10:Int)(v11:(List Int)):Option (Int):=
 (bT v1).bind fun v13 =>
 if (decide (v13≠0))=true then
  (some (v13))
 else
  ((cW v2 v3).bind fun v14 =>
  if (decide (v14≠0))=true then
   (some (v14))
  else
   ((aQ v4 v5 v6).bind fun v15 =>
   if (decide (v15≠0))=true then
    (some (v15))
   else
    ((dQ v7 v8).bind fun v16 =>
    if (decide (v16≠0))=true then
     (some (v16))
    else
     ((dY v9 v10 v11).bind fun v17 =>
     if (decide (v17≠0))=true then
      (some (v17))
     else
      (some (0))))))
noncomputable def eD(v1:Int)(v2:Int)(v3:(List Int)):Option (Int):=
 (aW (IntKind.i64.wrap (v2-v1)) v3).bind fun v5 =>
 some ((IntKind.i64.wrap (v5-1)))
noncomputable def bK(v1:(List (Int×Int)))(v2:(List Int))(v6:Int):((List (Int×Int))×Int)→Option (((List (Int×Int))×Int) ⊕ (((List (Int×Int))))):=fun (v30,v31) =>
 if (decide (v31<(v1.length:Int)))=true then
  ((eQ v1 v31).bind fun (v42,v43) =>
  (eQ v30 v6).bind fun (v44,v45) =>
  (eD v6 v31 v2).bind fun v46 =>
  (cP v42 v43 v46).bind fun (v47,v48) =>
  (bS v44 v45 v47 v48).bind fun (v49,v50) =>
  some (.inl ((v30.set v6.toNat (v49,v50)),(IntKind.i64.wrap (v31+1)))))
 else
  (some (.inr v30))
noncomputable def cY(v1:(List (Int×Int)))(v2:(List Int))(v4:(List (Int×Int))):((List (Int×Int))×Int)→Option (((List (Int×Int))×Int) ⊕ (((List (Int×Int))))):=fun (v5,v6) =>
 if (decide (v6<(v4.length:Int)))=true then
  ((run (bK v1 v2 v6) (v5,0)).bind fun v51 =>
  some (.inl (v51,(IntKind.i64.wrap (v6+1)))))
 else
  (some (.inr v5))
noncomputable def fA(v1:(List (Int×Int)))(v2:(List Int)):Option ((List (Int×Int))):=
 (mkI 16 (v1.length:Int) ((0,0):(Int×Int))).bind fun v4 =>
 (run (cY v1 v2 v4) (v4,0)).bind fun v52 =>
 some (v52)
noncomputable def gJ(v1:(List (Int×Int)))(v2:Int):((List (Int×Int))×Int)→Option (((List (Int×Int))×Int) ⊕ ((Unit) ⊕ ((List (Int×Int))))):=fun (v5,v6) =>
 if (decide (v6<(v1.length:Int)))=true then
  ((eQ v1 v6).bind fun (v11,v12) =>
  if v2=0 then none else
  (if (decide ((v11.tmod v2)≠0))=true then
   (some (.inr (.inl ())))
  else
   (if (decide ((v12.tmod v2)≠0))=true then
    (some (.inr (.inl ())))
   else
    ((pJ 16 v5 ([((IntKind.i64.wrap (v11.tdiv v2)),(IntKind.i64.wrap (v12.tdiv v2)))]:List (Int×Int))).bind fun v13 =>
    some (.inl (v13,(IntKind.i64.wrap (v6+1))))))))
 else
  (some (.inr (.inr v5)))
noncomputable def kM(v1:(List (Int×Int)))(v2:Int):Option ((List (Int×Int))×Bool):=
 (run (gJ v1 v2) (([]:List (Int×Int)),0)).bind fun v14=>match v14 with
 | (.inl _) =>
  some (([]:List (Int×Int)),false)
 | (.inr v15) =>
  some (v15,true)
noncomputable def jJ(v1:(List (Nat×Nat)))(v2:Int)(v3:(List Int))(v4:Int):Option ((List (Nat×Nat))×Int):=
 (fE v1).bind fun v7 =>
 (bZ v2 v3 v4).bind fun (v8,v9,v10) =>
 (hP v7 v2 v3 v8 v9 v10 v2 v3 v1 v2 v3).bind fun v11 =>
 if (decide (v11≠0))=true then
  (some (([]:List (Nat×Nat)),v11))
 else
  ((bE v2 v3 v4).bind fun v12 =>
  (dH v1).bind fun v13 =>
  (fA v13 v12).bind fun v14 =>
  (aF v2 v3).bind fun v15 =>
  (kM v14 (IntKind.i64.wrap (v15+1))).bind fun (v16,v17) =>
  if v17=true then
   ((cL v16).bind fun (v18,v19) =>
   some (v18,v19))
  else
   (some (([]:List (Nat×Nat)),20)))
noncomputable def oP(v1:Nat)(v2:Nat)(v3:Nat)(v4:Nat):Option (Bool):=
 (fbits .f64 v1).bind fun v6 =>
 (fbits .f64 v3).bind fun v7 =>
 if (decide (v6=v7))=true then
  ((fbits .f64 v2).bind fun v8 =>
  (fbits .f64 v4).bind fun v9 =>
  some ((decide (v8=v9))))
 else
  (some (false))
noncomputable def eM(v1:(List (Nat×Nat)))(v2:(List (Nat×Nat))):(Int)→Option ((Int) ⊕ ((Unit) ⊕ (Unit))):=fun v4 =>
 if (decide (v4<(v1.length:Int)))=true then
  ((eQ v1 v4).bind fun (v14,v15) =>
  (f2f .f32 v14 .f64).bind fun v16 =>
  (f2f .f32 v15 .f64).bind fun v17 =>
  (eQ v2 v4).bind fun (v18,v19) =>
  (f2f .f32 v18 .f64).bind fun v20 =>
  (f2f .f32 v19 .f64).bind fun v21 =>
  (oP v16 v17 v20 v21).bind fun v22 =>
  if v22=true then
   (some (.inl (IntKind.i64.wrap (v4+1))))
  else
   (some (.inr (.inl ()))))
 else
  (some (.inr (.inr ())))
noncomputable def gP(v1:(List (Nat×Nat)))(v2:(List (Nat×Nat))):Option (Bool):=
 if (decide ((v1.length:Int)≠(v2.length:Int)))=true then
  (some (false))
 else
  ((run (eM v1 v2) 0).bind fun v23=>match v23 with
  | (.inl _) =>
   some (false)
  | (.inr _) =>
   some (true))
noncomputable def mM(v1:Int)(v2:(List (Nat×Nat))):Option (Int×(List (Nat×Nat))):=
 some (v1,v2)
noncomputable def jX(v1:Int)(v2:(List (Nat×Nat))):Option (Int):=
 (eQ v2 v1).bind fun (v4,v5) =>
 (fF v4 v5).bind fun (v6,v7) =>
 (cJ v6 v7 32767).bind fun (v8,v9) =>
 (aA v8 v9).bind fun v10 =>
 some (v10)
noncomputable def cZ(v1:Int)(v2:(List (Nat×Nat))):(Int)→Option ((Int) ⊕ ((Int) ⊕ (Unit))):=fun v4 =>
 if (decide (v4<v1))=true then
  ((jX v4 v2).bind fun v7 =>
  if (decide (v7≠0))=true then
   (some (.inr (.inl v7)))
  else
   (some (.inl (IntKind.i64.wrap (v4+1)))))
 else
  (some (.inr (.inr ())))
noncomputable def gX(v1:Int)(v2:(List (Nat×Nat))):Option (Int):=
 (run (cZ v1 v2) 0).bind fun v8=>match v8 with
 | (.inl v9) =>
  some (v9)
 | (.inr _) =>
  some (0)
noncomputable def iE(v1:(List (Nat×Nat)))(v2:Bool)(v3:Int)(v4:Int)(v5:(List (Nat×Nat))):Option (Int):=
 (bT v1).bind fun v7 =>
 if (decide (v7≠0))=true then
  (some (v7))
 else
  ((aA v2 v3).bind fun v8 =>
  if (decide (v8≠0))=true then
   (some (v8))
  else
   ((gX v4 v5).bind fun v9 =>
   if (decide (v9≠0))=true then
    (some (v9))
   else
    (some (0))))
noncomputable def iX(v14:(List (Int×Int))):((List Nat)×(List Nat)×Int)→Option (((List Nat)×(List Nat)×Int) ⊕ (((List Nat)×(List Nat)))):=fun (v15,v16,v17) =>
 if (decide (v17<(v14.length:Int)))=true then
  ((eQ v14 v17).bind fun (v24,v25) =>
  (pJ 4 v15 ([(FloatKind.f32.nearest v24)]:List Nat)).bind fun v26 =>
  (pJ 4 v16 ([(FloatKind.f32.nearest v25)]:List Nat)).bind fun v27 =>
  some (.inl (v26,v27,(IntKind.i64.wrap (v17+1)))))
 else
  (some (.inr (v15,v16)))
noncomputable def oF(v1:(List (Nat×Nat)))(v2:Int):Option (Int×(List Nat)×Int×(List Nat)×Int):=
 (fE v1).bind fun v8 =>
 (iM v2 8000 192000).bind fun (v9,v10) =>
 (mM (v1.length:Int) v1).bind fun (v11,v12) =>
 (iE v8 v9 v10 v11 v12).bind fun v13 =>
 if (decide (v13≠0))=true then
  (some (0,([]:List Nat),0,([]:List Nat),v13))
 else
  ((dH v1).bind fun v14 =>
  (run (iX v14) (([]:List Nat),([]:List Nat),0)).bind fun (v28,v29) =>
  some (v2,v28,v2,v29,0))
noncomputable def pP(v1:Int)(v2:(List Nat)):Option (Int×(List Nat)):=
 some (v1,v2)
noncomputable def cA(v1:Bool)(v2:Int):Option (Int):=
 if v1=true then
  (some (v2))
 else
  (some (0))
noncomputable def fC(v1:Int)(v2:Int)(v3:Int):Option (Int):=
 if (decide (v1<v2))=true then
  ((cA true 2).bind fun v5 =>
  some (v5))
 else
  ((cA (decide (v1>v3)) 2).bind fun v6 =>
  some (v6))
noncomputable def lT(v1:Int):Option (Int):=
 (fC v1 8000 192000).bind fun v3 =>
 some (v3)
noncomputable def cH(v1:(List Int)):(Int)→Option ((Int) ⊕ ((Int) ⊕ (Unit))):=fun v3 =>
 if (decide (v3<(v1.length:Int)))=true then
  ((eQ v1 v3).bind fun v6 =>
  if (decide (v6≠0))=true then
   (some (.inr (.inl v6)))
  else
   (some (.inl (IntKind.i64.wrap (v3+1)))))
 else
  (some (.inr (.inr ())))
noncomputable def aR(v1:(List Int)):Option (Int):=
 (run (cH v1) 0).bind fun v7=>match v7 with
 | (.inl v8) =>
  some (v8)
 | (.inr _) =>
  some (0)
noncomputable def bD(v1:Nat):Option (Bool):=
 (f2f .f32 v1 .f64).bind fun v3 =>
 (mV v3).bind fun v4 =>
 if (fcmp .eql .f64 v3 v4)=true then
  ((oL v3 0).bind fun v5 =>
  some ((!v5)))
 else
  (some (false))
noncomputable def bG(v1:Nat):Option (Int):=
 (bD v1).bind fun v3 =>
 (cA (!v3) 27).bind fun v4 =>
 if (fcmp .lss .f32 v1 3338665472)=true then
  ((cA true 2).bind fun v5 =>
  (aR ([v4,v5]:List Int)).bind fun v6 =>
  some (v6))
 else
  ((cA (fcmp .gtr .f32 v1 1191181824) 2).bind fun v7 =>
  (aR ([v4,v7]:List Int)).bind fun v8 =>
  some (v8))
noncomputable def aS(v2:(List Nat)):(Int)→Option ((Int) ⊕ ((Int×Int) ⊕ (Unit))):=fun v9 =>
 if (decide (v9<(v2.length:Int)))=true then
  ((eQ v2 v9).bind fun v14 =>
  (bG v14).bind fun v15 =>
  if (decide (v15≠0))=true then
   (some (.inr (.inl (v9,v15))))
  else
   (some (.inl (IntKind.i64.wrap (v9+1)))))
 else
  (some (.inr (.inr ())))
noncomputable def fL(v1:Int)(v2:(List Nat)):Option (Int×Int):=
 (lT v1).bind fun v5 =>
 (cA (decide ((v2.length:Int)=0)) 10).bind fun v6 =>
 (cA (decide ((v2.length:Int)>1024)) 8).bind fun v7 =>
 (aR ([v5,v6,v7]:List Int)).bind fun v8 =>
 if (decide (v8≠0))=true then
  (some (0,v8))
 else
  ((run (aS v2) 0).bind fun v16=>match v16 with
  | (.inl (v17,v18)) =>
   some (v17,v18)
  | (.inr _) =>
   some (0,0))
noncomputable def kE(v1:Int)(v2:(List Nat))(v3:Int)(v4:Int):Option (Int×Int):=
 (fL v1 v2).bind fun (v7,v8) =>
 if (decide (v8≠0))=true then
  (some (v7,v8))
 else
  ((fC v3 0 32767).bind fun v9 =>
  (fC v4 0 1000000000000).bind fun v10 =>
  (aR ([v9,v10]:List Int)).bind fun v11 =>
  some (0,v11))
noncomputable def oR(v1:Int)(v2:(List Nat))(v3:Int)(v4:Int):Option (Int×(List Nat)×Int×Int×Int):=
 (kE v1 v2 v3 v4).bind fun (v10,v11) =>
 some (v1,v2,v3,v4,v11)
noncomputable def dK(v1:Int)(v2:(List Nat))(v3:Int)(v4:Int):Option (Int):=
 some ((v2.length:Int))
noncomputable def dD(v1:Int)(v2:(List Nat))(v3:Int)(v4:Int)(v5:Int)(v6:Int):Option (Int):=
 (dK v1 v2 v3 v4).bind fun v8 =>
 (fC v6 0 v8).bind fun v9 =>
 (fC v5 0 v6).bind fun v10 =>
 (aR ([v9,v10]:List Int)).bind fun v11 =>
 some (v11)
noncomputable def gR(v1:Int)(v2:Int):Option (Int×Int):=
 some (v1,v2)
noncomputable def fX(v1:Int)(v2:(List Nat))(v3:Int)(v4:Int)(v5:Int):Option (Int×Int):=
 (eQ v2 v5).bind fun v8 =>
 (f2i .f32 v8 .i64).bind fun v9 =>
 (gR (IntKind.i64.wrap ((if 0>(IntKind.i64.wrap ((if (IntKind.i64.wrap (0-v9))>v9 then (IntKind.i64.wrap (0-v9)) else v9)-v3)) then 0 else (IntKind.i64.wrap ((if (IntKind.i64.wrap (0-v9))>v9 then (IntKind.i64.wrap (0-v9)) else v9)-v3)))*(if 0>(IntKind.i64.wrap ((if (IntKind.i64.wrap (0-v9))>v9 then (IntKind.i64.wrap (0-v9)) else v9)-v3)) then 0 else (IntKind.i64.wrap ((if (IntKind.i64.wrap (0-v9))>v9 then (IntKind.i64.wrap (0-v9)) else v9)-v3))))) (IntKind.i64.wrap ((IntKind.i64.wrap ((if (IntKind.i64.wrap (0-v9))>v9 then (IntKind.i64.wrap (0-v9)) else v9)+v3))*(IntKind.i64.wrap ((if (IntKind.i64.wrap (0-v9))>v9 then (IntKind.i64.wrap (0-v9)) else v9)+v3))))).bind fun (v10,v11) =>
 some (v10,v11)
noncomputable def gK(v1:Int)(v2:Int)(v3:Int)(v4:Int):Option (Int×Int):=
 (gR (IntKind.i64.wrap (v1+v3)) (IntKind.i64.wrap (v2+v4))).bind fun (v7,v8) =>
 some (v7,v8)
noncomputable def dX(v1:Int)(v2:(List Nat))(v3:Int)(v4:Int)(v6:Int):(Int×Int×Int)→Option ((Int×Int×Int) ⊕ ((Int×Int))):=fun (v9,v10,v11) =>
 if (decide (v11<v6))=true then
  ((fX v1 v2 v3 v4 v11).bind fun (v18,v19) =>
  (gK v9 v10 v18 v19).bind fun (v20,v21) =>
  some (.inl (v20,v21,(IntKind.i64.wrap (v11+1)))))
 else
  (some (.inr (v9,v10)))
noncomputable def eN(v1:Int)(v2:(List Nat))(v3:Int)(v4:Int)(v5:Int)(v6:Int):Option (Int×Int):=
 (run (dX v1 v2 v3 v4 v6) (0,0,v5)).bind fun (v22,v23) =>
 some (v22,v23)
noncomputable def fY(v1:Int)(v2:(List Nat))(v3:Int)(v4:Int):Option (Int×Int):=
 (gR 0 v4).bind fun (v7,v8) =>
 some (v7,v8)
noncomputable def cS(v1:Int)(v2:(List Nat))(v3:Int)(v4:Int)(v5:Int)(v6:Int):Option (Int×Int×Int):=
 (oR v1 v2 v3 v4).bind fun (v10,v11,v12,v13,v14) =>
 (dD v10 v11 v12 v13 v5 v6).bind fun v15 =>
 (aR ([v14,v15]:List Int)).bind fun v16 =>
 if (decide (v16≠0))=true then
  (some (0,0,v16))
 else
  ((eN v10 v11 v12 v13 v5 v6).bind fun (v17,v18) =>
  (dK v10 v11 v12 v13).bind fun v19 =>
  if (decide (v6=v19))=true then
   ((fY v10 v11 v12 v13).bind fun (v20,v21) =>
   (gK v17 v18 v20 v21).bind fun (v22,v23) =>
   some (v22,v23,0))
  else
   (some (v17,v18,0)))
noncomputable def gG(v1:Int)(v2:(List Nat))(v3:Int)(v4:Int):Option (Int×Int):=
 (pP v1 v2).bind fun (v7,v8) =>
 (cS v7 v8 0 0 v3 v4).bind fun (v9,v10,v11) =>
 some (v9,v11)
noncomputable def bB(v11:(List (Nat×Nat)))(v16:(List (Nat×Nat))):((List (Nat×Nat))×(List (Nat×Nat))×Int)→Option (((List (Nat×Nat))×(List (Nat×Nat))×Int) ⊕ (((List (Nat×Nat))×(List (Nat×Nat))))):=fun (v21,v22,v23) =>
 if (decide (v23<(v16.length:Int)))=true then
  (if (decide (v23<(v11.length:Int)))=true then
   ((eQ v21 v23).bind fun (v36,v37) =>
   (eQ v11 v23).bind fun (v38,v39) =>
   (farith .add .f32 v36 v38).bind fun v40 =>
   (farith .add .f32 v37 v39).bind fun v41 =>
   (eQ v22 v23).bind fun (v42,v43) =>
   (farith .sub .f32 v42 v38).bind fun v44 =>
   (farith .sub .f32 v43 v39).bind fun v45 =>
   some (.inl ((v21.set v23.toNat (v40,v41)),(v22.set v23.toNat (v44,v45)),(IntKind.i64.wrap (v23+1)))))
  else
   (some (.inr (v21,v22))))
 else
  (some (.inr (v21,v22)))
noncomputable def bV(v1:(List (Int×Int))):(Int×Int)→Option ((Int×Int) ⊕ ((Int))):=fun (v63,v64) =>
 if (decide (v64<(v1.length:Int)))=true then
  ((eQ v1 v64).bind fun (v68,v69) =>
  some (.inl ((IntKind.i64.wrap (v63+(IntKind.i64.wrap (v68*v68)))),(IntKind.i64.wrap (v64+1)))))
 else
  (some (.inr v63))
noncomputable def bU(v1:(List (Int×Int))):(Int×Int)→Option ((Int×Int) ⊕ ((Int))):=fun (v73,v74) =>
 if (decide (v74<(v1.length:Int)))=true then
  ((eQ v1 v74).bind fun (v78,v79) =>
  some (.inl ((IntKind.i64.wrap (v73+(IntKind.i64.wrap (v79*v79)))),(IntKind.i64.wrap (v74+1)))))
 else
  (some (.inr v73))
noncomputable def eS:(Unit)→Option ((Unit) ⊕ ((Unit))):=fun _ =>
 some (.inr ())
noncomputable def gE(v1:(List (Int×Int)))(v2:Int)(v3:(List Int))(v4:Int)(v5:(List (Int×Int))):Option Bool:=
 if (decide ((v1.length:Int)=0))=true then
  (some (true))
 else
  (if (decide ((v1.length:Int)>31))=true then
   (some (true))
  else
   (if (decide ((v5.length:Int)>31))=true then
    (some (true))
   else
    ((gM v2 v3 v4).bind fun v7 =>
    if v7=true then
     ((lM v2 v3).bind fun v8 =>
     if (decide ((v1.length:Int)>v8))=true then
      (some (true))
     else
      ((gN v1 1000).bind fun (v9,v10) =>
      (gN v5 1000).bind fun (v11,v12) =>
      if v10=true then
       (if v12=true then
        ((iV v9).bind fun v13 =>
        (oJ v2 v3).bind fun (v14,v15) =>
        (kL v13 v14 v15 v4).bind fun (v16,v17) =>
        if (decide (v17≠0))=true then
         (some (false))
        else
         ((lM v2 v3).bind fun v18 =>
         if (decide ((v16.length:Int)≠v18))=true then
          (some (false))
         else
          ((iV v16).bind fun v19 =>
          (iV v16).bind fun v20 =>
          (run (bB v11 v16) (v19,v20,0)).bind fun (v46,v47) =>
          (jK ([v46,v47]:List (List (Nat×Nat)))).bind fun (v48,v49) =>
          (oJ v2 v3).bind fun (v50,v51) =>
          (jJ v48 v50 v51 v4).bind fun (v52,v53) =>
          if (decide (v49≠0))=true then
           (some (false))
          else
           (if (decide (v53≠0))=true then
            (some (false))
           else
            (if (decide ((v52.length:Int)≠(v16.length:Int)))=true then
             (some (false))
            else
             ((Tp v52 (v9.length:Int)).bind fun v54 =>
             (gP (v52.take v54) v9).bind fun v55 =>
             if v55=true then
              ((oF v52 48000).bind fun (v56,v57,v58,v59,v60) =>
              if (decide (v60≠0))=true then
               (some (false))
              else
               ((gG v56 v57 0 (v52.length:Int)).bind fun (v61,v62) =>
               (run (bV v1) (0,0)).bind fun v70 =>
               if (decide (v62≠0))=true then
                (some (false))
               else
                (if (decide (v61≠v70))=true then
                 (some (false))
                else
                 ((gG v58 v59 0 (v52.length:Int)).bind fun (v71,v72) =>
                 (run (bU v1) (0,0)).bind fun v80 =>
                 if (decide (v72≠0))=true then
                  (some (false))
                 else
                  (if (decide (v71≠v80))=true then
                   (some (false))
                  else
                   ((run (eS) ()).bind fun _ =>
                   some (true)))))))
             else
              (some (false))))))))
       else
        (some (true)))
      else
       (some (true))))
    else
     (some (true)))))
noncomputable def iN(v1:Nat):Option (Bool):=
 if (fcmp .neq .f64 v1 v1)=true then
  (some (false))
 else
  ((farith .sub .f64 v1 v1).bind fun v3 =>
  if (fcmp .neq .f64 v3 0)=true then
   (some (false))
  else
   (if (fcmp .geq .f64 v1 14069741636278059008)=true then
    (if (fcmp .leq .f64 v1 4846369599423283200)=true then
     ((f2i .f64 v1 .i64).bind fun v4 =>
     some ((fcmp .eql .f64 (FloatKind.f64.nearest v4) v1)))
    else
     (some (true)))
   else
    (some (true))))
noncomputable def jE(v1:(List (Nat×Nat))):(Int)→Option ((Int) ⊕ ((Int) ⊕ (Unit))):=fun v3 =>
 if (decide (v3<(v1.length:Int)))=true then
  ((eQ v1 v3).bind fun (v11,v12) =>
  (f2f .f32 v11 .f64).bind fun v13 =>
  (f2f .f32 v12 .f64).bind fun v14 =>
  (iN v13).bind fun v15 =>
  if v15=true then
   ((iN v14).bind fun v16 =>
   if v16=true then
    (if (fcmp .gtr .f64 v13 4715268809856909312)=true then
     (some (.inr (.inl 2)))
    else
     (if (fcmp .lss .f64 v13 13938640846711685120)=true then
      (some (.inr (.inl 2)))
     else
      (if (fcmp .gtr .f64 v14 4715268809856909312)=true then
       (some (.inr (.inl 2)))
      else
       (if (fcmp .lss .f64 v14 13938640846711685120)=true then
        (some (.inr (.inl 2)))
       else
        (some (.inl (IntKind.i64.wrap (v3+1))))))))
   else
    (some (.inr (.inl 27))))
  else
   (some (.inr (.inl 27))))
 else
  (some (.inr (.inr ())))
noncomputable def rM(v1:(List (Nat×Nat))):Option (Int):=
 if (decide ((v1.length:Int)=0))=true then
  (some (10))
 else
  (if (decide ((v1.length:Int)>1024))=true then
   (some (8))
  else
   ((run (jE v1) 0).bind fun v17=>match v17 with
   | (.inl v18) =>
    some (v18)
   | (.inr _) =>
    some (0)))
noncomputable def Ak(v1:Int):Option (Int):=
 some ((if (IntKind.i64.wrap (0-v1))>v1 then (IntKind.i64.wrap (0-v1)) else v1))
noncomputable def tB(v1:Int)(v2:Int):Option (Int):=
 if v2=0 then none else
 (if (decide ((v1.tmod v2)<0))=true then
  (some ((IntKind.i64.wrap ((IntKind.i64.wrap (v1.tdiv v2))-1))))
 else
  (some ((IntKind.i64.wrap (v1.tdiv v2)))))
noncomputable def kU(v1:(List (List (Nat×Nat)))):(Int)→Option ((Int) ⊕ ((Int) ⊕ (Unit))):=fun v4 =>
 if (decide (v4<(v1.length:Int)))=true then
  ((eQ v1 v4).bind fun v9 =>
  (rM v9).bind fun v10 =>
  if (decide (v10≠0))=true then
   (some (.inr (.inl v10)))
  else
   ((eQ v1 0).bind fun v11 =>
   if (decide ((v9.length:Int)≠(v11.length:Int)))=true then
    (some (.inr (.inl 13)))
   else
    (some (.inl (IntKind.i64.wrap (v4+1))))))
 else
  (some (.inr (.inr ())))
noncomputable def nT(v1:Int)(v2:(List Nat))(v3:Int)(v4:Int)(v5:Int):Option (Int×Int):=
 (eQ v2 v5).bind fun v8 =>
 (f2i .f32 v8 .i64).bind fun v9 =>
 (Ak v9).bind fun v10 =>
 some ((IntKind.i64.wrap ((if (IntKind.i64.wrap (v10-v3))>0 then (IntKind.i64.wrap (v10-v3)) else 0)*(if (IntKind.i64.wrap (v10-v3))>0 then (IntKind.i64.wrap (v10-v3)) else 0))),(IntKind.i64.wrap ((IntKind.i64.wrap (v10+v3))*(IntKind.i64.wrap (v10+v3)))))
noncomputable def dC(v1:Int)(v2:(List Nat))(v3:Int)(v4:Int)(v6:Int):(Int×Int×Int)→Option ((Int×Int×Int) ⊕ ((Int×Int))):=fun (v9,v10,v11) =>
 if (decide (v11<v6))=true then
  ((nT v1 v2 v3 v4 v11).bind fun (v16,v17) =>
  some (.inl ((IntKind.i64.wrap (v9+v16)),(IntKind.i64.wrap (v10+v17)),(IntKind.i64.wrap (v11+1)))))
 else
  (some (.inr (v9,v10)))
end Go.Rex
