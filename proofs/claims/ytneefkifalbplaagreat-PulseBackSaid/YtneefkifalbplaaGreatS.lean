/- The functions of the program and of the reference,as functions of lists and numbers. -/
import Derived.Test.YtneefkifalbplaaGreatRexG11
set_option linter.unusedSimpArgs false
set_option linter.unusedVariables false
set_option linter.defProp false
namespace Go.Rex
open Go Go.Rex
def e_ff(x:(Nat×Nat)):List TV:=[.v (.float .f32 x.1),.v (.float .f32 x.2)]
def e_c(x:(Nat×Nat)):List TV:=[.v (.complex .f32 x.1 x.2)]
def e_i(x:Int):List TV:=[.v (.int .i64 x)]
def e_ii(x:(Int×Int)):List TV:=[.v (.int .i64 x.1),.v (.int .i64 x.2)]
def aDF(x:(List (Nat×Nat))):List TV:=[.list 1 (x.map e_c)]
def e_f(x:Nat):List TV:=[.v (.float .f32 x)]
def aDD(x:(List (Nat×Nat))):List TV:=[.list 2 (x.map e_ff)]
noncomputable def pC(v1:(List (Nat×Nat))):Option (Bool):=
 if (decide ((v1.length:Int)≤40))=true then
  (some (true))
 else
  (if (decide ((v1.length:Int)>1024))=true then
   (some ((decide ((v1.length:Int)≤1026))))
  else
   (some (false)))
noncomputable def kV(v1:(List (Nat×Nat))):((List (Nat×Nat))×Int)→Option (((List (Nat×Nat))×Int) ⊕ (((List (Nat×Nat))))):=fun (v3,v4) =>
 if (decide (v4<(v1.length:Int)))=true then
  ((gQ v1 v4).bind fun (v9,v10) =>
  (lL 8 v3 ([(v9,v10)]:List (Nat×Nat))).bind fun v11 =>
  some (.inl (v11,(IntKind.i64.wrap (v4+1)))))
 else
  (some (.inr v3))
noncomputable def nH(v1:(List (Nat×Nat))):Option ((List (Nat×Nat))):=
 (run (kV v1) (([]:List (Nat×Nat)),0)).bind fun v12 =>
 some (v12)
noncomputable def fQ(v1:Nat):Option (Bool):=
 if (fcmp .neq .f64 v1 v1)=true then
  (some (false))
 else
  ((farith .sub .f64 v1 v1).bind fun v3 =>
  if (fcmp .neq .f64 v3 0)=true then
   (some (false))
  else
   (if (fcmp .geq .f64 v1 14069741636278059008)=true then
    (if (fcmp .leq .f64 v1 4846369599423283200)=true then
     ((f2i .f64 v1 .i64).bind fun v4 =>
     some ((fcmp .eql .f64 (FloatKind.f64.nearest v4) v1)))
    else
     (some (true)))
   else
    (some (true))))
noncomputable def fE(v1:(List (Nat×Nat))):(Int)→Option ((Int) ⊕ ((Int) ⊕ (Unit))):=fun v3 =>
 if (decide (v3<(v1.length:Int)))=true then
  ((gQ v1 v3).bind fun (v11,v12) =>
  (f2f .f32 v11 .f64).bind fun v13 =>
  (f2f .f32 v12 .f64).bind fun v14 =>
  (fQ v13).bind fun v15 =>
  if v15=true then
   ((fQ v14).bind fun v16 =>
   if v16=true then
    (if (fcmp .gtr .f64 v13 4715268809856909312)=true then
     (some (.inr (.inl 2)))
    else
     (if (fcmp .lss .f64 v13 13938640846711685120)=true then
      (some (.inr (.inl 2)))
     else
      (if (fcmp .gtr .f64 v14 4715268809856909312)=true then
       (some (.inr (.inl 2)))
      else
       (if (fcmp .lss .f64 v14 13938640846711685120)=true then
        (some (.inr (.inl 2)))
       else
        (some (.inl (IntKind.i64.wrap (v3+1))))))))
   else
    (some (.inr (.inl 27))))
  else
   (some (.inr (.inl 27))))
 else
  (some (.inr (.inr ())))
noncomputable def mW(v1:(List (Nat×Nat))):Option (Int):=
 if (decide ((v1.length:Int)=0))=true then
  (some (10))
 else
  (if (decide ((v1.length:Int)>1024))=true then
   (some (8))
  else
   ((run (fE v1) 0).bind fun v17=>match v17 with
   | (.inl v18) =>
    some (v18)
   | (.inr _) =>
    some (0)))
noncomputable def fU(v1:Int)(v2:Int)(v3:Int):Option (Bool):=
 if (decide (v2≤v1))=true then
  (some ((decide (v1≤v3))))
 else
  (some (false))
noncomputable def cV(v1:Int)(v2:(List Int)):(Int)→Option ((Int) ⊕ ((Int) ⊕ (Unit))):=fun v5 =>
 if (decide (v5<(v2.length:Int)))=true then
  ((gQ v2 v5).bind fun v10 =>
  (fU v10 1 v1).bind fun v11 =>
  if v11=true then
   (if (decide (v5>0))=true then
    ((gQ v2 (IntKind.i64.wrap (v5-1))).bind fun v12 =>
    if (decide (v10≤v12))=true then
     (some (.inr (.inl 9)))
    else
     (some (.inl (IntKind.i64.wrap (v5+1)))))
   else
    (some (.inl (IntKind.i64.wrap (v5+1)))))
  else
   (some (.inr (.inl 2))))
 else
  (some (.inr (.inr ())))
noncomputable def gP(v1:Int)(v2:(List Int)):Option (Int):=
 (fU v1 2 8).bind fun v4 =>
 if v4=true then
  (if (decide ((v2.length:Int)=0))=true then
   (some (10))
  else
   ((run (cV v1 v2) 0).bind fun v13=>match v13 with
   | (.inl v14) =>
    some (v14)
   | (.inr _) =>
    (gQ v2 (IntKind.i64.wrap ((v2.length:Int)-1))).bind fun v15 =>
    if (decide (v15≠v1))=true then
     (some (6))
    else
     (some (0))))
 else
  (some (2))
noncomputable def kU(v1:Int):(Int×Int)→Option ((Int×Int) ⊕ ((Int))):=fun (v4,v5) =>
 if (decide (v5<v1))=true then
  (some (.inl ((IntKind.i64.wrap (2*v4)),(IntKind.i64.wrap (v5+1)))))
 else
  (some (.inr v4))
noncomputable def nK(v1:Int)(v2:(List Int)):Option (Int):=
 (run (kU v1) (1,0)).bind fun v7 =>
 some ((IntKind.i64.wrap (v7-1)))
noncomputable def iG(v1:Int)(v2:(List Int))(v3:Int):Option (Int):=
 (gP v1 v2).bind fun v5 =>
 if (decide (v5≠0))=true then
  (some (v5))
 else
  ((nK v1 v2).bind fun v6 =>
  (fU v3 1 v6).bind fun v7 =>
  if v7=true then
   (some (0))
  else
   (some (2)))
noncomputable def kT(v2:(List Int))(v7:(List Int))(v8:Int):(Int×Int)→Option ((Int×Int) ⊕ ((Int))):=fun (v21,v22) =>
 if (decide (v22<(v2.length:Int)))=true then
  ((gQ v2 v22).bind fun v26 =>
  (gQ v7 (IntKind.i64.wrap (v8-v26))).bind fun v27 =>
  some (.inl ((IntKind.i64.wrap (v21+v27)),(IntKind.i64.wrap (v22+1)))))
 else
  (some (.inr v21))
noncomputable def kZ(v1:Int)(v2:(List Int))(v4:Int):(Int×(List Int)×Int)→Option ((Int×(List Int)×Int) ⊕ (((List Int)))):=fun (v6,v7,v8) =>
 if (decide (v8<v4))=true then
  (if (decide (v8<v1))=true then
   ((lL 8 v7 ([(v6.tmod 2)]:List Int)).bind fun v20 =>
   some (.inl ((IntKind.i64.wrap (v6.tdiv 2)),v20,(IntKind.i64.wrap (v8+1)))))
  else
   ((run (kT v2 v7 v8) (0,0)).bind fun v28 =>
   (lL 8 v7 ([(v28.tmod 2)]:List Int)).bind fun v29 =>
   some (.inl (v6,v29,(IntKind.i64.wrap (v8+1))))))
 else
  (some (.inr v7))
noncomputable def rG(v1:Int)(v2:(List Int))(v3:Int)(v4:Int):Option ((List Int)):=
 (run (kZ v1 v2 v4) (v3,([]:List Int),0)).bind fun v30 =>
 some (v30)
noncomputable def kY(v5:(List Int)):(Int×Int)→Option ((Int×Int) ⊕ ((Int))):=fun (v6,v7) =>
 if (decide (v7≥1))=true then
  ((gQ v5 v7).bind fun v10 =>
  some (.inl ((IntKind.i64.wrap ((IntKind.i64.wrap (2*v6))+v10)),(IntKind.i64.wrap (v7-1)))))
 else
  (some (.inr v6))
noncomputable def oY(v1:Int)(v2:(List Int))(v3:Int):Option (Int):=
 (rG v1 v2 v3 (IntKind.i64.wrap (v1+1))).bind fun v5 =>
 (run (kY v5) (0,v1)).bind fun v11 =>
 some (v11)
noncomputable def jC(v1:Int)(v2:(List Int))(v3:Int):(Int×Int)→Option ((Int×Int) ⊕ ((Int))):=fun (v6,v7) =>
 if (decide (v7≠v3))=true then
  ((oY v1 v2 v7).bind fun v10 =>
  some (.inl ((IntKind.i64.wrap (v6+1)),v10)))
 else
  (some (.inr v6))
noncomputable def oC(v1:Int)(v2:(List Int))(v3:Int):Option (Int):=
 (oY v1 v2 v3).bind fun v5 =>
 (run (jC v1 v2 v3) (1,v5)).bind fun v11 =>
 some (v11)
noncomputable def kS(v1:Int)(v2:(List Int)):Option (Bool):=
 (oC v1 v2 1).bind fun v4 =>
 (nK v1 v2).bind fun v5 =>
 some ((decide (v4=v5)))
noncomputable def mU(v1:(List Int)):Option ((List Int)):=
 (lL 8 ([]:List Int) v1).bind fun v3 =>
 some (v3)
noncomputable def nM(v1:Int)(v2:(List Int)):Option (Int×(List Int)):=
 (mU v2).bind fun v5 =>
 some (v1,v5)
noncomputable def fP(v1:(List (Nat×Nat))):Option ((List (Nat×Nat))):=
 some (v1)
noncomputable def aY(v1:Int)(v2:(List Int))(v3:Int):Option (Int×Int×(List Int)):=
 some (v3,v1,v2)
noncomputable def aD(v1:Bool)(v2:Int):Option (Bool×Int):=
 some (v1,v2)
noncomputable def mY(v1:Int)(v2:(List (Nat×Nat))):Option (Int×(List (Nat×Nat))):=
 some (v1,v2)
noncomputable def aA(v1:Bool)(v2:Int):Option (Int):=
 if v1=true then
  (some (v2))
 else
  (some (0))
noncomputable def nJ(v1:Nat):Option (Nat):=
 (trI .zero v1).bind fun v3 =>
 some (v3)
noncomputable def yY(v1:Nat):Option (Nat):=
 (fbits .f64 v1).bind fun v3 =>
 some (((yP .andNot .u64 v3 9223372036854775808)).toNat)
noncomputable def pF(v1:Nat)(v2:Int):Option (Bool):=
 if (decide (v2=0))=true then
  ((yY v1).bind fun v4 =>
  some ((fcmp .gtr .f64 v4 9218868437227405311)))
 else
  (if (decide (v2<0))=true then
   (some ((fcmp .gtr .f64 (Op.negFloat .f64 v1) 9218868437227405311)))
  else
   (some ((fcmp .gtr .f64 v1 9218868437227405311))))
noncomputable def jM(v1:Nat):Option (Bool):=
 (f2f .f32 v1 .f64).bind fun v3 =>
 (nJ v3).bind fun v4 =>
 if (fcmp .eql .f64 v3 v4)=true then
  ((pF v3 0).bind fun v5 =>
  some ((!v5)))
 else
  (some (false))
noncomputable def aW(v1:Nat)(v2:Nat):Option (Bool):=
 if (fcmp .leq .f32 (Op.negFloat .f32 v2) v1)=true then
  (some ((fcmp .leq .f32 v1 v2)))
 else
  (some (false))
noncomputable def aM(v1:Bool)(v2:Int)(v3:Bool)(v4:Int):Option (Int):=
 (aA v1 v2).bind fun v6 =>
 if (decide (v6≠0))=true then
  (some (v6))
 else
  ((aA v3 v4).bind fun v7 =>
  if (decide (v7≠0))=true then
   (some (v7))
  else
   (some (0)))
noncomputable def mQ(v1:Nat)(v2:Nat):Option (Int):=
 (jM v1).bind fun v4 =>
 if v4=true then
  ((jM v2).bind fun v5 =>
  (aD (!v5) 27).bind fun (v6,v7) =>
  (aW v1 1266679808).bind fun v8 =>
  if v8=true then
   ((aW v2 1266679808).bind fun v9 =>
   (aD (!v9) 2).bind fun (v10,v11) =>
   (aM v6 v7 v10 v11).bind fun v12 =>
   some (v12))
  else
   ((aD true 2).bind fun (v13,v14) =>
   (aM v6 v7 v13 v14).bind fun v15 =>
   some (v15)))
 else
  ((aD true 27).bind fun (v16,v17) =>
  (aW v1 1266679808).bind fun v18 =>
  if v18=true then
   ((aW v2 1266679808).bind fun v19 =>
   (aD (!v19) 2).bind fun (v20,v21) =>
   (aM v16 v17 v20 v21).bind fun v22 =>
   some (v22))
  else
   ((aD true 2).bind fun (v23,v24) =>
   (aM v16 v17 v23 v24).bind fun v25 =>
   some (v25)))
noncomputable def gA(v1:Int)(v2:(List (Nat×Nat))):Option (Int):=
 (gQ v2 v1).bind fun (v4,v5) =>
 (mQ v4 v5).bind fun v6 =>
 some (v6)
noncomputable def bK(v1:Int)(v2:(List (Nat×Nat))):(Int)→Option ((Int) ⊕ ((Int) ⊕ (Unit))):=fun v4 =>
 if (decide (v4<v1))=true then
  ((gA v4 v2).bind fun v7 =>
  if (decide (v7≠0))=true then
   (some (.inr (.inl v7)))
  else
   (some (.inl (IntKind.i64.wrap (v4+1)))))
 else
  (some (.inr (.inr ())))
noncomputable def jZ(v1:Int)(v2:(List (Nat×Nat))):Option (Int):=
 (run (bK v1 v2) 0).bind fun v8=>match v8 with
 | (.inl v9) =>
  some (v9)
 | (.inr _) =>
  some (0)
noncomputable def iU(v1:Bool)(v2:Int)(v3:Bool)(v4:Int)(v5:Int)(v6:(List (Nat×Nat))):Option (Int):=
 (aA v1 v2).bind fun v8 =>
 if (decide (v8≠0))=true then
  (some (v8))
 else
  ((aA v3 v4).bind fun v9 =>
  if (decide (v9≠0))=true then
   (some (v9))
  else
   ((jZ v5 v6).bind fun v10 =>
   if (decide (v10≠0))=true then
    (some (v10))
   else
    (some (0))))
noncomputable def bT(v1:(List (Nat×Nat))):Option (Int):=
 (aD (decide ((v1.length:Int)=0)) 10).bind fun (v3,v4) =>
 (aD (decide ((v1.length:Int)>1024)) 8).bind fun (v5,v6) =>
 (mY (v1.length:Int) v1).bind fun (v7,v8) =>
 (iU v3 v4 v5 v6 v7 v8).bind fun v9 =>
 some (v9)
noncomputable def bV(v1:Int)(v2:Int)(v3:Int):Option (Bool×Int):=
 if (decide (v1<v2))=true then
  ((aD true 2).bind fun (v6,v7) =>
  some (v6,v7))
 else
  ((aD (decide (v1>v3)) 2).bind fun (v8,v9) =>
  some (v8,v9))
noncomputable def nC(v1:Int)(v2:(List Int))(v3:Int)(v4:Int):Option (Int×(List Int)×Int×Int):=
 some (v1,v2,v3,v4)
noncomputable def nB(v1:(List Int))(v2:Int)(v3:Int):Option (Int×(List Int)×Int×Int):=
 (nC (v1.length:Int) v1 v2 v3).bind fun (v8,v9,v10,v11) =>
 some (v8,v9,v10,v11)
noncomputable def cL(v1:(List Int))(v2:Int):(Int)→Option ((Int) ⊕ ((Int) ⊕ (Unit))):=fun v4 =>
 if (decide (v4<(v1.length:Int)))=true then
  ((gQ v1 v4).bind fun v7 =>
  if (decide (v2=v7))=true then
   (some (.inr (.inl v4)))
  else
   (some (.inl (IntKind.i64.wrap (v4+1)))))
 else
  (some (.inr (.inr ())))
noncomputable def jG(v1:(List Int))(v2:Int):Option (Int):=
 (run (cL v1 v2) 0).bind fun v8=>match v8 with
 | (.inl v9) =>
  some (v9)
 | (.inr _) =>
  some ((-1))
noncomputable def dR(v1:(List Int))(v2:Int):Option (Bool):=
 (jG v1 v2).bind fun v4 =>
 some ((decide (v4≥0)))
noncomputable def dP(v1:Int)(v2:(List Int))(v3:Int)(v4:Int):Option (Int):=
 (gQ v2 v1).bind fun v6 =>
 (bV v6 v3 v4).bind fun (v7,v8) =>
 if (decide (v1>0))=true then
  ((gQ v2 (IntKind.i64.wrap (v1-1))).bind fun v9 =>
  (aD (decide (v6≤v9)) 9).bind fun (v10,v11) =>
  (aM v7 v8 v10 v11).bind fun v12 =>
  some (v12))
 else
  ((aD false 9).bind fun (v13,v14) =>
  (aM v7 v8 v13 v14).bind fun v15 =>
  some (v15))
noncomputable def dD(v1:Int)(v2:(List Int))(v3:Int)(v4:Int):(Int)→Option ((Int) ⊕ ((Int) ⊕ (Unit))):=fun v6 =>
 if (decide (v6<v1))=true then
  ((dP v6 v2 v3 v4).bind fun v9 =>
  if (decide (v9≠0))=true then
   (some (.inr (.inl v9)))
  else
   (some (.inl (IntKind.i64.wrap (v6+1)))))
 else
  (some (.inr (.inr ())))
noncomputable def kE(v1:Int)(v2:(List Int))(v3:Int)(v4:Int):Option (Int):=
 (run (dD v1 v2 v3 v4) 0).bind fun v10=>match v10 with
 | (.inl v11) =>
  some (v11)
 | (.inr _) =>
  some (0)
noncomputable def iK(v1:Bool)(v2:Int)(v3:Bool)(v4:Int)(v5:Int)(v6:(List Int))(v7:Int)(v8:Int)(v9:Bool)(v10:Int):Option (Int):=
 (aA v1 v2).bind fun v12 =>
 if (decide (v12≠0))=true then
  (some (v12))
 else
  ((aA v3 v4).bind fun v13 =>
  if (decide (v13≠0))=true then
   (some (v13))
  else
   ((kE v5 v6 v7 v8).bind fun v14 =>
   if (decide (v14≠0))=true then
    (some (v14))
   else
    ((aA v9 v10).bind fun v15 =>
    if (decide (v15≠0))=true then
     (some (v15))
    else
     (some (0)))))
noncomputable def gN(v1:Int)(v2:(List Int)):Option (Int):=
 (bV v1 2 8).bind fun (v4,v5) =>
 (aD (decide ((v2.length:Int)=0)) 10).bind fun (v6,v7) =>
 (nB v2 1 v1).bind fun (v8,v9,v10,v11) =>
 (dR v2 v1).bind fun v12 =>
 (aD (!v12) 6).bind fun (v13,v14) =>
 (iK v4 v5 v6 v7 v8 v9 v10 v11 v13 v14).bind fun v15 =>
 some (v15)
noncomputable def cC(v1:Int)(v2:(List Int)):Option (Int):=
 (gN v1 v2).bind fun v4 =>
 some (v4)
noncomputable def aC(v1:Int)(v2:(List Int)):Option (Int):=
 (shI .shl .i64 1 v1).bind fun v4 =>
 some ((IntKind.i64.wrap (v4-1)))
noncomputable def aQ(v1:Int)(v2:Int)(v3:(List Int)):Option (Int):=
 (aC v2 v3).bind fun v5 =>
 (bV v1 1 v5).bind fun (v6,v7) =>
 (aA v6 v7).bind fun v8 =>
 some (v8)
noncomputable def iS(v1:(List (Nat×Nat)))(v2:Int)(v3:(List Int))(v4:Int)(v5:Int)(v6:(List Int)):Option (Int):=
 (bT v1).bind fun v8 =>
 if (decide (v8≠0))=true then
  (some (v8))
 else
  ((cC v2 v3).bind fun v9 =>
  if (decide (v9≠0))=true then
   (some (v9))
  else
   ((aQ v4 v5 v6).bind fun v10 =>
   if (decide (v10≠0))=true then
    (some (v10))
   else
    (some (0))))
noncomputable def oT(v1:Nat)(v2:Nat):Option (Int×Int):=
 (f2i .f32 v1 .i64).bind fun v5 =>
 (f2i .f32 v2 .i64).bind fun v6 =>
 some (v5,v6)
noncomputable def fK(v1:(List (Nat×Nat))):((List (Int×Int))×Int)→Option (((List (Int×Int))×Int) ⊕ (((List (Int×Int))))):=fun (v3,v4) =>
 if (decide (v4<(v1.length:Int)))=true then
  ((gQ v1 v4).bind fun (v11,v12) =>
  (oT v11 v12).bind fun (v13,v14) =>
  (lL 16 v3 ([(v13,v14)]:List (Int×Int))).bind fun v15 =>
  some (.inl (v15,(IntKind.i64.wrap (v4+1)))))
 else
  (some (.inr v3))
noncomputable def bN(v1:(List (Nat×Nat))):Option ((List (Int×Int))):=
 (run (fK v1) (([]:List (Int×Int)),0)).bind fun v16 =>
 some (v16)
noncomputable def dA(v1:Int)(v2:Int)(v3:Int)(v4:Int):Option (Int×Int):=
 some ((IntKind.i64.wrap (v1+v3)),(IntKind.i64.wrap (v2+v4)))
noncomputable def eB(v1:(List (Int×Int)))(v2:Int):((List (Int×Int))×Int)→Option (((List (Int×Int))×Int) ⊕ (((List (Int×Int))))):=fun (v5,v6) =>
 if (decide (v6<(v1.length:Int)))=true then
  ((gQ v1 v6).bind fun (v14,v15) =>
  if v2=0 then none else
  ((gQ v5 (v6.tmod v2)).bind fun (v16,v17) =>
  (dA v16 v17 v14 v15).bind fun (v18,v19) =>
  some (.inl ((v5.set ((v6.tmod v2)).toNat (v18,v19)),(IntKind.i64.wrap (v6+1))))))
 else
  (some (.inr v5))
noncomputable def fS(v1:(List (Int×Int)))(v2:Int):Option ((List (Int×Int))):=
 (mkI 16 v2 ((0,0):(Int×Int))).bind fun v4 =>
 (run (eB v1 v2) (v4,0)).bind fun v20 =>
 some (v20)
noncomputable def eC(v1:Int)(v2:(List Int))(v3:Int):Option (Int×Int×(List Int)):=
 some (v3,v1,v2)
noncomputable def cK(v1:Int)(v2:(List Int))(v3:Int):(Int×Int)→Option ((Int×Int) ⊕ ((Int))):=fun (v5,v6) =>
 if (decide (v6<(v2.length:Int)))=true then
  ((gQ v2 v6).bind fun v10 =>
  (shI .shr .i64 v3 (IntKind.i64.wrap (v1-v10))).bind fun v11 =>
  some (.inl ((yP .xor .i64 v5 (yP .and .i64 v11 1)),(IntKind.i64.wrap (v6+1)))))
 else
  (some (.inr v5))
noncomputable def dU(v1:Int)(v2:(List Int))(v3:Int):Option (Int):=
 (run (cK v1 v2 v3) (0,0)).bind fun v12 =>
 (shI .shr .i64 v3 1).bind fun v13 =>
 (shI .shl .i64 v12 (IntKind.i64.wrap (v1-1))).bind fun v14 =>
 some ((yP .or .i64 v13 v14))
noncomputable def aU{X:Type}(H:(Int)→X→Option (Bool×X))(v2:Int)(v3:(List Int)):(Int×X)→Option ((Int×X) ⊕ ((X))):=fun (v5,v6) =>
 (H v5 v6).bind fun (v11,v12) =>
 if v11=true then
  ((dU v2 v3 v5).bind fun v13 =>
  some (.inl (v13,v12)))
 else
  (some (.inr v12))
noncomputable def aH(v1:Int)(v2:Int)(v3:(List Int)){X:Type}(H:(Int)→X→Option (Bool×X))(v4:X):Option X:=
 (run (aU H v2 v3) (v1,v4)).bind fun v14 =>
 some v14
noncomputable def dQ(v4:Int):((Int))→((List Int))→Option (((List Int)) ⊕ (((List Int)))):=fun v13 v9 =>
 if (decide ((v9.length:Int)=v4))=true then
  (some (.inr v9))
 else
  ((lL 8 v9 ([(yP .and .i64 v13 1)]:List Int)).bind fun v14 =>
  some (.inl v14))
noncomputable def fV(v1:Int)(v2:(List Int))(v3:Int)(v4:Int):Option ((List Int)):=
 (eC v1 v2 v3).bind fun (v6,v7,v8) =>
 (aH v6 v7 v8 (hand (dQ v4)) (.inl ([]:List Int))).bind fun v15=>match v15 with
 | .inl v16 =>
  some (v16)
 | .inr v17 =>
  some (v17)
noncomputable def dH(v6:(List Int)):((List Int)×Int)→Option (((List Int)×Int) ⊕ (((List Int)))):=fun (v7,v8) =>
 if (decide (v8<(v6.length:Int)))=true then
  ((gQ v7 v8).bind fun v11 =>
  some (.inl ((v7.set v8.toNat (IntKind.i64.wrap (1-(IntKind.i64.wrap (2*v11))))),(IntKind.i64.wrap (v8+1)))))
 else
  (some (.inr v7))
noncomputable def cA(v1:Int)(v2:(List Int))(v3:Int):Option ((List Int)):=
 (aC v1 v2).bind fun v5 =>
 (fV v1 v2 v3 v5).bind fun v6 =>
 (run (dH v6) (v6,0)).bind fun v12 =>
 some (v12)
noncomputable def bF(v1:Int)(v2:(List Int))(v3:Int):Option ((List Int)):=
 (cA v1 v2 v3).bind fun v5 =>
 some (v5)
noncomputable def mX(v1:Int)(v2:(List (Int×Int))):Option (Int×(List (Int×Int))):=
 some (v1,v2)
noncomputable def gD(v1:Int)(v2:Int):Option (Bool):=
 if (decide ((IntKind.i64.wrap (0-v2))≤v1))=true then
  (some ((decide (v1≤v2))))
 else
  (some (false))
noncomputable def iH(v1:Int)(v2:Int)(v3:Int):Option (Bool×Int):=
 (gD v1 v3).bind fun v6 =>
 if v6=true then
  ((gD v2 v3).bind fun v7 =>
  (aD (!v7) 8).bind fun (v8,v9) =>
  some (v8,v9))
 else
  ((aD true 8).bind fun (v10,v11) =>
  some (v10,v11))
noncomputable def gR(v1:Int)(v2:(List (Int×Int))):Option (Int):=
 (gQ v2 v1).bind fun (v4,v5) =>
 (iH v4 v5 16777216).bind fun (v6,v7) =>
 (aA v6 v7).bind fun v8 =>
 some (v8)
noncomputable def cB(v1:Int)(v2:(List (Int×Int))):(Int)→Option ((Int) ⊕ ((Int) ⊕ (Unit))):=fun v4 =>
 if (decide (v4<v1))=true then
  ((gR v4 v2).bind fun v7 =>
  if (decide (v7≠0))=true then
   (some (.inr (.inl v7)))
  else
   (some (.inl (IntKind.i64.wrap (v4+1)))))
 else
  (some (.inr (.inr ())))
noncomputable def kA(v1:Int)(v2:(List (Int×Int))):Option (Int):=
 (run (cB v1 v2) 0).bind fun v8=>match v8 with
 | (.inl v9) =>
  some (v9)
 | (.inr _) =>
  some (0)
noncomputable def eR(v1:(List (Int×Int))):((List (Nat×Nat))×Int)→Option (((List (Nat×Nat))×Int) ⊕ (((List (Nat×Nat))))):=fun (v7,v8) =>
 if (decide (v8<(v1.length:Int)))=true then
  ((gQ v1 v8).bind fun (v13,v14) =>
  (lL 8 v7 ([((FloatKind.f32.nearest v13),(FloatKind.f32.nearest v14))]:List (Nat×Nat))).bind fun v15 =>
  some (.inl (v15,(IntKind.i64.wrap (v8+1)))))
 else
  (some (.inr v7))
noncomputable def bE(v1:(List (Int×Int))):Option ((List (Nat×Nat))×Int):=
 (mX (v1.length:Int) v1).bind fun (v4,v5) =>
 (kA v4 v5).bind fun v6 =>
 if (decide (v6≠0))=true then
  (some (([]:List (Nat×Nat)),v6))
 else
  ((run (eR v1) (([]:List (Nat×Nat)),0)).bind fun v16 =>
  some (v16,0))
noncomputable def eK(v1:Int)(v2:Int):Option (Int):=
 if v2=0 then none else
 (some (((IntKind.i64.wrap ((v1.tmod v2)+v2)).tmod v2)))
noncomputable def aZ(v1:Int)(v2:(List Int)):Option (Int):=
 (eK v1 (v2.length:Int)).bind fun v4 =>
 (gQ v2 v4).bind fun v5 =>
 some (v5)
noncomputable def iQ(v1:Int)(v2:Int)(v3:(List Int)):Option (Int):=
 (aZ (IntKind.i64.wrap (v1-v2)) v3).bind fun v5 =>
 some (v5)
noncomputable def cU(v1:Int)(v2:Int)(v3:Int):Option (Int×Int):=
 some ((IntKind.i64.wrap (v1*v3)),(IntKind.i64.wrap (v2*v3)))
noncomputable def bM(v1:(List (Int×Int)))(v2:(List Int))(v6:Int):((List (Int×Int))×Int)→Option (((List (Int×Int))×Int) ⊕ (((List (Int×Int))))):=fun (v30,v31) =>
 if (decide (v31<(v1.length:Int)))=true then
  ((gQ v1 v31).bind fun (v42,v43) =>
  (gQ v30 v6).bind fun (v44,v45) =>
  (iQ v6 v31 v2).bind fun v46 =>
  (cU v42 v43 v46).bind fun (v47,v48) =>
  (dA v44 v45 v47 v48).bind fun (v49,v50) =>
  some (.inl ((v30.set v6.toNat (v49,v50)),(IntKind.i64.wrap (v31+1)))))
 else
  (some (.inr v30))
noncomputable def dC(v1:(List (Int×Int)))(v2:(List Int))(v4:(List (Int×Int))):((List (Int×Int))×Int)→Option (((List (Int×Int))×Int) ⊕ (((List (Int×Int))))):=fun (v5,v6) =>
 if (decide (v6<(v4.length:Int)))=true then
  ((run (bM v1 v2 v6) (v5,0)).bind fun v51 =>
  some (.inl (v51,(IntKind.i64.wrap (v6+1)))))
 else
  (some (.inr v5))
noncomputable def fC(v1:(List (Int×Int)))(v2:(List Int)):Option ((List (Int×Int))):=
 (mkI 16 (v1.length:Int) ((0,0):(Int×Int))).bind fun v4 =>
 (run (dC v1 v2 v4) (v4,0)).bind fun v52 =>
 some (v52)
noncomputable def kW(v1:(List (Nat×Nat)))(v2:Int)(v3:(List Int))(v4:Int):Option ((List (Nat×Nat))×Int):=
 (fP v1).bind fun v7 =>
 (aY v2 v3 v4).bind fun (v8,v9,v10) =>
 (iS v7 v2 v3 v8 v9 v10).bind fun v11 =>
 if (decide (v11≠0))=true then
  (some (([]:List (Nat×Nat)),v11))
 else
  ((bN v1).bind fun v12 =>
  (aC v2 v3).bind fun v13 =>
  (fS v12 v13).bind fun v14 =>
  (bF v2 v3 v4).bind fun v15 =>
  (bE v14).bind fun (v16,v17) =>
  if (decide (v17≠0))=true then
   (some (([]:List (Nat×Nat)),v17))
  else
   ((fC v14 v15).bind fun v18 =>
   (bE v18).bind fun (v19,v20) =>
   some (v19,v20)))
noncomputable def iM(v1:(List (Nat×Nat)))(v2:Bool)(v3:Int):Option (Int):=
 (bT v1).bind fun v5 =>
 if (decide (v5≠0))=true then
  (some (v5))
 else
  ((aA v2 v3).bind fun v6 =>
  if (decide (v6≠0))=true then
   (some (v6))
  else
   (some (0)))
noncomputable def mE(v1:(List (Nat×Nat)))(v2:Int):Option ((List (Nat×Nat))×Int):=
 (fP v1).bind fun v5 =>
 (bV v2 1 1024).bind fun (v6,v7) =>
 (iM v5 v6 v7).bind fun v8 =>
 if (decide (v8≠0))=true then
  (some (([]:List (Nat×Nat)),v8))
 else
  ((bN v1).bind fun v9 =>
  (fS v9 v2).bind fun v10 =>
  (bE v10).bind fun (v11,v12) =>
  some (v11,v12))
noncomputable def cW(v3:Int):((Int))→(Int)→Option ((Int) ⊕ ((Int))):=fun v12 v9 =>
 if (decide (v12=v3))=true then
  (some (.inr v9))
 else
  (some (.inl (IntKind.i64.wrap (v9+1))))
noncomputable def eP(v1:Int)(v2:(List Int))(v3:Int):Option (Int):=
 (dU v1 v2 v3).bind fun v5 =>
 (eC v1 v2 v5).bind fun (v6,v7,v8) =>
 (aH v6 v7 v8 (hand (cW v3)) (.inl 1)).bind fun v13=>match v13 with
 | .inl v14 =>
  some (v14)
 | .inr v15 =>
  some (v15)
noncomputable def eZ(v1:Int)(v2:(List Int)):Option (Bool):=
 (eP v1 v2 1).bind fun v4 =>
 (aC v1 v2).bind fun v5 =>
 some ((decide (v4=v5)))
noncomputable def cM(v1:Int)(v2:(List Int)):Option (Int):=
 (eZ v1 v2).bind fun v4 =>
 (aD (!v4) 22).bind fun (v5,v6) =>
 (aA v5 v6).bind fun v7 =>
 some (v7)
noncomputable def eN(v1:(List (Nat×Nat)))(v2:Int)(v3:(List Int)):Option (Int):=
 (aC v2 v3).bind fun v5 =>
 (aD (decide ((v1.length:Int)≠v5)) 13).bind fun (v6,v7) =>
 (aA v6 v7).bind fun v8 =>
 some (v8)
noncomputable def iV(v1:(List (Nat×Nat)))(v2:Int)(v3:(List Int))(v4:Int)(v5:Int)(v6:(List Int))(v7:Int)(v8:(List Int))(v9:(List (Nat×Nat)))(v10:Int)(v11:(List Int)):Option (Int):=
 (bT v1).bind fun v13 =>
 if (decide (v13≠0))=true then
  (some (v13))
 else
  ((cC v2 v3).bind fun v14 =>
  if (decide (v14≠0))=true then
   (some (v14))
  else
   ((aQ v4 v5 v6).bind fun v15 =>
   if (decide (v15≠0))=true then
    (some (v15))
   else
    ((cM v7 v8).bind fun v16 =>
    if (decide (v16≠0))=true then
     (some (v16))
    else
     ((eN v9 v10 v11).bind fun v17 =>
     if (decide (v17≠0))=true then
      (some (v17))
     else
      (some (0))))))
noncomputable def eH(v1:Int)(v2:Int)(v3:(List Int)):Option (Int):=
 (aZ (IntKind.i64.wrap (v2-v1)) v3).bind fun v5 =>
 some ((IntKind.i64.wrap (v5-1)))
noncomputable def bL(v1:(List (Int×Int)))(v2:(List Int))(v6:Int):((List (Int×Int))×Int)→Option (((List (Int×Int))×Int) ⊕ (((List (Int×Int))))):=fun (v30,v31) =>
 if (decide (v31<(v1.length:Int)))=true then
  ((gQ v1 v31).bind fun (v42,v43) =>
  (gQ v30 v6).bind fun (v44,v45) =>
  (eH v6 v31 v2).bind fun v46 =>
  (cU v42 v43 v46).bind fun (v47,v48) =>
  (dA v44 v45 v47 v48).bind fun (v49,v50) =>
  some (.inl ((v30.set v6.toNat (v49,v50)),(IntKind.i64.wrap (v31+1)))))
 else
  (some (.inr v30))
noncomputable def dF(v1:(List (Int×Int)))(v2:(List Int))(v4:(List (Int×Int))):((List (Int×Int))×Int)→Option (((List (Int×Int))×Int) ⊕ (((List (Int×Int))))):=fun (v5,v6) =>
 if (decide (v6<(v4.length:Int)))=true then
  ((run (bL v1 v2 v6) (v5,0)).bind fun v51 =>
  some (.inl (v51,(IntKind.i64.wrap (v6+1)))))
 else
  (some (.inr v5))
noncomputable def fG(v1:(List (Int×Int)))(v2:(List Int)):Option ((List (Int×Int))):=
 (mkI 16 (v1.length:Int) ((0,0):(Int×Int))).bind fun v4 =>
 (run (dF v1 v2 v4) (v4,0)).bind fun v52 =>
 some (v52)
noncomputable def gY(v1:(List (Int×Int)))(v2:Int):((List (Int×Int))×Int)→Option (((List (Int×Int))×Int) ⊕ ((Unit) ⊕ ((List (Int×Int))))):=fun (v5,v6) =>
 if (decide (v6<(v1.length:Int)))=true then
  ((gQ v1 v6).bind fun (v11,v12) =>
  if v2=0 then none else
  (if (decide ((v11.tmod v2)≠0))=true then
   (some (.inr (.inl ())))
  else
   (if (decide ((v12.tmod v2)≠0))=true then
    (some (.inr (.inl ())))
   else
    ((lL 16 v5 ([((IntKind.i64.wrap (v11.tdiv v2)),(IntKind.i64.wrap (v12.tdiv v2)))]:List (Int×Int))).bind fun v13 =>
    some (.inl (v13,(IntKind.i64.wrap (v6+1))))))))
 else
  (some (.inr (.inr v5)))
noncomputable def kX(v1:(List (Int×Int)))(v2:Int):Option ((List (Int×Int))×Bool):=
 (run (gY v1 v2) (([]:List (Int×Int)),0)).bind fun v14=>match v14 with
 | (.inl _) =>
  some (([]:List (Int×Int)),false)
 | (.inr v15) =>
  some (v15,true)
noncomputable def jY(v1:(List (Nat×Nat)))(v2:Int)(v3:(List Int))(v4:Int):Option ((List (Nat×Nat))×Int):=
 (fP v1).bind fun v7 =>
 (aY v2 v3 v4).bind fun (v8,v9,v10) =>
 (iV v7 v2 v3 v8 v9 v10 v2 v3 v1 v2 v3).bind fun v11 =>
 if (decide (v11≠0))=true then
  (some (([]:List (Nat×Nat)),v11))
 else
  ((bF v2 v3 v4).bind fun v12 =>
  (bN v1).bind fun v13 =>
  (fG v13 v12).bind fun v14 =>
  (aC v2 v3).bind fun v15 =>
  (kX v14 (IntKind.i64.wrap (v15+1))).bind fun (v16,v17) =>
  if v17=true then
   ((bE v16).bind fun (v18,v19) =>
   some (v18,v19))
  else
   (some (([]:List (Nat×Nat)),20)))
noncomputable def pN(v1:Nat)(v2:Nat)(v3:Nat)(v4:Nat):Option (Bool):=
 (fbits .f64 v1).bind fun v6 =>
 (fbits .f64 v3).bind fun v7 =>
 if (decide (v6=v7))=true then
  ((fbits .f64 v2).bind fun v8 =>
  (fbits .f64 v4).bind fun v9 =>
  some ((decide (v8=v9))))
 else
  (some (false))
noncomputable def eT(v1:(List (Nat×Nat)))(v2:(List (Nat×Nat))):(Int)→Option ((Int) ⊕ ((Unit) ⊕ (Unit))):=fun v4 =>
 if (decide (v4<(v1.length:Int)))=true then
  ((gQ v1 v4).bind fun (v14,v15) =>
  (f2f .f32 v14 .f64).bind fun v16 =>
  (f2f .f32 v15 .f64).bind fun v17 =>
  (gQ v2 v4).bind fun (v18,v19) =>
  (f2f .f32 v18 .f64).bind fun v20 =>
  (f2f .f32 v19 .f64).bind fun v21 =>
  (pN v16 v17 v20 v21).bind fun v22 =>
  if v22=true then
   (some (.inl (IntKind.i64.wrap (v4+1))))
  else
   (some (.inr (.inl ()))))
 else
  (some (.inr (.inr ())))
noncomputable def fD(v1:(List (Nat×Nat)))(v2:(List (Nat×Nat))):Option (Bool):=
 if (decide ((v1.length:Int)≠(v2.length:Int)))=true then
  (some (false))
 else
  ((run (eT v1 v2) 0).bind fun v23=>match v23 with
  | (.inl _) =>
   some (false)
  | (.inr _) =>
   some (true))
noncomputable def dS(v1:Int):(Int)→Option ((Int) ⊕ ((Unit) ⊕ (Unit))):=fun v3 =>
 if (decide ((IntKind.i64.wrap (v3*v3))≤v1))=true then
  (if v3=0 then none else
  (if (decide ((v1.tmod v3)=0))=true then
   (some (.inr (.inl ())))
  else
   (some (.inl (IntKind.i64.wrap (v3+1))))))
 else
  (some (.inr (.inr ())))
noncomputable def gU(v1:Int):Option (Bool):=
 (run (dS v1) 2).bind fun v4=>match v4 with
 | (.inl _) =>
  some (false)
 | (.inr _) =>
  some (true)
noncomputable def aS(v1:Int)(v2:Int)(v3:Int)(v4:Int)(v5:Int):Option (Int):=
 if v1=0 then none else
 (some (((IntKind.i64.wrap (v4*v5)).tmod v1)))
noncomputable def cN(v1:Int)(v2:Int)(v3:Int):(Int×Int×Int)→Option ((Int×Int×Int) ⊕ ((Int))):=fun (v7,v8,v9) =>
 if (decide (v8>0))=true then
  (if (decide ((v8.tmod 2)=1))=true then
   ((aS v1 v2 v3 v9 v7).bind fun v14 =>
   (aS v1 v2 v3 v7 v7).bind fun v15 =>
   some (.inl (v15,(IntKind.i64.wrap (v8.tdiv 2)),v14)))
  else
   ((aS v1 v2 v3 v7 v7).bind fun v16 =>
   some (.inl (v16,(IntKind.i64.wrap (v8.tdiv 2)),v9))))
 else
  (some (.inr v9))
noncomputable def eJ(v1:Int)(v2:Int)(v3:Int)(v4:Int)(v5:Int):Option (Int):=
 (run (cN v1 v2 v3) (v4,v5,1)).bind fun v17 =>
 some (v17)
noncomputable def cJ(v1:Int)(v2:Int)(v3:Int):(Int×Int)→Option ((Int×Int) ⊕ ((Int×Int))):=fun (v5,v6) =>
 if (decide (v5≠1))=true then
  (if (decide (v6<v3))=true then
   ((aS v1 v2 v3 v5 v2).bind fun v10 =>
   some (.inl (v10,(IntKind.i64.wrap (v6+1)))))
  else
   (some (.inr (v5,v6))))
 else
  (some (.inr (v5,v6)))
noncomputable def cP(v1:Int)(v2:Int)(v3:Int):Option (Bool):=
 (run (cJ v1 v2 v3) (v2,1)).bind fun (v11,v12) =>
 if (decide (v11=1))=true then
  (some ((decide (v12=v3))))
 else
  (some (false))
noncomputable def jB(v1:Int)(v2:Int):(Int)→Option ((Int) ⊕ ((Int))):=fun v6 =>
 if v1=0 then none else
 ((eJ v2 0 v1 v6 (IntKind.i64.wrap ((IntKind.i64.wrap (v2-1)).tdiv v1))).bind fun v10 =>
 (cP v2 v10 v1).bind fun v11 =>
 if v11=true then
  (some (.inr v10))
 else
  (some (.inl (IntKind.i64.wrap (v6+1)))))
noncomputable def qW(v1:Int)(v2:Int):Option (Int×Int×Int):=
 (run (jB v1 v2) 1).bind fun v12 =>
 some (v2,v12,v1)
noncomputable def fJ(v1:Int):(Int)→Option ((Int) ⊕ ((Int×Int×Int) ⊕ (Unit))):=fun v13 =>
 if (decide (v13≤2147483647))=true then
  ((gU v13).bind fun v21 =>
  if v21=true then
   ((qW v1 v13).bind fun (v22,v23,v24) =>
   some (.inr (.inl (v22,v23,v24))))
  else
   (some (.inl (IntKind.i64.wrap (v13+v1)))))
 else
  (some (.inr (.inr ())))
noncomputable def mV(v1:Int)(v2:Int):Option (Int×Int×Int×Int):=
 (bV v1 1 1024).bind fun (v7,v8) =>
 (bV v2 2 2147483647).bind fun (v9,v10) =>
 (aM v7 v8 v9 v10).bind fun v11 =>
 if (decide (v11≠0))=true then
  (some (0,0,0,v11))
 else
  ((eK (IntKind.i64.wrap (1-v2)) v1).bind fun v12 =>
  (run (fJ v1) (IntKind.i64.wrap (v2+v12))).bind fun v25=>match v25 with
  | (.inl (v26,v27,v28)) =>
   some (v26,v27,v28,0)
  | (.inr _) =>
   some (0,0,0,12))
noncomputable def mD(v1:Int):(Int)→Option ((Int) ⊕ ((Unit) ⊕ (Unit))):=fun v3 =>
 if (decide ((IntKind.i64.wrap (v3*v3))≤v1))=true then
  (if v3=0 then none else
  (if (decide ((v1.tmod v3)=0))=true then
   (some (.inr (.inl ())))
  else
   (some (.inl (IntKind.i64.wrap (v3+1))))))
 else
  (some (.inr (.inr ())))
noncomputable def mT(v1:Int):Option (Bool):=
 if (decide (v1<2))=true then
  (some (false))
 else
  ((run (mD v1) 2).bind fun v4=>match v4 with
  | (.inl _) =>
   some (false)
  | (.inr _) =>
   some (true))
noncomputable def iA(v3:Int):(Int×Int×Int)→Option ((Int×Int×Int) ⊕ ((Int))):=fun (v5,v6,v7) =>
 if (decide (v6>0))=true then
  (if (decide ((v6.tmod 2)=1))=true then
   (some (.inl (((IntKind.i64.wrap (v5*v5)).tmod v3),(IntKind.i64.wrap (v6.tdiv 2)),((IntKind.i64.wrap (v7*v5)).tmod v3))))
  else
   (some (.inl (((IntKind.i64.wrap (v5*v5)).tmod v3),(IntKind.i64.wrap (v6.tdiv 2)),v7))))
 else
  (some (.inr v7))
noncomputable def nV(v1:Int)(v2:Int)(v3:Int):Option (Int):=
 if v3=0 then none else
 ((run (iA v3) (v1,v2,((1:Int).tmod v3))).bind fun v9 =>
 some (v9))
noncomputable def jA(v5:Int):(Int)→Option ((Int) ⊕ ((Int))):=fun v12 =>
 if (decide ((v12.tmod v5)=0))=true then
  (some (.inl (IntKind.i64.wrap (v12.tdiv v5))))
 else
  (some (.inr v12))
noncomputable def nA:(Unit)→Option ((Unit) ⊕ ((Unit))):=fun _ =>
 some (.inr ())
noncomputable def eX:(Int×(List Int)×Int)→Option ((Int×(List Int)×Int) ⊕ (((List Int)))):=fun (v3,v4,v5) =>
 if (decide (v3>1))=true then
  (if v5=0 then none else
  (if (decide ((v3.tmod v5)=0))=true then
   ((lL 8 v4 ([v5]:List Int)).bind fun v11 =>
   (run (jA v5) v3).bind fun v14 =>
   some (.inl (v14,v11,(IntKind.i64.wrap (v5+1)))))
  else
   ((run (nA) ()).bind fun _ =>
   some (.inl (v3,v4,(IntKind.i64.wrap (v5+1)))))))
 else
  (some (.inr v4))
noncomputable def oS(v1:Int):Option ((List Int)):=
 (run (eX) (v1,([]:List Int),2)).bind fun v15 =>
 some (v15)
noncomputable def dM(v1:Int)(v2:Int)(v3:Int)(v6:(List Int)):(Int)→Option ((Int) ⊕ ((Unit) ⊕ (Unit))):=fun v7 =>
 if (decide (v7<(v6.length:Int)))=true then
  ((gQ v6 v7).bind fun v10 =>
  if v10=0 then none else
  ((nV v1 (IntKind.i64.wrap (v2.tdiv v10)) v3).bind fun v11 =>
  if (decide (v11=((1:Int).tmod v3)))=true then
   (some (.inr (.inl ())))
  else
   (some (.inl (IntKind.i64.wrap (v7+1))))))
 else
  (some (.inr (.inr ())))
noncomputable def oG(v1:Int)(v2:Int)(v3:Int):Option (Bool):=
 (nV v1 v2 v3).bind fun v5 =>
 if v3=0 then none else
 (if (decide (v5≠((1:Int).tmod v3)))=true then
  (some (false))
 else
  ((oS v2).bind fun v6 =>
  (run (dM v1 v2 v3 v6) 0).bind fun v12=>match v12 with
  | (.inl _) =>
   some (false)
  | (.inr _) =>
   some (true)))
noncomputable def jT(v1:Int)(v2:Int)(v3:Int):Option (Int):=
 (fU v1 2 2147483647).bind fun v5 =>
 if v5=true then
  ((fU v3 1 1024).bind fun v6 =>
  if v6=true then
   ((fU v2 1 (IntKind.i64.wrap (v1-1))).bind fun v7 =>
   if v7=true then
    ((mT v1).bind fun v8 =>
    if v8=true then
     (if v3=0 then none else
     (if (decide (((IntKind.i64.wrap (v1-1)).tmod v3)≠0))=true then
      (some (13))
     else
      ((oG v2 v3 v1).bind fun v9 =>
      if v9=true then
       (some (0))
      else
       (some (20)))))
    else
     (some (15)))
   else
    (some (2)))
  else
   (some (2)))
 else
  (some (2))
noncomputable def sH(v1:Int)(v2:(List Int))(v3:Int):Option (Int×(List Int)×Int):=
 (nM v1 v2).bind fun (v7,v8) =>
 some (v7,v8,v3)
noncomputable def fL(v1:Int)(v2:Int)(v3:Int):Option (Int):=
 (gU v1).bind fun v5 =>
 (aD (!v5) 15).bind fun (v6,v7) =>
 (aA v6 v7).bind fun v8 =>
 some (v8)
noncomputable def fN(v1:Int)(v2:Int)(v3:Int):Option (Int):=
 if v3=0 then none else
 ((aD (decide (((IntKind.i64.wrap (v1-1)).tmod v3)≠0)) 13).bind fun (v5,v6) =>
 (aA v5 v6).bind fun v7 =>
 some (v7))
noncomputable def fR(v1:Int)(v2:Int)(v3:Int):Option (Int):=
 (cP v1 v2 v3).bind fun v5 =>
 (aD (!v5) 20).bind fun (v6,v7) =>
 (aA v6 v7).bind fun v8 =>
 some (v8)
noncomputable def iN(v1:Bool)(v2:Int)(v3:Bool)(v4:Int)(v5:Bool)(v6:Int)(v7:Int)(v8:Int)(v9:Int)(v10:Int)(v11:Int)(v12:Int)(v13:Int)(v14:Int)(v15:Int):Option (Int):=
 (aA v1 v2).bind fun v17 =>
 if (decide (v17≠0))=true then
  (some (v17))
 else
  ((aA v3 v4).bind fun v18 =>
  if (decide (v18≠0))=true then
   (some (v18))
  else
   ((aA v5 v6).bind fun v19 =>
   if (decide (v19≠0))=true then
    (some (v19))
   else
    ((fL v7 v8 v9).bind fun v20 =>
    if (decide (v20≠0))=true then
     (some (v20))
    else
     ((fN v10 v11 v12).bind fun v21 =>
     if (decide (v21≠0))=true then
      (some (v21))
     else
      ((fR v13 v14 v15).bind fun v22 =>
      if (decide (v22≠0))=true then
       (some (v22))
      else
       (some (0)))))))
noncomputable def gX(v1:Int)(v2:Int)(v3:Int):Option (Int):=
 (bV v1 2 2147483647).bind fun (v5,v6) =>
 (bV v3 1 1024).bind fun (v7,v8) =>
 (bV v2 1 (IntKind.i64.wrap (v1-1))).bind fun (v9,v10) =>
 (iN v5 v6 v7 v8 v9 v10 v1 v2 v3 v1 v2 v3 v1 v2 v3).bind fun v11 =>
 some (v11)
noncomputable def lH(v1:Int)(v2:Int)(v3:Int):Option (Int):=
 (gX v1 v2 v3).bind fun v5 =>
 some (v5)
noncomputable def dG(v1:(List (Nat×Nat)))(v2:Int)(v3:(List Int))(v4:Int)(v5:Int)(v6:Int):Option (Int):=
 (aC v2 v3).bind fun v8 =>
 if (decide ((v1.length:Int)≠v8))=true then
  ((aD true 13).bind fun (v9,v10) =>
  (aA v9 v10).bind fun v11 =>
  some (v11))
 else
  ((aC v2 v3).bind fun v12 =>
  (aD (decide (v6≠v12)) 13).bind fun (v13,v14) =>
  (aA v13 v14).bind fun v15 =>
  some (v15))
noncomputable def iL(v1:(List (Nat×Nat)))(v2:Int)(v3:(List Int))(v4:Int)(v5:Int)(v6:(List Int))(v7:Int)(v8:Int)(v9:Int)(v10:Int)(v11:(List Int))(v12:(List (Nat×Nat)))(v13:Int)(v14:(List Int))(v15:Int)(v16:Int)(v17:Int):Option (Int):=
 (bT v1).bind fun v19 =>
 if (decide (v19≠0))=true then
  (some (v19))
 else
  ((cC v2 v3).bind fun v20 =>
  if (decide (v20≠0))=true then
   (some (v20))
  else
   ((aQ v4 v5 v6).bind fun v21 =>
   if (decide (v21≠0))=true then
    (some (v21))
   else
    ((lH v7 v8 v9).bind fun v22 =>
    if (decide (v22≠0))=true then
     (some (v22))
    else
     ((cM v10 v11).bind fun v23 =>
     if (decide (v23≠0))=true then
      (some (v23))
     else
      ((dG v12 v13 v14 v15 v16 v17).bind fun v24 =>
      if (decide (v24≠0))=true then
       (some (v24))
      else
       (some (0)))))))
noncomputable def dE(v1:Int)(v2:Int)(v3:Int):((List Int))→Option (((List Int)) ⊕ (((List Int)))):=fun v5 =>
 if (decide ((v5.length:Int)<v3))=true then
  ((gQ v5 (IntKind.i64.wrap ((v5.length:Int)-1))).bind fun v10 =>
  (aS v1 v2 v3 v10 v2).bind fun v11 =>
  (lL 8 v5 ([v11]:List Int)).bind fun v12 =>
  some (.inl v12))
 else
  (some (.inr v5))
noncomputable def iB(v1:Int)(v2:Int)(v3:Int):Option ((List Int)):=
 (run (dE v1 v2 v3) ([1]:List Int)).bind fun v13 =>
 some (v13)
noncomputable def bG(v1:Int)(v2:Int)(v3:Int)(v4:(List Int))(v6:(List Int))(v9:Int):((List Int)×Int)→Option (((List Int)×Int) ⊕ (((List Int)))):=fun (v26,v27) =>
 if (decide (v27<(v4.length:Int)))=true then
  ((gQ v4 v27).bind fun v34 =>
  (gQ v26 v9).bind fun v35 =>
  (eK v34 v1).bind fun v36 =>
  if v3=0 then none else
  ((gQ v6 ((IntKind.i64.wrap (v27*v9)).tmod v3)).bind fun v37 =>
  (aS v1 v2 v3 v36 v37).bind fun v38 =>
  some (.inl ((v26.set v9.toNat (IntKind.i64.wrap (v35+v38))),(IntKind.i64.wrap (v27+1))))))
 else
  (some (.inr v26))
noncomputable def bX(v1:Int)(v2:Int)(v3:Int)(v4:(List Int))(v6:(List Int))(v7:(List Int)):((List Int)×Int)→Option (((List Int)×Int) ⊕ (((List Int)))):=fun (v8,v9) =>
 if (decide (v9<(v7.length:Int)))=true then
  ((run (bG v1 v2 v3 v4 v6 v9) (v8,0)).bind fun v39 =>
  (gQ v39 v9).bind fun v40 =>
  if v1=0 then none else
  (some (.inl ((v39.set v9.toNat (v40.tmod v1)),(IntKind.i64.wrap (v9+1))))))
 else
  (some (.inr v8))
noncomputable def bD(v1:Int)(v2:Int)(v3:Int)(v4:(List Int)):Option ((List Int)):=
 (iB v1 v2 v3).bind fun v6 =>
 (mkI 8 v3 (0:Int)).bind fun v7 =>
 (run (bX v1 v2 v3 v4 v6 v7) (v7,0)).bind fun v41 =>
 some (v41)
noncomputable def gZ(v1:(List (Int×Int))):((List Int)×(List Int)×Int)→Option (((List Int)×(List Int)×Int) ⊕ (((List Int)×(List Int)))):=fun (v4,v5,v6) =>
 if (decide (v6<(v1.length:Int)))=true then
  ((gQ v1 v6).bind fun (v13,v14) =>
  (lL 8 v4 ([v13]:List Int)).bind fun v15 =>
  (lL 8 v5 ([v14]:List Int)).bind fun v16 =>
  some (.inl (v15,v16,(IntKind.i64.wrap (v6+1)))))
 else
  (some (.inr (v4,v5)))
noncomputable def nX(v1:(List (Int×Int))):Option ((List Int)×(List Int)):=
 (run (gZ v1) (([]:List Int),([]:List Int),0)).bind fun (v17,v18) =>
 some (v17,v18)
noncomputable def cX(v1:Int)(v2:Int)(v3:Int)(v4:Int):Option (Int):=
 (eJ v1 v2 v3 v4 (IntKind.i64.wrap (v1-2))).bind fun v6 =>
 some (v6)
noncomputable def bP(v1:Int)(v2:Int)(v3:Int)(v4:(List Int))(v5:(List Int)):((List Int)×Int)→Option (((List Int)×Int) ⊕ (((List Int)))):=fun (v7,v8) =>
 if (decide (v8<(v4.length:Int)))=true then
  ((gQ v4 v8).bind fun v15 =>
  (gQ v5 v8).bind fun v16 =>
  (cX v1 v2 v3 v16).bind fun v17 =>
  (aS v1 v2 v3 v15 v17).bind fun v18 =>
  (lL 8 v7 ([v18]:List Int)).bind fun v19 =>
  some (.inl (v19,(IntKind.i64.wrap (v8+1)))))
 else
  (some (.inr v7))
noncomputable def fY(v1:Int)(v2:Int)(v3:Int)(v4:(List Int))(v5:(List Int)):Option ((List Int)):=
 (run (bP v1 v2 v3 v4 v5) (([]:List Int),0)).bind fun v20 =>
 some (v20)
noncomputable def eV(v1:Int)(v2:Int)(v3:Int)(v7:Int)(v8:(List Int)):((List Int)×Int)→Option (((List Int)×Int) ⊕ (((List Int)))):=fun (v9,v10) =>
 if (decide (v10<(v8.length:Int)))=true then
  ((gQ v9 v10).bind fun v14 =>
  (aS v1 v2 v3 v14 v7).bind fun v15 =>
  some (.inl ((v9.set v10.toNat v15),(IntKind.i64.wrap (v10+1)))))
 else
  (some (.inr v9))
noncomputable def jS(v1:Int)(v2:Int)(v3:Int)(v4:(List Int)):Option ((List Int)):=
 (cX v1 v2 v3 v2).bind fun v6 =>
 (cX v1 v2 v3 v3).bind fun v7 =>
 (bD v1 v6 v3 v4).bind fun v8 =>
 (run (eV v1 v2 v3 v7 v8) (v8,0)).bind fun v16 =>
 some (v16)
noncomputable def iC(v1:Int)(v2:Int)(v3:Int)(v4:Int):Option (Int):=
 if (decide (v4>(IntKind.i64.wrap (v1.tdiv 2))))=true then
  (some ((IntKind.i64.wrap (v4-v1))))
 else
  (some (v4))
noncomputable def cH(v1:Int)(v2:Int)(v3:Int)(v9:(List Int)):((List Int)×Int)→Option (((List Int)×Int) ⊕ (((List Int)))):=fun (v10,v11) =>
 if (decide (v11<(v9.length:Int)))=true then
  ((gQ v10 v11).bind fun v15 =>
  (iC v1 v2 v3 v15).bind fun v16 =>
  some (.inl ((v10.set v11.toNat v16),(IntKind.i64.wrap (v11+1)))))
 else
  (some (.inr v10))
noncomputable def bU(v1:Int)(v2:Int)(v3:Int)(v4:(List Int))(v5:(List Int)):Option ((List Int)):=
 (bD v1 v2 v3 v4).bind fun v7 =>
 (fY v1 v2 v3 v7 v5).bind fun v8 =>
 (jS v1 v2 v3 v8).bind fun v9 =>
 (run (cH v1 v2 v3 v9) (v9,0)).bind fun v17 =>
 some (v17)
noncomputable def bZ(v20:(List Int))(v21:(List Int)):((List (Int×Int))×Int)→Option (((List (Int×Int))×Int) ⊕ (((List (Int×Int))))):=fun (v22,v23) =>
 if (decide (v23<(v20.length:Int)))=true then
  ((gQ v20 v23).bind fun v28 =>
  (gQ v21 v23).bind fun v29 =>
  (lL 16 v22 ([(v28,v29)]:List (Int×Int))).bind fun v30 =>
  some (.inl (v30,(IntKind.i64.wrap (v23+1)))))
 else
  (some (.inr v22))
noncomputable def gV(v1:(List (Nat×Nat)))(v2:Int)(v3:(List Int))(v4:Int)(v5:Int)(v6:Int)(v7:Int):Option ((List (Nat×Nat))×Int):=
 (fP v1).bind fun v10 =>
 (aY v2 v3 v4).bind fun (v11,v12,v13) =>
 (iL v10 v2 v3 v11 v12 v13 v5 v6 v7 v2 v3 v1 v2 v3 v5 v6 v7).bind fun v14 =>
 if (decide (v14≠0))=true then
  (some (([]:List (Nat×Nat)),v14))
 else
  ((cA v2 v3 v4).bind fun v15 =>
  (bD v5 v6 v7 v15).bind fun v16 =>
  (bN v1).bind fun v17 =>
  (nX v17).bind fun (v18,v19) =>
  (bU v5 v6 v7 v18 v16).bind fun v20 =>
  (bU v5 v6 v7 v19 v16).bind fun v21 =>
  (run (bZ v20 v21) (([]:List (Int×Int)),0)).bind fun v31 =>
  (bE v31).bind fun (v32,v33) =>
  some (v32,v33))
noncomputable def cQ(v1:(List (Nat×Nat))):(Int)→Option ((Int) ⊕ ((Unit) ⊕ (Unit))):=fun v12 =>
 if (decide (v12<(v1.length:Int)))=true then
  ((gQ v1 v12).bind fun (v15,v16) =>
  if (fcmp .gtr .f32 v15 1189765120)=true then
   (some (.inr (.inl ())))
  else
   (if (fcmp .lss .f32 v15 3337248768)=true then
    (some (.inr (.inl ())))
   else
    (if (fcmp .gtr .f32 v16 1189765120)=true then
     (some (.inr (.inl ())))
    else
     (if (fcmp .lss .f32 v16 3337248768)=true then
      (some (.inr (.inl ())))
     else
      (some (.inl (IntKind.i64.wrap (v12+1))))))))
 else
  (some (.inr (.inr ())))
noncomputable def nE(v1:(List (Nat×Nat)))(v2:Int)(v3:(List Int))(v4:Int)(v5:Int):Option Bool:=
 (pC v1).bind fun v7 =>
 if v7=true then
  (if (decide ((v3.length:Int)>12))=true then
   (some (true))
  else
   ((nH v1).bind fun v8 =>
   (mW v8).bind fun v9 =>
   if (decide (v9≠0))=true then
    (some (true))
   else
    ((iG v2 v3 v4).bind fun v10 =>
    if (decide (v10≠0))=true then
     (some (true))
    else
     ((kS v2 v3).bind fun v11 =>
     if v11=true then
      ((run (cQ v1) 0).bind fun v17=>match v17 with
      | (.inl _) =>
       some (true)
      | (.inr _) =>
       (nK v2 v3).bind fun v18 =>
       (nH v1).bind fun v19 =>
       (nM v2 v3).bind fun (v20,v21) =>
       (kW v19 v20 v21 v4).bind fun (v22,v23) =>
       (nH v1).bind fun v24 =>
       (mE v24 v18).bind fun (v25,v26) =>
       if (decide (v23≠0))=true then
        (if (decide (v23=8))=true then
         (some ((decide (v26=0))))
        else
         (some (false)))
       else
        (if (decide (v26≠0))=true then
         (if (decide (v23=8))=true then
          (some ((decide (v26=0))))
         else
          (some (false)))
        else
         ((lL 8 ([]:List (Nat×Nat)) v22).bind fun v27 =>
         (nM v2 v3).bind fun (v28,v29) =>
         (jY v27 v28 v29 v4).bind fun (v30,v31) =>
         if (decide (v31≠0))=true then
          (some (false))
         else
          ((fD v30 v25).bind fun v32 =>
          if v32=true then
           ((fU v5 3000000 1000000000).bind fun v33 =>
           if v33=true then
            ((mV v18 v5).bind fun (v34,v35,v36,v37) =>
            if (decide (v37≠0))=true then
             (some (false))
            else
             ((jT v34 v35 v36).bind fun v38 =>
             if (decide (v38≠0))=true then
              (some (false))
             else
              ((lL 8 ([]:List (Nat×Nat)) v22).bind fun v39 =>
              (sH v2 v3 v4).bind fun (v40,v41,v42) =>
              (gV v39 v40 v41 v42 v34 v35 v36).bind fun (v43,v44) =>
              if (decide (v44=0))=true then
               ((fD v43 v25).bind fun v45 =>
               some (v45))
              else
               (some (false)))))
           else
            (some (true)))
          else
           (some (false))))))
     else
      (some (true))))))
 else
  (some (true))
noncomputable def dK(v1:Nat):Option (Bool):=
 (f2f .f32 v1 .f64).bind fun v3 =>
 (nJ v3).bind fun v4 =>
 if (fcmp .eql .f64 v3 v4)=true then
  ((pF v3 0).bind fun v5 =>
  some ((!v5)))
 else
  (some (false))
end Go.Rex
