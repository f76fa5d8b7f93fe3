/- The functions of the program and of the reference,as functions of lists and numbers. -/
import Derived.Test.YtbodidihhbejmaaGreatRexG10
set_option linter.unusedSimpArgs false
set_option linter.unusedVariables false
set_option linter.defProp false
namespace Go.Rex
open Go Go.Rex
def e_ff(x:(Nat×Nat)):List TV:=[.v (.float .f32 x.1),.v (.float .f32 x.2)]
def e_c(x:(Nat×Nat)):List TV:=[.v (.complex .f32 x.1 x.2)]
def e_i(x:Int):List TV:=[.v (.int .i64 x)]
def e_ii(x:(Int×Int)):List TV:=[.v (.int .i64 x.1),.v (.int .i64 x.2)]
noncomputable def gF(v1:(List (Nat×Nat))):Option (Bool):=
 if (decide ((v1.length:Int)≤40))=true then
  (some (true))
 else
  (if (decide ((v1.length:Int)>1024))=true then
   (some ((decide ((v1.length:Int)≤1026))))
  else
   (some (false)))
noncomputable def jV(v1:(List (Nat×Nat))):((List (Nat×Nat))×Int)→Option (((List (Nat×Nat))×Int) ⊕ (((List (Nat×Nat))))):=fun (v3,v4) =>
 if (decide (v4<(v1.length:Int)))=true then
  ((aH v1 v4).bind fun (v9,v10) =>
  (iT 8 v3 ([(v9,v10)]:List (Nat×Nat))).bind fun v11 =>
  some (.inl (v11,(IntKind.i64.wrap (v4+1)))))
 else
  (some (.inr v3))
noncomputable def aR(v1:(List (Nat×Nat))):Option ((List (Nat×Nat))):=
 (run (jV v1) (([]:List (Nat×Nat)),0)).bind fun v12 =>
 some (v12)
noncomputable def dQ(v1:(List Int)):Option ((List Int)):=
 (iT 8 ([]:List Int) v1).bind fun v3 =>
 some (v3)
noncomputable def kT(v1:Int)(v2:(List Int)):Option (Int×(List Int)):=
 (dQ v2).bind fun v5 =>
 some (v1,v5)
noncomputable def qN(v1:Int)(v2:(List Int))(v3:Int):Option (Int×(List Int)×Int):=
 (kT v1 v2).bind fun (v7,v8) =>
 some (v7,v8,v3)
noncomputable def cC(v1:(List (Nat×Nat))):Option ((List (Nat×Nat))):=
 some (v1)
noncomputable def bE(v1:Int)(v2:(List Int))(v3:Int):Option (Int×Int×(List Int)):=
 some (v3,v1,v2)
noncomputable def aD(v1:Bool)(v2:Int):Option (Bool×Int):=
 some (v1,v2)
noncomputable def mB(v1:Int)(v2:(List (Nat×Nat))):Option (Int×(List (Nat×Nat))):=
 some (v1,v2)
noncomputable def aA(v1:Bool)(v2:Int):Option (Int):=
 if v1=true then
  (some (v2))
 else
  (some (0))
noncomputable def mD(v1:Nat):Option (Nat):=
 (trI .zero v1).bind fun v3 =>
 some (v3)
noncomputable def zV(v1:Nat):Option (Nat):=
 (fbits .f64 v1).bind fun v3 =>
 some (((yU .andNot .u64 v3 9223372036854775808)).toNat)
noncomputable def nR(v1:Nat)(v2:Int):Option (Bool):=
 if (decide (v2=0))=true then
  ((zV v1).bind fun v4 =>
  some ((fcmp .gtr .f64 v4 9218868437227405311)))
 else
  (if (decide (v2<0))=true then
   (some ((fcmp .gtr .f64 (Op.negFloat .f64 v1) 9218868437227405311)))
  else
   (some ((fcmp .gtr .f64 v1 9218868437227405311))))
noncomputable def iV(v1:Nat):Option (Bool):=
 (f2f .f32 v1 .f64).bind fun v3 =>
 (mD v3).bind fun v4 =>
 if (fcmp .eql .f64 v3 v4)=true then
  ((nR v3 0).bind fun v5 =>
  some ((!v5)))
 else
  (some (false))
noncomputable def aZ(v1:Nat)(v2:Nat):Option (Bool):=
 if (fcmp .leq .f32 (Op.negFloat .f32 v2) v1)=true then
  (some ((fcmp .leq .f32 v1 v2)))
 else
  (some (false))
noncomputable def aW(v1:Bool)(v2:Int)(v3:Bool)(v4:Int):Option (Int):=
 (aA v1 v2).bind fun v6 =>
 if (decide (v6≠0))=true then
  (some (v6))
 else
  ((aA v3 v4).bind fun v7 =>
  if (decide (v7≠0))=true then
   (some (v7))
  else
   (some (0)))
noncomputable def lQ(v1:Nat)(v2:Nat):Option (Int):=
 (iV v1).bind fun v4 =>
 if v4=true then
  ((iV v2).bind fun v5 =>
  (aD (!v5) 27).bind fun (v6,v7) =>
  (aZ v1 1266679808).bind fun v8 =>
  if v8=true then
   ((aZ v2 1266679808).bind fun v9 =>
   (aD (!v9) 2).bind fun (v10,v11) =>
   (aW v6 v7 v10 v11).bind fun v12 =>
   some (v12))
  else
   ((aD true 2).bind fun (v13,v14) =>
   (aW v6 v7 v13 v14).bind fun v15 =>
   some (v15)))
 else
  ((aD true 27).bind fun (v16,v17) =>
  (aZ v1 1266679808).bind fun v18 =>
  if v18=true then
   ((aZ v2 1266679808).bind fun v19 =>
   (aD (!v19) 2).bind fun (v20,v21) =>
   (aW v16 v17 v20 v21).bind fun v22 =>
   some (v22))
  else
   ((aD true 2).bind fun (v23,v24) =>
   (aW v16 v17 v23 v24).bind fun v25 =>
   some (v25)))
noncomputable def fM(v1:Int)(v2:(List (Nat×Nat))):Option (Int):=
 (aH v2 v1).bind fun (v4,v5) =>
 (lQ v4 v5).bind fun v6 =>
 some (v6)
noncomputable def bP(v1:Int)(v2:(List (Nat×Nat))):(Int)→Option ((Int) ⊕ ((Int) ⊕ (Unit))):=fun v4 =>
 if (decide (v4<v1))=true then
  ((fM v4 v2).bind fun v7 =>
  if (decide (v7≠0))=true then
   (some (.inr (.inl v7)))
  else
   (some (.inl (IntKind.i64.wrap (v4+1)))))
 else
  (some (.inr (.inr ())))
noncomputable def jQ(v1:Int)(v2:(List (Nat×Nat))):Option (Int):=
 (run (bP v1 v2) 0).bind fun v8=>match v8 with
 | (.inl v9) =>
  some (v9)
 | (.inr _) =>
  some (0)
noncomputable def gW(v1:Bool)(v2:Int)(v3:Bool)(v4:Int)(v5:Int)(v6:(List (Nat×Nat))):Option (Int):=
 (aA v1 v2).bind fun v8 =>
 if (decide (v8≠0))=true then
  (some (v8))
 else
  ((aA v3 v4).bind fun v9 =>
  if (decide (v9≠0))=true then
   (some (v9))
  else
   ((jQ v5 v6).bind fun v10 =>
   if (decide (v10≠0))=true then
    (some (v10))
   else
    (some (0))))
noncomputable def aQ(v1:(List (Nat×Nat))):Option (Int):=
 (aD (decide ((v1.length:Int)=0)) 10).bind fun (v3,v4) =>
 (aD (decide ((v1.length:Int)>1024)) 8).bind fun (v5,v6) =>
 (mB (v1.length:Int) v1).bind fun (v7,v8) =>
 (gW v3 v4 v5 v6 v7 v8).bind fun v9 =>
 some (v9)
noncomputable def cB(v1:Int)(v2:Int)(v3:Int):Option (Bool×Int):=
 if (decide (v1<v2))=true then
  ((aD true 2).bind fun (v6,v7) =>
  some (v6,v7))
 else
  ((aD (decide (v1>v3)) 2).bind fun (v8,v9) =>
  some (v8,v9))
noncomputable def lZ(v1:Int)(v2:(List Int))(v3:Int)(v4:Int):Option (Int×(List Int)×Int×Int):=
 some (v1,v2,v3,v4)
noncomputable def lV(v1:(List Int))(v2:Int)(v3:Int):Option (Int×(List Int)×Int×Int):=
 (lZ (v1.length:Int) v1 v2 v3).bind fun (v8,v9,v10,v11) =>
 some (v8,v9,v10,v11)
noncomputable def dA(v1:(List Int))(v2:Int):(Int)→Option ((Int) ⊕ ((Int) ⊕ (Unit))):=fun v4 =>
 if (decide (v4<(v1.length:Int)))=true then
  ((aH v1 v4).bind fun v7 =>
  if (decide (v2=v7))=true then
   (some (.inr (.inl v4)))
  else
   (some (.inl (IntKind.i64.wrap (v4+1)))))
 else
  (some (.inr (.inr ())))
noncomputable def iF(v1:(List Int))(v2:Int):Option (Int):=
 (run (dA v1 v2) 0).bind fun v8=>match v8 with
 | (.inl v9) =>
  some (v9)
 | (.inr _) =>
  some ((-1))
noncomputable def eA(v1:(List Int))(v2:Int):Option (Bool):=
 (iF v1 v2).bind fun v4 =>
 some ((decide (v4≥0)))
noncomputable def eC(v1:Int)(v2:(List Int))(v3:Int)(v4:Int):Option (Int):=
 (aH v2 v1).bind fun v6 =>
 (cB v6 v3 v4).bind fun (v7,v8) =>
 if (decide (v1>0))=true then
  ((aH v2 (IntKind.i64.wrap (v1-1))).bind fun v9 =>
  (aD (decide (v6≤v9)) 9).bind fun (v10,v11) =>
  (aW v7 v8 v10 v11).bind fun v12 =>
  some (v12))
 else
  ((aD false 9).bind fun (v13,v14) =>
  (aW v7 v8 v13 v14).bind fun v15 =>
  some (v15))
noncomputable def dM(v1:Int)(v2:(List Int))(v3:Int)(v4:Int):(Int)→Option ((Int) ⊕ ((Int) ⊕ (Unit))):=fun v6 =>
 if (decide (v6<v1))=true then
  ((eC v6 v2 v3 v4).bind fun v9 =>
  if (decide (v9≠0))=true then
   (some (.inr (.inl v9)))
  else
   (some (.inl (IntKind.i64.wrap (v6+1)))))
 else
  (some (.inr (.inr ())))
noncomputable def jK(v1:Int)(v2:(List Int))(v3:Int)(v4:Int):Option (Int):=
 (run (dM v1 v2 v3 v4) 0).bind fun v10=>match v10 with
 | (.inl v11) =>
  some (v11)
 | (.inr _) =>
  some (0)
noncomputable def gR(v1:Bool)(v2:Int)(v3:Bool)(v4:Int)(v5:Int)(v6:(List Int))(v7:Int)(v8:Int)(v9:Bool)(v10:Int):Option (Int):=
 (aA v1 v2).bind fun v12 =>
 if (decide (v12≠0))=true then
  (some (v12))
 else
  ((aA v3 v4).bind fun v13 =>
  if (decide (v13≠0))=true then
   (some (v13))
  else
   ((jK v5 v6 v7 v8).bind fun v14 =>
   if (decide (v14≠0))=true then
    (some (v14))
   else
    ((aA v9 v10).bind fun v15 =>
    if (decide (v15≠0))=true then
     (some (v15))
    else
     (some (0)))))
noncomputable def fV(v1:Int)(v2:(List Int)):Option (Int):=
 (cB v1 2 8).bind fun (v4,v5) =>
 (aD (decide ((v2.length:Int)=0)) 10).bind fun (v6,v7) =>
 (lV v2 1 v1).bind fun (v8,v9,v10,v11) =>
 (eA v2 v1).bind fun v12 =>
 (aD (!v12) 6).bind fun (v13,v14) =>
 (gR v4 v5 v6 v7 v8 v9 v10 v11 v13 v14).bind fun v15 =>
 some (v15)
noncomputable def cV(v1:Int)(v2:(List Int)):Option (Int):=
 (fV v1 v2).bind fun v4 =>
 some (v4)
noncomputable def aF(v1:Int)(v2:(List Int)):Option (Int):=
 (shI .shl .i64 1 v1).bind fun v4 =>
 some ((IntKind.i64.wrap (v4-1)))
noncomputable def aT(v1:Int)(v2:Int)(v3:(List Int)):Option (Int):=
 (aF v2 v3).bind fun v5 =>
 (cB v1 1 v5).bind fun (v6,v7) =>
 (aA v6 v7).bind fun v8 =>
 some (v8)
noncomputable def eD(v1:Int):(Int)→Option ((Int) ⊕ ((Unit) ⊕ (Unit))):=fun v3 =>
 if (decide ((IntKind.i64.wrap (v3*v3))≤v1))=true then
  (if v3=0 then none else
  (if (decide ((v1.tmod v3)=0))=true then
   (some (.inr (.inl ())))
  else
   (some (.inl (IntKind.i64.wrap (v3+1))))))
 else
  (some (.inr (.inr ())))
noncomputable def lP(v1:Int):Option (Bool):=
 (run (eD v1) 2).bind fun v4=>match v4 with
 | (.inl _) =>
  some (false)
 | (.inr _) =>
  some (true)
noncomputable def fC(v1:Int)(v2:Int)(v3:Int):Option (Int):=
 (lP v1).bind fun v5 =>
 (aD (!v5) 15).bind fun (v6,v7) =>
 (aA v6 v7).bind fun v8 =>
 some (v8)
noncomputable def fA(v1:Int)(v2:Int)(v3:Int):Option (Int):=
 if v3=0 then none else
 ((aD (decide (((IntKind.i64.wrap (v1-1)).tmod v3)≠0)) 13).bind fun (v5,v6) =>
 (aA v5 v6).bind fun v7 =>
 some (v7))
noncomputable def aU(v1:Int)(v2:Int)(v3:Int)(v4:Int)(v5:Int):Option (Int):=
 if v1=0 then none else
 (some (((IntKind.i64.wrap (v4*v5)).tmod v1)))
noncomputable def cW(v1:Int)(v2:Int)(v3:Int):(Int×Int)→Option ((Int×Int) ⊕ ((Int×Int))):=fun (v5,v6) =>
 if (decide (v5≠1))=true then
  (if (decide (v6<v3))=true then
   ((aU v1 v2 v3 v5 v2).bind fun v10 =>
   some (.inl (v10,(IntKind.i64.wrap (v6+1)))))
  else
   (some (.inr (v5,v6))))
 else
  (some (.inr (v5,v6)))
noncomputable def fF(v1:Int)(v2:Int)(v3:Int):Option (Bool):=
 (run (cW v1 v2 v3) (v2,1)).bind fun (v11,v12) =>
 if (decide (v11=1))=true then
  (some ((decide (v12=v3))))
 else
  (some (false))
noncomputable def fB(v1:Int)(v2:Int)(v3:Int):Option (Int):=
 (fF v1 v2 v3).bind fun v5 =>
 (aD (!v5) 20).bind fun (v6,v7) =>
 (aA v6 v7).bind fun v8 =>
 some (v8)
noncomputable def gT(v1:Bool)(v2:Int)(v3:Bool)(v4:Int)(v5:Bool)(v6:Int)(v7:Int)(v8:Int)(v9:Int)(v10:Int)(v11:Int)(v12:Int)(v13:Int)(v14:Int)(v15:Int):Option (Int):=
 (aA v1 v2).bind fun v17 =>
 if (decide (v17≠0))=true then
  (some (v17))
 else
  ((aA v3 v4).bind fun v18 =>
  if (decide (v18≠0))=true then
   (some (v18))
  else
   ((aA v5 v6).bind fun v19 =>
   if (decide (v19≠0))=true then
    (some (v19))
   else
    ((fC v7 v8 v9).bind fun v20 =>
    if (decide (v20≠0))=true then
     (some (v20))
    else
     ((fA v10 v11 v12).bind fun v21 =>
     if (decide (v21≠0))=true then
      (some (v21))
     else
      ((fB v13 v14 v15).bind fun v22 =>
      if (decide (v22≠0))=true then
       (some (v22))
      else
       (some (0)))))))
noncomputable def gD(v1:Int)(v2:Int)(v3:Int):Option (Int):=
 (cB v1 2 2147483647).bind fun (v5,v6) =>
 (cB v3 1 1024).bind fun (v7,v8) =>
 (cB v2 1 (IntKind.i64.wrap (v1-1))).bind fun (v9,v10) =>
 (gT v5 v6 v7 v8 v9 v10 v1 v2 v3 v1 v2 v3 v1 v2 v3).bind fun v11 =>
 some (v11)
noncomputable def iL(v1:Int)(v2:Int)(v3:Int):Option (Int):=
 (gD v1 v2 v3).bind fun v5 =>
 some (v5)
noncomputable def cX(v1:Int)(v2:(List Int))(v3:Int):(Int×Int)→Option ((Int×Int) ⊕ ((Int))):=fun (v5,v6) =>
 if (decide (v6<(v2.length:Int)))=true then
  ((aH v2 v6).bind fun v10 =>
  (shI .shr .i64 v3 (IntKind.i64.wrap (v1-v10))).bind fun v11 =>
  some (.inl ((yU .xor .i64 v5 (yU .and .i64 v11 1)),(IntKind.i64.wrap (v6+1)))))
 else
  (some (.inr v5))
noncomputable def eE(v1:Int)(v2:(List Int))(v3:Int):Option (Int):=
 (run (cX v1 v2 v3) (0,0)).bind fun v12 =>
 (shI .shr .i64 v3 1).bind fun v13 =>
 (shI .shl .i64 v12 (IntKind.i64.wrap (v1-1))).bind fun v14 =>
 some ((yU .or .i64 v13 v14))
noncomputable def eK(v1:Int)(v2:(List Int))(v3:Int):Option (Int×Int×(List Int)):=
 some (v3,v1,v2)
noncomputable def aY{X:Type}(H:(Int)→X→Option (Bool×X))(v2:Int)(v3:(List Int)):(Int×X)→Option ((Int×X) ⊕ ((X))):=fun (v5,v6) =>
 (H v5 v6).bind fun (v11,v12) =>
 if v11=true then
  ((eE v2 v3 v5).bind fun v13 =>
  some (.inl (v13,v12)))
 else
  (some (.inr v12))
noncomputable def aK(v1:Int)(v2:Int)(v3:(List Int)){X:Type}(H:(Int)→X→Option (Bool×X))(v4:X):Option X:=
 (run (aY H v2 v3) (v1,v4)).bind fun v14 =>
 some v14
noncomputable def dK(v3:Int):((Int))→(Int)→Option ((Int) ⊕ ((Int))):=fun v12 v9 =>
 if (decide (v12=v3))=true then
  (some (.inr v9))
 else
  (some (.inl (IntKind.i64.wrap (v9+1))))
noncomputable def eJ(v1:Int)(v2:(List Int))(v3:Int):Option (Int):=
 (eE v1 v2 v3).bind fun v5 =>
 (eK v1 v2 v5).bind fun (v6,v7,v8) =>
 (aK v6 v7 v8 (hand (dK v3)) (.inl 1)).bind fun v13=>match v13 with
 | .inl v14 =>
  some (v14)
 | .inr v15 =>
  some (v15)
noncomputable def eU(v1:Int)(v2:(List Int)):Option (Bool):=
 (eJ v1 v2 1).bind fun v4 =>
 (aF v1 v2).bind fun v5 =>
 some ((decide (v4=v5)))
noncomputable def cY(v1:Int)(v2:(List Int)):Option (Int):=
 (eU v1 v2).bind fun v4 =>
 (aD (!v4) 22).bind fun (v5,v6) =>
 (aA v5 v6).bind fun v7 =>
 some (v7)
noncomputable def dT(v1:(List (Nat×Nat)))(v2:Int)(v3:(List Int))(v4:Int)(v5:Int)(v6:Int):Option (Int):=
 (aF v2 v3).bind fun v8 =>
 if (decide ((v1.length:Int)≠v8))=true then
  ((aD true 13).bind fun (v9,v10) =>
  (aA v9 v10).bind fun v11 =>
  some (v11))
 else
  ((aF v2 v3).bind fun v12 =>
  (aD (decide (v6≠v12)) 13).bind fun (v13,v14) =>
  (aA v13 v14).bind fun v15 =>
  some (v15))
noncomputable def dP(v1:(List (Nat×Nat)))(v2:Int)(v3:(List Int))(v4:Int)(v5:Int)(v6:(List Int))(v7:Int)(v8:Int)(v9:Int)(v10:Int)(v11:(List Int))(v12:(List (Nat×Nat)))(v13:Int)(v14:(List Int))(v15:Int)(v16:Int)(v17:Int):Option (Int):=
 (aQ v1).bind fun v19 =>
 if (decide (v19≠0))=true then
  (some (v19))
 else
  ((cV v2 v3).bind fun v20 =>
  if (decide (v20≠0))=true then
   (some (v20))
  else
   ((aT v4 v5 v6).bind fun v21 =>
   if (decide (v21≠0))=true then
    (some (v21))
   else
    ((iL v7 v8 v9).bind fun v22 =>
    if (decide (v22≠0))=true then
     (some (v22))
    else
     ((cY v10 v11).bind fun v23 =>
     if (decide (v23≠0))=true then
      (some (v23))
     else
      ((dT v12 v13 v14 v15 v16 v17).bind fun v24 =>
      if (decide (v24≠0))=true then
       (some (v24))
      else
       (some (0)))))))
noncomputable def eB(v4:Int):((Int))→((List Int))→Option (((List Int)) ⊕ (((List Int)))):=fun v13 v9 =>
 if (decide ((v9.length:Int)=v4))=true then
  (some (.inr v9))
 else
  ((iT 8 v9 ([(yU .and .i64 v13 1)]:List Int)).bind fun v14 =>
  some (.inl v14))
noncomputable def fG(v1:Int)(v2:(List Int))(v3:Int)(v4:Int):Option ((List Int)):=
 (eK v1 v2 v3).bind fun (v6,v7,v8) =>
 (aK v6 v7 v8 (hand (eB v4)) (.inl ([]:List Int))).bind fun v15=>match v15 with
 | .inl v16 =>
  some (v16)
 | .inr v17 =>
  some (v17)
noncomputable def dS(v6:(List Int)):((List Int)×Int)→Option (((List Int)×Int) ⊕ (((List Int)))):=fun (v7,v8) =>
 if (decide (v8<(v6.length:Int)))=true then
  ((aH v7 v8).bind fun v11 =>
  some (.inl ((v7.set v8.toNat (IntKind.i64.wrap (1-(IntKind.i64.wrap (2*v11))))),(IntKind.i64.wrap (v8+1)))))
 else
  (some (.inr v7))
noncomputable def cT(v1:Int)(v2:(List Int))(v3:Int):Option ((List Int)):=
 (aF v1 v2).bind fun v5 =>
 (fG v1 v2 v3 v5).bind fun v6 =>
 (run (dS v6) (v6,0)).bind fun v12 =>
 some (v12)
noncomputable def dN(v1:Int)(v2:Int)(v3:Int):((List Int))→Option (((List Int)) ⊕ (((List Int)))):=fun v5 =>
 if (decide ((v5.length:Int)<v3))=true then
  ((aH v5 (IntKind.i64.wrap ((v5.length:Int)-1))).bind fun v10 =>
  (aU v1 v2 v3 v10 v2).bind fun v11 =>
  (iT 8 v5 ([v11]:List Int)).bind fun v12 =>
  some (.inl v12))
 else
  (some (.inr v5))
noncomputable def gM(v1:Int)(v2:Int)(v3:Int):Option ((List Int)):=
 (run (dN v1 v2 v3) ([1]:List Int)).bind fun v13 =>
 some (v13)
noncomputable def jH(v1:Int)(v2:Int):Option (Int):=
 if v2=0 then none else
 (some (((IntKind.i64.wrap ((v1.tmod v2)+v2)).tmod v2)))
noncomputable def bL(v1:Int)(v2:Int)(v3:Int)(v4:(List Int))(v6:(List Int))(v9:Int):((List Int)×Int)→Option (((List Int)×Int) ⊕ (((List Int)))):=fun (v26,v27) =>
 if (decide (v27<(v4.length:Int)))=true then
  ((aH v4 v27).bind fun v34 =>
  (aH v26 v9).bind fun v35 =>
  (jH v34 v1).bind fun v36 =>
  if v3=0 then none else
  ((aH v6 ((IntKind.i64.wrap (v27*v9)).tmod v3)).bind fun v37 =>
  (aU v1 v2 v3 v36 v37).bind fun v38 =>
  some (.inl ((v26.set v9.toNat (IntKind.i64.wrap (v35+v38))),(IntKind.i64.wrap (v27+1))))))
 else
  (some (.inr v26))
noncomputable def cK(v1:Int)(v2:Int)(v3:Int)(v4:(List Int))(v6:(List Int))(v7:(List Int)):((List Int)×Int)→Option (((List Int)×Int) ⊕ (((List Int)))):=fun (v8,v9) =>
 if (decide (v9<(v7.length:Int)))=true then
  ((run (bL v1 v2 v3 v4 v6 v9) (v8,0)).bind fun v39 =>
  (aH v39 v9).bind fun v40 =>
  if v1=0 then none else
  (some (.inl ((v39.set v9.toNat (v40.tmod v1)),(IntKind.i64.wrap (v9+1))))))
 else
  (some (.inr v8))
noncomputable def bB(v1:Int)(v2:Int)(v3:Int)(v4:(List Int)):Option ((List Int)):=
 (gM v1 v2 v3).bind fun v6 =>
 (mkI 8 v3 (0:Int)).bind fun v7 =>
 (run (cK v1 v2 v3 v4 v6 v7) (v7,0)).bind fun v41 =>
 some (v41)
noncomputable def fJ(v1:Nat)(v2:Nat):Option (Int×Int):=
 (f2i .f32 v1 .i64).bind fun v5 =>
 (f2i .f32 v2 .i64).bind fun v6 =>
 some (v5,v6)
noncomputable def dB(v1:(List (Nat×Nat))):((List (Int×Int))×Int)→Option (((List (Int×Int))×Int) ⊕ (((List (Int×Int))))):=fun (v3,v4) =>
 if (decide (v4<(v1.length:Int)))=true then
  ((aH v1 v4).bind fun (v11,v12) =>
  (fJ v11 v12).bind fun (v13,v14) =>
  (iT 16 v3 ([(v13,v14)]:List (Int×Int))).bind fun v15 =>
  some (.inl (v15,(IntKind.i64.wrap (v4+1)))))
 else
  (some (.inr v3))
noncomputable def bC(v1:(List (Nat×Nat))):Option ((List (Int×Int))):=
 (run (dB v1) (([]:List (Int×Int)),0)).bind fun v16 =>
 some (v16)
noncomputable def gP(v1:(List (Int×Int))):((List Int)×(List Int)×Int)→Option (((List Int)×(List Int)×Int) ⊕ (((List Int)×(List Int)))):=fun (v4,v5,v6) =>
 if (decide (v6<(v1.length:Int)))=true then
  ((aH v1 v6).bind fun (v13,v14) =>
  (iT 8 v4 ([v13]:List Int)).bind fun v15 =>
  (iT 8 v5 ([v14]:List Int)).bind fun v16 =>
  some (.inl (v15,v16,(IntKind.i64.wrap (v6+1)))))
 else
  (some (.inr (v4,v5)))
noncomputable def mP(v1:(List (Int×Int))):Option ((List Int)×(List Int)):=
 (run (gP v1) (([]:List Int),([]:List Int),0)).bind fun (v17,v18) =>
 some (v17,v18)
noncomputable def dC(v1:Int)(v2:Int)(v3:Int):(Int×Int×Int)→Option ((Int×Int×Int) ⊕ ((Int))):=fun (v7,v8,v9) =>
 if (decide (v8>0))=true then
  (if (decide ((v8.tmod 2)=1))=true then
   ((aU v1 v2 v3 v9 v7).bind fun v14 =>
   (aU v1 v2 v3 v7 v7).bind fun v15 =>
   some (.inl (v15,(IntKind.i64.wrap (v8.tdiv 2)),v14)))
  else
   ((aU v1 v2 v3 v7 v7).bind fun v16 =>
   some (.inl (v16,(IntKind.i64.wrap (v8.tdiv 2)),v9))))
 else
  (some (.inr v9))
noncomputable def iJ(v1:Int)(v2:Int)(v3:Int)(v4:Int)(v5:Int):Option (Int):=
 (run (dC v1 v2 v3) (v4,v5,1)).bind fun v17 =>
 some (v17)
noncomputable def dL(v1:Int)(v2:Int)(v3:Int)(v4:Int):Option (Int):=
 (iJ v1 v2 v3 v4 (IntKind.i64.wrap (v1-2))).bind fun v6 =>
 some (v6)
noncomputable def bT(v1:Int)(v2:Int)(v3:Int)(v4:(List Int))(v5:(List Int)):((List Int)×Int)→Option (((List Int)×Int) ⊕ (((List Int)))):=fun (v7,v8) =>
 if (decide (v8<(v4.length:Int)))=true then
  ((aH v4 v8).bind fun v15 =>
  (aH v5 v8).bind fun v16 =>
  (dL v1 v2 v3 v16).bind fun v17 =>
  (aU v1 v2 v3 v15 v17).bind fun v18 =>
  (iT 8 v7 ([v18]:List Int)).bind fun v19 =>
  some (.inl (v19,(IntKind.i64.wrap (v8+1)))))
 else
  (some (.inr v7))
noncomputable def fE(v1:Int)(v2:Int)(v3:Int)(v4:(List Int))(v5:(List Int)):Option ((List Int)):=
 (run (bT v1 v2 v3 v4 v5) (([]:List Int),0)).bind fun v20 =>
 some (v20)
noncomputable def eQ(v1:Int)(v2:Int)(v3:Int)(v7:Int)(v8:(List Int)):((List Int)×Int)→Option (((List Int)×Int) ⊕ (((List Int)))):=fun (v9,v10) =>
 if (decide (v10<(v8.length:Int)))=true then
  ((aH v9 v10).bind fun v14 =>
  (aU v1 v2 v3 v14 v7).bind fun v15 =>
  some (.inl ((v9.set v10.toNat v15),(IntKind.i64.wrap (v10+1)))))
 else
  (some (.inr v9))
noncomputable def gC(v1:Int)(v2:Int)(v3:Int)(v4:(List Int)):Option ((List Int)):=
 (dL v1 v2 v3 v2).bind fun v6 =>
 (dL v1 v2 v3 v3).bind fun v7 =>
 (bB v1 v6 v3 v4).bind fun v8 =>
 (run (eQ v1 v2 v3 v7 v8) (v8,0)).bind fun v16 =>
 some (v16)
noncomputable def gL(v1:Int)(v2:Int)(v3:Int)(v4:Int):Option (Int):=
 if (decide (v4>(IntKind.i64.wrap (v1.tdiv 2))))=true then
  (some ((IntKind.i64.wrap (v4-v1))))
 else
  (some (v4))
noncomputable def cZ(v1:Int)(v2:Int)(v3:Int)(v9:(List Int)):((List Int)×Int)→Option (((List Int)×Int) ⊕ (((List Int)))):=fun (v10,v11) =>
 if (decide (v11<(v9.length:Int)))=true then
  ((aH v10 v11).bind fun v15 =>
  (gL v1 v2 v3 v15).bind fun v16 =>
  some (.inl ((v10.set v11.toNat v16),(IntKind.i64.wrap (v11+1)))))
 else
  (some (.inr v10))
noncomputable def bY(v1:Int)(v2:Int)(v3:Int)(v4:(List Int))(v5:(List Int)):Option ((List Int)):=
 (bB v1 v2 v3 v4).bind fun v7 =>
 (fE v1 v2 v3 v7 v5).bind fun v8 =>
 (gC v1 v2 v3 v8).bind fun v9 =>
 (run (cZ v1 v2 v3 v9) (v9,0)).bind fun v17 =>
 some (v17)
noncomputable def lU(v1:Int)(v2:(List (Int×Int))):Option (Int×(List (Int×Int))):=
 some (v1,v2)
noncomputable def fN(v1:Int)(v2:Int):Option (Bool):=
 if (decide ((IntKind.i64.wrap (0-v2))≤v1))=true then
  (some ((decide (v1≤v2))))
 else
  (some (false))
noncomputable def eX(v1:Int)(v2:Int)(v3:Int):Option (Bool×Int):=
 (fN v1 v3).bind fun v6 =>
 if v6=true then
  ((fN v2 v3).bind fun v7 =>
  (aD (!v7) 8).bind fun (v8,v9) =>
  some (v8,v9))
 else
  ((aD true 8).bind fun (v10,v11) =>
  some (v10,v11))
noncomputable def fZ(v1:Int)(v2:(List (Int×Int))):Option (Int):=
 (aH v2 v1).bind fun (v4,v5) =>
 (eX v4 v5 16777216).bind fun (v6,v7) =>
 (aA v6 v7).bind fun v8 =>
 some (v8)
noncomputable def cU(v1:Int)(v2:(List (Int×Int))):(Int)→Option ((Int) ⊕ ((Int) ⊕ (Unit))):=fun v4 =>
 if (decide (v4<v1))=true then
  ((fZ v4 v2).bind fun v7 =>
  if (decide (v7≠0))=true then
   (some (.inr (.inl v7)))
  else
   (some (.inl (IntKind.i64.wrap (v4+1)))))
 else
  (some (.inr (.inr ())))
noncomputable def jG(v1:Int)(v2:(List (Int×Int))):Option (Int):=
 (run (cU v1 v2) 0).bind fun v8=>match v8 with
 | (.inl v9) =>
  some (v9)
 | (.inr _) =>
  some (0)
noncomputable def eL(v1:(List (Int×Int))):((List (Nat×Nat))×Int)→Option (((List (Nat×Nat))×Int) ⊕ (((List (Nat×Nat))))):=fun (v7,v8) =>
 if (decide (v8<(v1.length:Int)))=true then
  ((aH v1 v8).bind fun (v13,v14) =>
  (iT 8 v7 ([((FloatKind.f32.nearest v13),(FloatKind.f32.nearest v14))]:List (Nat×Nat))).bind fun v15 =>
  some (.inl (v15,(IntKind.i64.wrap (v8+1)))))
 else
  (some (.inr v7))
noncomputable def bR(v1:(List (Int×Int))):Option ((List (Nat×Nat))×Int):=
 (lU (v1.length:Int) v1).bind fun (v4,v5) =>
 (jG v4 v5).bind fun v6 =>
 if (decide (v6≠0))=true then
  (some (([]:List (Nat×Nat)),v6))
 else
  ((run (eL v1) (([]:List (Nat×Nat)),0)).bind fun v16 =>
  some (v16,0))
noncomputable def cR(v20:(List Int))(v21:(List Int)):((List (Int×Int))×Int)→Option (((List (Int×Int))×Int) ⊕ (((List (Int×Int))))):=fun (v22,v23) =>
 if (decide (v23<(v20.length:Int)))=true then
  ((aH v20 v23).bind fun v28 =>
  (aH v21 v23).bind fun v29 =>
  (iT 16 v22 ([(v28,v29)]:List (Int×Int))).bind fun v30 =>
  some (.inl (v30,(IntKind.i64.wrap (v23+1)))))
 else
  (some (.inr v22))
noncomputable def cJ(v1:(List (Nat×Nat)))(v2:Int)(v3:(List Int))(v4:Int)(v5:Int)(v6:Int)(v7:Int):Option ((List (Nat×Nat))×Int):=
 (cC v1).bind fun v10 =>
 (bE v2 v3 v4).bind fun (v11,v12,v13) =>
 (dP v10 v2 v3 v11 v12 v13 v5 v6 v7 v2 v3 v1 v2 v3 v5 v6 v7).bind fun v14 =>
 if (decide (v14≠0))=true then
  (some (([]:List (Nat×Nat)),v14))
 else
  ((cT v2 v3 v4).bind fun v15 =>
  (bB v5 v6 v7 v15).bind fun v16 =>
  (bC v1).bind fun v17 =>
  (mP v17).bind fun (v18,v19) =>
  (bY v5 v6 v7 v18 v16).bind fun v20 =>
  (bY v5 v6 v7 v19 v16).bind fun v21 =>
  (run (cR v20 v21) (([]:List (Int×Int)),0)).bind fun v31 =>
  (bR v31).bind fun (v32,v33) =>
  some (v32,v33))
noncomputable def eP(v1:Nat):Option (Bool):=
 if (fcmp .neq .f64 v1 v1)=true then
  (some (false))
 else
  ((farith .sub .f64 v1 v1).bind fun v3 =>
  if (fcmp .neq .f64 v3 0)=true then
   (some (false))
  else
   (if (fcmp .geq .f64 v1 14069741636278059008)=true then
    (if (fcmp .leq .f64 v1 4846369599423283200)=true then
     ((f2i .f64 v1 .i64).bind fun v4 =>
     some ((fcmp .eql .f64 (FloatKind.f64.nearest v4) v1)))
    else
     (some (true)))
   else
    (some (true))))
noncomputable def eV(v1:(List (Nat×Nat))):(Int)→Option ((Int) ⊕ ((Int) ⊕ (Unit))):=fun v3 =>
 if (decide (v3<(v1.length:Int)))=true then
  ((aH v1 v3).bind fun (v11,v12) =>
  (f2f .f32 v11 .f64).bind fun v13 =>
  (f2f .f32 v12 .f64).bind fun v14 =>
  (eP v13).bind fun v15 =>
  if v15=true then
   ((eP v14).bind fun v16 =>
   if v16=true then
    (if (fcmp .gtr .f64 v13 4715268809856909312)=true then
     (some (.inr (.inl 2)))
    else
     (if (fcmp .lss .f64 v13 13938640846711685120)=true then
      (some (.inr (.inl 2)))
     else
      (if (fcmp .gtr .f64 v14 4715268809856909312)=true then
       (some (.inr (.inl 2)))
      else
       (if (fcmp .lss .f64 v14 13938640846711685120)=true then
        (some (.inr (.inl 2)))
       else
        (some (.inl (IntKind.i64.wrap (v3+1))))))))
   else
    (some (.inr (.inl 27))))
  else
   (some (.inr (.inl 27))))
 else
  (some (.inr (.inr ())))
noncomputable def dF(v1:(List (Nat×Nat))):Option (Int):=
 if (decide ((v1.length:Int)=0))=true then
  (some (10))
 else
  (if (decide ((v1.length:Int)>1024))=true then
   (some (8))
  else
   ((run (eV v1) 0).bind fun v17=>match v17 with
   | (.inl v18) =>
    some (v18)
   | (.inr _) =>
    some (0)))
noncomputable def bN(v1:Int)(v2:Int)(v3:Int):Option (Bool):=
 if (decide (v2≤v1))=true then
  (some ((decide (v1≤v3))))
 else
  (some (false))
noncomputable def dH(v1:Int)(v2:(List Int)):(Int)→Option ((Int) ⊕ ((Int) ⊕ (Unit))):=fun v5 =>
 if (decide (v5<(v2.length:Int)))=true then
  ((aH v2 v5).bind fun v10 =>
  (bN v10 1 v1).bind fun v11 =>
  if v11=true then
   (if (decide (v5>0))=true then
    ((aH v2 (IntKind.i64.wrap (v5-1))).bind fun v12 =>
    if (decide (v10≤v12))=true then
     (some (.inr (.inl 9)))
    else
     (some (.inl (IntKind.i64.wrap (v5+1)))))
   else
    (some (.inl (IntKind.i64.wrap (v5+1)))))
  else
   (some (.inr (.inl 2))))
 else
  (some (.inr (.inr ())))
noncomputable def fT(v1:Int)(v2:(List Int)):Option (Int):=
 (bN v1 2 8).bind fun v4 =>
 if v4=true then
  (if (decide ((v2.length:Int)=0))=true then
   (some (10))
  else
   ((run (dH v1 v2) 0).bind fun v13=>match v13 with
   | (.inl v14) =>
    some (v14)
   | (.inr _) =>
    (aH v2 (IntKind.i64.wrap ((v2.length:Int)-1))).bind fun v15 =>
    if (decide (v15≠v1))=true then
     (some (6))
    else
     (some (0))))
 else
  (some (2))
noncomputable def kA(v1:Int):(Int×Int)→Option ((Int×Int) ⊕ ((Int))):=fun (v4,v5) =>
 if (decide (v5<v1))=true then
  (some (.inl ((IntKind.i64.wrap (2*v4)),(IntKind.i64.wrap (v5+1)))))
 else
  (some (.inr v4))
noncomputable def iR(v1:Int)(v2:(List Int)):Option (Int):=
 (run (kA v1) (1,0)).bind fun v7 =>
 some ((IntKind.i64.wrap (v7-1)))
noncomputable def eH(v1:Int)(v2:(List Int))(v3:Int):Option (Int):=
 (fT v1 v2).bind fun v5 =>
 if (decide (v5≠0))=true then
  (some (v5))
 else
  ((iR v1 v2).bind fun v6 =>
  (bN v3 1 v6).bind fun v7 =>
  if v7=true then
   (some (0))
  else
   (some (2)))
noncomputable def lD(v1:Int):(Int)→Option ((Int) ⊕ ((Unit) ⊕ (Unit))):=fun v3 =>
 if (decide ((IntKind.i64.wrap (v3*v3))≤v1))=true then
  (if v3=0 then none else
  (if (decide ((v1.tmod v3)=0))=true then
   (some (.inr (.inl ())))
  else
   (some (.inl (IntKind.i64.wrap (v3+1))))))
 else
  (some (.inr (.inr ())))
noncomputable def lM(v1:Int):Option (Bool):=
 if (decide (v1<2))=true then
  (some (false))
 else
  ((run (lD v1) 2).bind fun v4=>match v4 with
  | (.inl _) =>
   some (false)
  | (.inr _) =>
   some (true))
noncomputable def gN(v3:Int):(Int×Int×Int)→Option ((Int×Int×Int) ⊕ ((Int))):=fun (v5,v6,v7) =>
 if (decide (v6>0))=true then
  (if (decide ((v6.tmod 2)=1))=true then
   (some (.inl (((IntKind.i64.wrap (v5*v5)).tmod v3),(IntKind.i64.wrap (v6.tdiv 2)),((IntKind.i64.wrap (v7*v5)).tmod v3))))
  else
   (some (.inl (((IntKind.i64.wrap (v5*v5)).tmod v3),(IntKind.i64.wrap (v6.tdiv 2)),v7))))
 else
  (some (.inr v7))
noncomputable def gB(v1:Int)(v2:Int)(v3:Int):Option (Int):=
 if v3=0 then none else
 ((run (gN v3) (v1,v2,((1:Int).tmod v3))).bind fun v9 =>
 some (v9))
noncomputable def iB(v5:Int):(Int)→Option ((Int) ⊕ ((Int))):=fun v12 =>
 if (decide ((v12.tmod v5)=0))=true then
  (some (.inl (IntKind.i64.wrap (v12.tdiv v5))))
 else
  (some (.inr v12))
noncomputable def lX:(Unit)→Option ((Unit) ⊕ ((Unit))):=fun _ =>
 some (.inr ())
noncomputable def eS:(Int×(List Int)×Int)→Option ((Int×(List Int)×Int) ⊕ (((List Int)))):=fun (v3,v4,v5) =>
 if (decide (v3>1))=true then
  (if v5=0 then none else
  (if (decide ((v3.tmod v5)=0))=true then
   ((iT 8 v4 ([v5]:List Int)).bind fun v11 =>
   (run (iB v5) v3).bind fun v14 =>
   some (.inl (v14,v11,(IntKind.i64.wrap (v5+1)))))
  else
   ((run (lX) ()).bind fun _ =>
   some (.inl (v3,v4,(IntKind.i64.wrap (v5+1)))))))
 else
  (some (.inr v4))
noncomputable def mV(v1:Int):Option ((List Int)):=
 (run (eS) (v1,([]:List Int),2)).bind fun v15 =>
 some (v15)
noncomputable def dV(v1:Int)(v2:Int)(v3:Int)(v6:(List Int)):(Int)→Option ((Int) ⊕ ((Unit) ⊕ (Unit))):=fun v7 =>
 if (decide (v7<(v6.length:Int)))=true then
  ((aH v6 v7).bind fun v10 =>
  if v10=0 then none else
  ((gB v1 (IntKind.i64.wrap (v2.tdiv v10)) v3).bind fun v11 =>
  if (decide (v11=((1:Int).tmod v3)))=true then
   (some (.inr (.inl ())))
  else
   (some (.inl (IntKind.i64.wrap (v7+1))))))
 else
  (some (.inr (.inr ())))
noncomputable def nF(v1:Int)(v2:Int)(v3:Int):Option (Bool):=
 (gB v1 v2 v3).bind fun v5 =>
 if v3=0 then none else
 (if (decide (v5≠((1:Int).tmod v3)))=true then
  (some (false))
 else
  ((mV v2).bind fun v6 =>
  (run (dV v1 v2 v3 v6) 0).bind fun v12=>match v12 with
  | (.inl _) =>
   some (false)
  | (.inr _) =>
   some (true)))
noncomputable def dG(v1:Int)(v2:Int)(v3:Int):Option (Int):=
 (bN v1 2 2147483647).bind fun v5 =>
 if v5=true then
  ((bN v3 1 1024).bind fun v6 =>
  if v6=true then
   ((bN v2 1 (IntKind.i64.wrap (v1-1))).bind fun v7 =>
   if v7=true then
    ((lM v1).bind fun v8 =>
    if v8=true then
     (if v3=0 then none else
     (if (decide (((IntKind.i64.wrap (v1-1)).tmod v3)≠0))=true then
      (some (13))
     else
      ((nF v2 v3 v1).bind fun v9 =>
      if v9=true then
       (some (0))
      else
       (some (20)))))
    else
     (some (15)))
   else
    (some (2)))
  else
   (some (2)))
 else
  (some (2))
noncomputable def kD(v2:(List Int))(v7:(List Int))(v8:Int):(Int×Int)→Option ((Int×Int) ⊕ ((Int))):=fun (v21,v22) =>
 if (decide (v22<(v2.length:Int)))=true then
  ((aH v2 v22).bind fun v26 =>
  (aH v7 (IntKind.i64.wrap (v8-v26))).bind fun v27 =>
  some (.inl ((IntKind.i64.wrap (v21+v27)),(IntKind.i64.wrap (v22+1)))))
 else
  (some (.inr v21))
noncomputable def jZ(v1:Int)(v2:(List Int))(v4:Int):(Int×(List Int)×Int)→Option ((Int×(List Int)×Int) ⊕ (((List Int)))):=fun (v6,v7,v8) =>
 if (decide (v8<v4))=true then
  (if (decide (v8<v1))=true then
   ((iT 8 v7 ([(v6.tmod 2)]:List Int)).bind fun v20 =>
   some (.inl ((IntKind.i64.wrap (v6.tdiv 2)),v20,(IntKind.i64.wrap (v8+1)))))
  else
   ((run (kD v2 v7 v8) (0,0)).bind fun v28 =>
   (iT 8 v7 ([(v28.tmod 2)]:List Int)).bind fun v29 =>
   some (.inl (v6,v29,(IntKind.i64.wrap (v8+1))))))
 else
  (some (.inr v7))
noncomputable def nL(v1:Int)(v2:(List Int))(v3:Int)(v4:Int):Option ((List Int)):=
 (run (jZ v1 v2 v4) (v3,([]:List Int),0)).bind fun v30 =>
 some (v30)
noncomputable def jW(v5:(List Int)):(Int×Int)→Option ((Int×Int) ⊕ ((Int))):=fun (v6,v7) =>
 if (decide (v7≥1))=true then
  ((aH v5 v7).bind fun v10 =>
  some (.inl ((IntKind.i64.wrap ((IntKind.i64.wrap (2*v6))+v10)),(IntKind.i64.wrap (v7-1)))))
 else
  (some (.inr v6))
noncomputable def nU(v1:Int)(v2:(List Int))(v3:Int):Option (Int):=
 (nL v1 v2 v3 (IntKind.i64.wrap (v1+1))).bind fun v5 =>
 (run (jW v5) (0,v1)).bind fun v11 =>
 some (v11)
noncomputable def hU(v1:Int)(v2:(List Int))(v3:Int):(Int×Int)→Option ((Int×Int) ⊕ ((Int))):=fun (v6,v7) =>
 if (decide (v7≠v3))=true then
  ((nU v1 v2 v7).bind fun v10 =>
  some (.inl ((IntKind.i64.wrap (v6+1)),v10)))
 else
  (some (.inr v6))
noncomputable def nC(v1:Int)(v2:(List Int))(v3:Int):Option (Int):=
 (nU v1 v2 v3).bind fun v5 =>
 (run (hU v1 v2 v3) (1,v5)).bind fun v11 =>
 some (v11)
noncomputable def hZ(v1:Int)(v2:(List Int)):Option (Bool):=
 (nC v1 v2 1).bind fun v4 =>
 (iR v1 v2).bind fun v5 =>
 some ((decide (v4=v5)))
noncomputable def kU:((List Int)×Int)→Option (((List Int)×Int) ⊕ (((List Int)))):=fun (v7,v8) =>
 if (decide (v8<(v7.length:Int)))=true then
  ((aH v7 v8).bind fun v11 =>
  some (.inl ((v7.set v8.toNat (IntKind.i64.wrap (1-(IntKind.i64.wrap (2*v11))))),(IntKind.i64.wrap (v8+1)))))
 else
  (some (.inr v7))
noncomputable def jF(v1:Int)(v2:(List Int))(v3:Int):Option ((List Int)):=
 (iR v1 v2).bind fun v5 =>
 (nL v1 v2 v3 v5).bind fun v6 =>
 (run (kU) (v6,0)).bind fun v12 =>
 some (v12)
noncomputable def jC(v1:Int)(v2:Int):Option (Int):=
 if v2=0 then none else
 (if (decide ((v1.tmod v2)<0))=true then
  (some ((IntKind.i64.wrap ((v1.tmod v2)+v2))))
 else
  (some ((v1.tmod v2))))
noncomputable def iN(v1:(List Int))(v3:Int)(v19:Int):(Int×Int×Int)→Option ((Int×Int×Int) ⊕ ((Int))):=fun (v20,v21,v22) =>
 if (decide (v22<(v1.length:Int)))=true then
  ((aH v1 v22).bind fun v26 =>
  (jC v26 v3).bind fun v27 =>
  some (.inl (((IntKind.i64.wrap (v20+(IntKind.i64.wrap (v27*v21)))).tmod v3),((IntKind.i64.wrap (v21*v19)).tmod v3),(IntKind.i64.wrap (v22+1)))))
 else
  (some (.inr v20))
noncomputable def jX(v1:(List Int))(v2:Int)(v3:Int):((List Int)×Int)→Option (((List Int)×Int) ⊕ (((List Int)))):=fun (v5,v6) =>
 if (decide (v6<(v1.length:Int)))=true then
  (if v3=0 then none else
  ((gB v2 v6 v3).bind fun v19 =>
  (run (iN v1 v3 v19) (0,((1:Int).tmod v3),0)).bind fun v28 =>
  (iT 8 v5 ([v28]:List Int)).bind fun v29 =>
  some (.inl (v29,(IntKind.i64.wrap (v6+1))))))
 else
  (some (.inr v5))
noncomputable def nT(v1:(List Int))(v2:Int)(v3:Int):Option ((List Int)):=
 (run (jX v1 v2 v3) (([]:List Int),0)).bind fun v30 =>
 some (v30)
noncomputable def bG(v1:(List Int))(v2:Int)(v3:Int)(v4:Int):Option ((List Int)):=
 (nT v1 v3 v2).bind fun v6 =>
 some (v6)
noncomputable def kN(v1:(List (Nat×Nat))):((List (Int×Int))×Int)→Option (((List (Int×Int))×Int) ⊕ (((List (Int×Int))))):=fun (v3,v4) =>
 if (decide (v4<(v1.length:Int)))=true then
  ((aH v1 v4).bind fun (v11,v12) =>
  (f2i .f32 v11 .i64).bind fun v13 =>
  (f2i .f32 v12 .i64).bind fun v14 =>
  (iT 16 v3 ([(v13,v14)]:List (Int×Int))).bind fun v15 =>
  some (.inl (v15,(IntKind.i64.wrap (v4+1)))))
 else
  (some (.inr v3))
noncomputable def bZ(v1:(List (Nat×Nat))):Option ((List (Int×Int))):=
 (run (kN v1) (([]:List (Int×Int)),0)).bind fun v16 =>
 some (v16)
noncomputable def jY(v1:(List (Int×Int)))(v2:Int):((List Int)×Int)→Option (((List Int)×Int) ⊕ (((List Int)))):=fun (v4,v5) =>
 if (decide (v5<(v1.length:Int)))=true then
  ((aH v1 v5).bind fun (v11,v12) =>
  (aH ([v11,v12]:List Int) v2).bind fun v13 =>
  (iT 8 v4 ([v13]:List Int)).bind fun v14 =>
  some (.inl (v14,(IntKind.i64.wrap (v5+1)))))
 else
  (some (.inr v4))
noncomputable def fR(v1:(List (Int×Int)))(v2:Int):Option ((List Int)):=
 (run (jY v1 v2) (([]:List Int),0)).bind fun v15 =>
 some (v15)
noncomputable def gA(v1:Int)(v2:Int):Option (Int):=
 if v2=0 then none else
 ((gB (v1.tmod v2) (IntKind.i64.wrap (v2-2)) v2).bind fun v4 =>
 some ((v4.tmod v2)))
noncomputable def kE(v2:Int)(v4:Int):((List Int)×Int)→Option (((List Int)×Int) ⊕ (((List Int)))):=fun (v8,v9) =>
 if (decide (v9<(v8.length:Int)))=true then
  ((aH v8 v9).bind fun v13 =>
  (gA v4 v2).bind fun v14 =>
  if v2=0 then none else
  (some (.inl ((v8.set v9.toNat ((IntKind.i64.wrap (v13*v14)).tmod v2)),(IntKind.i64.wrap (v9+1))))))
 else
  (some (.inr v8))
noncomputable def iP(v1:(List Int))(v2:Int)(v3:Int)(v4:Int):Option ((List Int)):=
 (gA v3 v2).bind fun v6 =>
 (nT v1 v6 v2).bind fun v7 =>
 (run (kE v2 v4) (v7,0)).bind fun v15 =>
 some (v15)
noncomputable def nQ(v1:Int):Option (Int):=
 some ((if (IntKind.i64.wrap (0-v1))>v1 then (IntKind.i64.wrap (0-v1)) else v1))
noncomputable def cM(v1:(List (Int×Int))):((List (Nat×Nat))×Int)→Option (((List (Nat×Nat))×Int) ⊕ ((Unit) ⊕ ((List (Nat×Nat))))):=fun (v4,v5) =>
 if (decide (v5<(v1.length:Int)))=true then
  ((aH v1 v5).bind fun (v12,v13) =>
  (nQ v12).bind fun v14 =>
  if (decide (v14>16777216))=true then
   (some (.inr (.inl ())))
  else
   ((nQ v13).bind fun v15 =>
   if (decide (v15>16777216))=true then
    (some (.inr (.inl ())))
   else
    ((iT 8 v4 ([((FloatKind.f32.nearest v12),(FloatKind.f32.nearest v13))]:List (Nat×Nat))).bind fun v16 =>
    some (.inl (v16,(IntKind.i64.wrap (v5+1)))))))
 else
  (some (.inr (.inr v4)))
noncomputable def nV(v1:(List (Int×Int))):Option ((List (Nat×Nat))×Bool):=
 (run (cM v1) (([]:List (Nat×Nat)),0)).bind fun v17=>match v17 with
 | (.inl _) =>
  some (([]:List (Nat×Nat)),false)
 | (.inr v18) =>
  some (v18,true)
noncomputable def eY(v1:(List (Int×Int))):Option ((List (Nat×Nat))×Int):=
 (nV v1).bind fun (v4,v5) =>
 if v5=true then
  (some (v4,0))
 else
  (some (([]:List (Nat×Nat)),8))
noncomputable def cN(v5:Int)(v14:Int)(v16:(List Int)):((List Int)×Int)→Option (((List Int)×Int) ⊕ (((List Int)))):=fun (v21,v22) =>
 if (decide (v22<v14))=true then
  ((aH v21 v22).bind fun v27 =>
  (aH v16 v22).bind fun v28 =>
  (gA v28 v5).bind fun v29 =>
  if v5=0 then none else
  (some (.inl ((v21.set v22.toNat ((IntKind.i64.wrap (v27*v29)).tmod v5)),(IntKind.i64.wrap (v22+1))))))
 else
  (some (.inr v21))
noncomputable def cS(v5:Int)(v14:Int):((List (Int×Int))×(List Int)×Int)→Option (((List (Int×Int))×(List Int)×Int) ⊕ (((List (Int×Int))))):=fun (v32,v33,v34) =>
 if (decide (v34<v14))=true then
  ((aH v33 v34).bind fun v42 =>
  if (decide ((IntKind.i64.wrap (2*v42))>v5))=true then
   ((aH (v33.set v34.toNat (IntKind.i64.wrap (v42-v5))) v34).bind fun v43 =>
   (aH v32 v34).bind fun (v44,v45) =>
   some (.inl ((v32.set v34.toNat (v43,v45)),(v33.set v34.toNat (IntKind.i64.wrap (v42-v5))),(IntKind.i64.wrap (v34+1)))))
  else
   ((aH v32 v34).bind fun (v46,v47) =>
   some (.inl ((v32.set v34.toNat (v42,v47)),v33,(IntKind.i64.wrap (v34+1))))))
 else
  (some (.inr v32))
noncomputable def cP(v5:Int)(v14:Int)(v16:(List Int)):((List Int)×Int)→Option (((List Int)×Int) ⊕ (((List Int)))):=fun (v52,v53) =>
 if (decide (v53<v14))=true then
  ((aH v52 v53).bind fun v58 =>
  (aH v16 v53).bind fun v59 =>
  (gA v59 v5).bind fun v60 =>
  if v5=0 then none else
  (some (.inl ((v52.set v53.toNat ((IntKind.i64.wrap (v58*v60)).tmod v5)),(IntKind.i64.wrap (v53+1))))))
 else
  (some (.inr v52))
noncomputable def cQ(v5:Int)(v14:Int):((List (Int×Int))×(List Int)×Int)→Option (((List (Int×Int))×(List Int)×Int) ⊕ (((List (Int×Int))))):=fun (v63,v64,v65) =>
 if (decide (v65<v14))=true then
  ((aH v64 v65).bind fun v73 =>
  if (decide ((IntKind.i64.wrap (2*v73))>v5))=true then
   ((aH (v64.set v65.toNat (IntKind.i64.wrap (v73-v5))) v65).bind fun v74 =>
   (aH v63 v65).bind fun (v75,v76) =>
   some (.inl ((v63.set v65.toNat (v75,v74)),(v64.set v65.toNat (IntKind.i64.wrap (v73-v5))),(IntKind.i64.wrap (v65+1)))))
  else
   ((aH v63 v65).bind fun (v77,v78) =>
   some (.inl ((v63.set v65.toNat (v77,v73)),v64,(IntKind.i64.wrap (v65+1))))))
 else
  (some (.inr v63))
noncomputable def fW:(Unit)→Option ((Unit) ⊕ ((Unit))):=fun _ =>
 some (.inr ())
noncomputable def cL(v1:(List (Nat×Nat)))(v2:Int)(v3:(List Int))(v4:Int)(v5:Int)(v6:Int)(v7:Int):Option ((List (Nat×Nat))×Int):=
 (dF v1).bind fun v10 =>
 if (decide (v10≠0))=true then
  (some (([]:List (Nat×Nat)),v10))
 else
  ((eH v2 v3 v4).bind fun v11 =>
  if (decide (v11≠0))=true then
   (some (([]:List (Nat×Nat)),v11))
  else
   ((dG v5 v6 v7).bind fun v12 =>
   if (decide (v12≠0))=true then
    (some (([]:List (Nat×Nat)),v12))
   else
    ((hZ v2 v3).bind fun v13 =>
    if v13=true then
     ((iR v2 v3).bind fun v14 =>
     if (decide ((v1.length:Int)≠v14))=true then
      (some (([]:List (Nat×Nat)),13))
     else
      (if (decide (v7≠v14))=true then
       (some (([]:List (Nat×Nat)),13))
      else
       ((jF v2 v3 v4).bind fun v15 =>
       (bG v15 v5 v6 v7).bind fun v16 =>
       (mkI 16 v14 ((0,0):(Int×Int))).bind fun v17 =>
       (bZ v1).bind fun v18 =>
       (fR v18 0).bind fun v19 =>
       (bG v19 v5 v6 v7).bind fun v20 =>
       (run (cN v5 v14 v16) (v20,0)).bind fun v30 =>
       (iP v30 v5 v6 v7).bind fun v31 =>
       (run (cS v5 v14) (v17,v31,0)).bind fun v48 =>
       (bZ v1).bind fun v49 =>
       (fR v49 1).bind fun v50 =>
       (bG v50 v5 v6 v7).bind fun v51 =>
       (run (cP v5 v14 v16) (v51,0)).bind fun v61 =>
       (iP v61 v5 v6 v7).bind fun v62 =>
       (run (cQ v5 v14) (v48,v62,0)).bind fun v79 =>
       (run (fW) ()).bind fun _ =>
       (eY v79).bind fun (v80,v81) =>
       some (v80,v81))))
    else
     (some (([]:List (Nat×Nat)),22)))))
noncomputable def nZ(v1:Nat)(v2:Nat)(v3:Nat)(v4:Nat):Option (Bool):=
 (fbits .f64 v1).bind fun v6 =>
 (fbits .f64 v3).bind fun v7 =>
 if (decide (v6=v7))=true then
  ((fbits .f64 v2).bind fun v8 =>
  (fbits .f64 v4).bind fun v9 =>
  some ((decide (v8=v9))))
 else
  (some (false))
noncomputable def eR(v1:(List (Nat×Nat)))(v2:(List (Nat×Nat))):(Int)→Option ((Int) ⊕ ((Unit) ⊕ (Unit))):=fun v4 =>
 if (decide (v4<(v1.length:Int)))=true then
  ((aH v1 v4).bind fun (v14,v15) =>
  (f2f .f32 v14 .f64).bind fun v16 =>
  (f2f .f32 v15 .f64).bind fun v17 =>
  (aH v2 v4).bind fun (v18,v19) =>
  (f2f .f32 v18 .f64).bind fun v20 =>
  (f2f .f32 v19 .f64).bind fun v21 =>
  (nZ v16 v17 v20 v21).bind fun v22 =>
  if v22=true then
   (some (.inl (IntKind.i64.wrap (v4+1))))
  else
   (some (.inr (.inl ()))))
 else
  (some (.inr (.inr ())))
noncomputable def aN(v1:(List (Nat×Nat)))(v2:(List (Nat×Nat))):Option (Bool):=
 if (decide ((v1.length:Int)≠(v2.length:Int)))=true then
  (some (false))
 else
  ((run (eR v1 v2) 0).bind fun v23=>match v23 with
  | (.inl _) =>
   some (false)
  | (.inr _) =>
   some (true))
noncomputable def iZ(v1:(List (Nat×Nat)))(v2:Int)(v3:(List Int))(v4:Int)(v5:Int)(v6:Int)(v7:Int):Option Bool:=
 (gF v1).bind fun v9 =>
 if v9=true then
  (if (decide ((v3.length:Int)>12))=true then
   (some (true))
  else
   ((aR v1).bind fun v10 =>
   (qN v2 v3 v4).bind fun (v11,v12,v13) =>
   (cJ v10 v11 v12 v13 v5 v6 v7).bind fun (v14,v15) =>
   (aR v1).bind fun v16 =>
   (cL v16 v2 v3 v4 v5 v6 v7).bind fun (v17,v18) =>
   if (decide (v15=v18))=true then
    ((aN v14 v17).bind fun v19 =>
    some (v19))
   else
    (some (false))))
 else
  (some (true))
noncomputable def dE(v1:Nat):Option (Bool):=
 (f2f .f32 v1 .f64).bind fun v3 =>
 (mD v3).bind fun v4 =>
 if (fcmp .eql .f64 v3 v4)=true then
  ((nR v3 0).bind fun v5 =>
  some ((!v5)))
 else
  (some (false))
noncomputable def iU(v1:Bool)(v2:Int):Option (Int):=
 if v1=true then
  (some (v2))
 else
  (some (0))
noncomputable def vR(v1:(List Int)):(Int)→Option ((Int) ⊕ ((Int) ⊕ (Unit))):=fun v3 =>
 if (decide (v3<(v1.length:Int)))=true then
  ((aH v1 v3).bind fun v6 =>
  if (decide (v6≠0))=true then
   (some (.inr (.inl v6)))
  else
   (some (.inl (IntKind.i64.wrap (v3+1)))))
 else
  (some (.inr (.inr ())))
noncomputable def kG(v1:(List Int)):Option (Int):=
 (run (vR v1) 0).bind fun v7=>match v7 with
 | (.inl v8) =>
  some (v8)
 | (.inr _) =>
  some (0)
noncomputable def yD(v1:Nat):Option (Int):=
 (dE v1).bind fun v3 =>
 (iU (!v3) 27).bind fun v4 =>
 if (fcmp .lss .f32 v1 3338665472)=true then
  ((iU true 2).bind fun v5 =>
  (kG ([v4,v5]:List Int)).bind fun v6 =>
  some (v6))
 else
  ((iU (fcmp .gtr .f32 v1 1191181824) 2).bind fun v7 =>
  (kG ([v4,v7]:List Int)).bind fun v8 =>
  some (v8))
noncomputable def qX(v1:Int)(v2:Int)(v3:Int):Option (Int):=
 if (decide (v1<v2))=true then
  ((iU true 2).bind fun v5 =>
  some (v5))
 else
  ((iU (decide (v1>v3)) 2).bind fun v6 =>
  some (v6))
noncomputable def Bs(v1:Int):Option (Int):=
 (qX v1 8000 192000).bind fun v3 =>
 some (v3)
noncomputable def sE(v2:(List Nat)):(Int)→Option ((Int) ⊕ ((Int×Int) ⊕ (Unit))):=fun v9 =>
 if (decide (v9<(v2.length:Int)))=true then
  ((aH v2 v9).bind fun v14 =>
  (yD v14).bind fun v15 =>
  if (decide (v15≠0))=true then
   (some (.inr (.inl (v9,v15))))
  else
   (some (.inl (IntKind.i64.wrap (v9+1)))))
 else
  (some (.inr (.inr ())))
noncomputable def uY(v1:Int)(v2:(List Nat)):Option (Int×Int):=
 (Bs v1).bind fun v5 =>
 (iU (decide ((v2.length:Int)=0)) 10).bind fun v6 =>
 (iU (decide ((v2.length:Int)>1024)) 8).bind fun v7 =>
 (kG ([v5,v6,v7]:List Int)).bind fun v8 =>
 if (decide (v8≠0))=true then
  (some (0,v8))
 else
  ((run (sE v2) 0).bind fun v16=>match v16 with
  | (.inl (v17,v18)) =>
   some (v17,v18)
  | (.inr _) =>
   some (0,0))
noncomputable def Xf(v1:Int)(v2:(List Nat))(v3:Int)(v4:Int):Option (Int×Int):=
 (uY v1 v2).bind fun (v7,v8) =>
 if (decide (v8≠0))=true then
  (some (v7,v8))
 else
  ((qX v3 0 32767).bind fun v9 =>
  (qX v4 0 1000000000000).bind fun v10 =>
  (kG ([v9,v10]:List Int)).bind fun v11 =>
  some (0,v11))
noncomputable def Mt(v1:Int):Option (Bool):=
 (bN v1 8000 192000).bind fun v3 =>
 some (v3)
noncomputable def sZ(v2:(List Nat)):(Int)→Option ((Int) ⊕ ((Int×Int) ⊕ (Unit))):=fun v6 =>
 if (decide (v6<(v2.length:Int)))=true then
  ((aH v2 v6).bind fun v12 =>
  (f2f .f32 v12 .f64).bind fun v13 =>
  (eP v13).bind fun v14 =>
  if v14=true then
   (if (fcmp .gtr .f64 v13 4674736138332667904)=true then
    (some (.inr (.inl (v6,2))))
   else
    (if (fcmp .lss .f64 v13 13898108175187443712)=true then
     (some (.inr (.inl (v6,2))))
    else
     (some (.inl (IntKind.i64.wrap (v6+1))))))
  else
   (some (.inr (.inl (v6,27)))))
 else
  (some (.inr (.inr ())))
noncomputable def xJ(v1:Int)(v2:(List Nat)):Option (Int×Int):=
 (Mt v1).bind fun v5 =>
 if v5=true then
  (if (decide ((v2.length:Int)=0))=true then
   (some (0,10))
  else
   (if (decide ((v2.length:Int)>1024))=true then
    (some (0,8))
   else
    ((run (sZ v2) 0).bind fun v15=>match v15 with
    | (.inl (v16,v17)) =>
     some (v16,v17)
    | (.inr _) =>
     some (0,0))))
 else
  (some (0,2))
noncomputable def Ys(v1:Int)(v2:(List Nat))(v3:Int)(v4:Int):Option (Int×Int):=
 (xJ v1 v2).bind fun (v7,v8) =>
 if (decide (v8≠0))=true then
  (some (v7,v8))
 else
  ((bN v3 0 32767).bind fun v9 =>
  if v9=true then
   ((bN v4 0 1000000000000).bind fun v10 =>
   if v10=true then
    (some (0,0))
   else
    (some (0,2)))
  else
   (some (0,2)))
noncomputable def xS(v1:(List (Nat×Nat)))(v2:(List (Nat×Nat))):Option (Int):=
 (dF v1).bind fun v4 =>
 if (decide (v4≠0))=true then
  (some (v4))
 else
  ((dF v2).bind fun v5 =>
  some (v5))
noncomputable def uH(v1:(List (Nat×Nat)))(v2:(List (Nat×Nat)))(v3:Bool)(v4:Int):Option (Int):=
 (aQ v1).bind fun v6 =>
 if (decide (v6≠0))=true then
  (some (v6))
 else
  ((aQ v2).bind fun v7 =>
  if (decide (v7≠0))=true then
   (some (v7))
  else
   ((aA v3 v4).bind fun v8 =>
   if (decide (v8≠0))=true then
    (some (v8))
   else
    (some (0))))
noncomputable def jJ(v1:Int)(v2:Int)(v3:Int)(v4:Int):Option (Int×Int):=
 some ((IntKind.i64.wrap ((IntKind.i64.wrap (v1*v3))-(IntKind.i64.wrap (v2*v4)))),(IntKind.i64.wrap ((IntKind.i64.wrap (v1*v4))+(IntKind.i64.wrap (v2*v3)))))
noncomputable def iD(v1:Int)(v2:Int)(v3:Int)(v4:Int):Option (Int×Int):=
 some ((IntKind.i64.wrap (v1+v3)),(IntKind.i64.wrap (v2+v4)))
noncomputable def Ga(v2:(List (Int×Int)))(v6:Int)(v30:Int)(v31:Int):((List (Int×Int))×Int)→Option (((List (Int×Int))×Int) ⊕ (((List (Int×Int))))):=fun (v32,v33) =>
 if (decide (v33<(v2.length:Int)))=true then
  ((aH v2 v33).bind fun (v43,v44) =>
  (aH v32 (IntKind.i64.wrap (v6+v33))).bind fun (v45,v46) =>
  (jJ v30 v31 v43 v44).bind fun (v47,v48) =>
  (iD v45 v46 v47 v48).bind fun (v49,v50) =>
  some (.inl ((v32.set ((IntKind.i64.wrap (v6+v33))).toNat (v49,v50)),(IntKind.i64.wrap (v33+1)))))
 else
  (some (.inr v32))
noncomputable def Gh(v1:(List (Int×Int)))(v2:(List (Int×Int))):((List (Int×Int))×Int)→Option (((List (Int×Int))×Int) ⊕ (((List (Int×Int))))):=fun (v5,v6) =>
 if (decide (v6<(v1.length:Int)))=true then
  ((aH v1 v6).bind fun (v30,v31) =>
  (run (Ga v2 v6 v30 v31) (v5,0)).bind fun v51 =>
  some (.inl (v51,(IntKind.i64.wrap (v6+1)))))
 else
  (some (.inr v5))
noncomputable def Qy(v1:(List (Int×Int)))(v2:(List (Int×Int))):Option ((List (Int×Int))):=
 (mkI 16 (IntKind.i64.wrap ((IntKind.i64.wrap ((v1.length:Int)+(v2.length:Int)))-1)) ((0,0):(Int×Int))).bind fun v4 =>
 (run (Gh v1 v2) (v4,0)).bind fun v52 =>
 some (v52)
noncomputable def Qr(v1:(List (Nat×Nat)))(v2:(List (Nat×Nat))):Option ((List (Nat×Nat))×Int):=
 (cC v1).bind fun v5 =>
 (cC v2).bind fun v6 =>
 (aD (decide ((IntKind.i64.wrap ((IntKind.i64.wrap ((v1.length:Int)+(v2.length:Int)))-1))>1024)) 8).bind fun (v7,v8) =>
 (uH v5 v6 v7 v8).bind fun v9 =>
 if (decide (v9≠0))=true then
  (some (([]:List (Nat×Nat)),v9))
 else
  ((bC v1).bind fun v10 =>
  (bC v2).bind fun v11 =>
  (Qy v10 v11).bind fun v12 =>
  (bR v12).bind fun (v13,v14) =>
  some (v13,v14))
noncomputable def vQ(v1:Int)(v2:Int)(v3:Int)(v4:Int):Option (Int×Int):=
 some ((IntKind.i64.wrap ((IntKind.i64.wrap (v1*v3))-(IntKind.i64.wrap (v2*v4)))),(IntKind.i64.wrap ((IntKind.i64.wrap (v1*v4))+(IntKind.i64.wrap (v2*v3)))))
noncomputable def Gc(v6:(List (Int×Int)))(v7:(List (Int×Int)))(v10:Int):((List (Int×Int))×Int)→Option (((List (Int×Int))×Int) ⊕ (((List (Int×Int))))):=fun (v32,v33) =>
 if (decide (v33<(v7.length:Int)))=true then
  ((aH v6 v10).bind fun (v43,v44) =>
  (aH v7 v33).bind fun (v45,v46) =>
  (vQ v43 v44 v45 v46).bind fun (v47,v48) =>
  (aH v32 (IntKind.i64.wrap (v10+v33))).bind fun (v49,v50) =>
  some (.inl ((v32.set ((IntKind.i64.wrap (v10+v33))).toNat ((IntKind.i64.wrap (v49+v47)),(IntKind.i64.wrap (v50+v48)))),(IntKind.i64.wrap (v33+1)))))
 else
  (some (.inr v32))
noncomputable def Hf(v6:(List (Int×Int)))(v7:(List (Int×Int))):((List (Int×Int))×Int)→Option (((List (Int×Int))×Int) ⊕ (((List (Int×Int))))):=fun (v9,v10) =>
 if (decide (v10<(v6.length:Int)))=true then
  ((run (Gc v6 v7 v10) (v9,0)).bind fun v51 =>
  some (.inl (v51,(IntKind.i64.wrap (v10+1)))))
 else
  (some (.inr v9))
noncomputable def Nw(v1:(List (Nat×Nat)))(v2:(List (Nat×Nat))):Option ((List (Nat×Nat))×Int):=
 (xS v1 v2).bind fun v5 =>
 if (decide (v5≠0))=true then
  (some (([]:List (Nat×Nat)),v5))
 else
  (if (decide ((IntKind.i64.wrap ((IntKind.i64.wrap ((v1.length:Int)+(v2.length:Int)))-1))>1024))=true then
   (some (([]:List (Nat×Nat)),8))
  else
   ((bZ v1).bind fun v6 =>
   (bZ v2).bind fun v7 =>
   (mkI 16 (IntKind.i64.wrap ((IntKind.i64.wrap ((v1.length:Int)+(v2.length:Int)))-1)) ((0,0):(Int×Int))).bind fun v8 =>
   (run (Hf v6 v7) (v8,0)).bind fun v52 =>
   (eY v52).bind fun (v53,v54) =>
   some (v53,v54)))
noncomputable def Jl(v1:(List (Nat×Nat))):Option ((List (Nat×Nat))):=
 some (v1)
noncomputable def mR(v1:Int)(v2:Int):Option (Int×Int):=
 some (v1,(IntKind.i64.wrap (0-v2)))
noncomputable def uS(v1:(List (Nat×Nat))):Option (Int):=
 (aH v1 0).bind fun (v3,v4) =>
 (fJ v3 v4).bind fun (v5,v6) =>
 (mR v5 v6).bind fun (v7,v8) =>
 (jJ v5 v6 v7 v8).bind fun (v9,v10) =>
 (aD (!([v9==1,v10==0].all id)) 15).bind fun (v11,v12) =>
 (aA v11 v12).bind fun v13 =>
 some (v13)
noncomputable def uV(v1:(List (Nat×Nat)))(v2:(List (Nat×Nat)))(v3:(List (Nat×Nat))):Option (Int):=
 (aQ v1).bind fun v5 =>
 if (decide (v5≠0))=true then
  (some (v5))
 else
  ((aQ v2).bind fun v6 =>
  if (decide (v6≠0))=true then
   (some (v6))
  else
   ((uS v3).bind fun v7 =>
   if (decide (v7≠0))=true then
    (some (v7))
   else
    (some (0))))
noncomputable def Ab(v1:Int)(v2:Int)(v3:Int)(v4:Int):Option (Int×Int):=
 some ((IntKind.i64.wrap (v1-v3)),(IntKind.i64.wrap (v2-v4)))
noncomputable def Cb(v9:(List (Int×Int)))(v15:(List (Int×Int)))(v16:Int):(Int×Int×Int)→Option ((Int×Int×Int) ⊕ ((Int×Int))):=fun (v48,v49,v50) =>
 if (decide (v50<v16))=true then
  ((aH v15 v50).bind fun (v61,v62) =>
  (aH v9 (IntKind.i64.wrap (v16-v50))).bind fun (v63,v64) =>
  (jJ v61 v62 v63 v64).bind fun (v65,v66) =>
  (Ab v48 v49 v65 v66).bind fun (v67,v68) =>
  some (.inl (v67,v68,(IntKind.i64.wrap (v50+1)))))
 else
  (some (.inr (v48,v49)))
noncomputable def Bx(v9:(List (Int×Int)))(v12:Int)(v13:Int)(v14:(List (Int×Int))):((List (Int×Int))×Int)→Option (((List (Int×Int))×Int) ⊕ (((List (Int×Int))))):=fun (v15,v16) =>
 if (decide (v16<(v14.length:Int)))=true then
  ((aH v14 v16).bind fun (v46,v47) =>
  (run (Cb v9 v15 v16) (v46,v47,(if (IntKind.i64.wrap ((IntKind.i64.wrap (v16+1))-(v9.length:Int)))>0 then (IntKind.i64.wrap ((IntKind.i64.wrap (v16+1))-(v9.length:Int))) else 0))).bind fun (v69,v70) =>
  (jJ v69 v70 v12 v13).bind fun (v71,v72) =>
  (iT 16 v15 ([(v71,v72)]:List (Int×Int))).bind fun v73 =>
  some (.inl (v73,(IntKind.i64.wrap (v16+1)))))
 else
  (some (.inr v15))
noncomputable def Jf(v1:(List (Nat×Nat)))(v2:(List (Nat×Nat))):Option ((List (Nat×Nat))×Int):=
 (cC v1).bind fun v5 =>
 (cC v2).bind fun v6 =>
 (Jl v2).bind fun v7 =>
 (uV v5 v6 v7).bind fun v8 =>
 if (decide (v8≠0))=true then
  (some (([]:List (Nat×Nat)),v8))
 else
  ((bC v2).bind fun v9 =>
  (aH v9 0).bind fun (v10,v11) =>
  (mR v10 v11).bind fun (v12,v13) =>
  (bC v1).bind fun v14 =>
  (run (Bx v9 v12 v13 v14) (([]:List (Int×Int)),0)).bind fun v74 =>
  (bR v74).bind fun (v75,v76) =>
  some (v75,v76))
noncomputable def xW(v1:Int):Option (Int×Int):=
 (aH ([(1,0),(0,1),((-1),0),(0,(-1))]:List (Int×Int)) (v1.tmod 4)).bind fun (v4,v5) =>
 some (v4,v5)
noncomputable def Cc(v7:(List (Int×Int))):(Int×Int)→Option ((Int×Int) ⊕ ((Int))):=fun (v8,v9) =>
 if (decide (v9<4))=true then
  ((aH v7 0).bind fun (v15,v16) =>
  (xW v9).bind fun (v17,v18) =>
  if ([v15==v17,v16==v18].all id)=true then
   (some (.inl (v9,(IntKind.i64.wrap (v9+1)))))
  else
   (some (.inl (v8,(IntKind.i64.wrap (v9+1))))))
 else
  (some (.inr v8))
noncomputable def Bh(v7:(List (Int×Int)))(v20:(List (Int×Int)))(v21:Int):(Int×Int×Int)→Option ((Int×Int×Int) ⊕ ((Int×Int))):=fun (v53,v54,v55) =>
 if (decide (v55≤v21))=true then
  (if (decide (v55<(v7.length:Int)))=true then
   ((aH v20 (IntKind.i64.wrap (v21-v55))).bind fun (v64,v65) =>
   (aH v7 v55).bind fun (v66,v67) =>
   (vQ v64 v65 v66 v67).bind fun (v68,v69) =>
   some (.inl ((IntKind.i64.wrap (v53-v68)),(IntKind.i64.wrap (v54-v69)),(IntKind.i64.wrap (v55+1)))))
  else
   (some (.inr (v53,v54))))
 else
  (some (.inr (v53,v54)))
noncomputable def Bk(v6:(List (Int×Int)))(v7:(List (Int×Int)))(v19:Int):((List (Int×Int))×Int)→Option (((List (Int×Int))×Int) ⊕ ((Unit) ⊕ ((List (Int×Int))))):=fun (v20,v21) =>
 if (decide (v21<(v6.length:Int)))=true then
  ((aH v6 v21).bind fun (v51,v52) =>
  (run (Bh v7 v20 v21) (v51,v52,1)).bind fun (v70,v71) =>
  (xW (IntKind.i64.wrap (4-v19))).bind fun (v72,v73) =>
  (vQ v70 v71 v72 v73).bind fun (v74,v75) =>
  (nQ v74).bind fun v76 =>
  if (decide (v76>16777216))=true then
   (some (.inr (.inl ())))
  else
   ((nQ v75).bind fun v77 =>
   if (decide (v77>16777216))=true then
    (some (.inr (.inl ())))
   else
    ((iT 16 v20 ([(v74,v75)]:List (Int×Int))).bind fun v78 =>
    some (.inl (v78,(IntKind.i64.wrap (v21+1)))))))
 else
  (some (.inr (.inr v20)))
noncomputable def Ji(v1:(List (Nat×Nat)))(v2:(List (Nat×Nat))):Option ((List (Nat×Nat))×Int):=
 (xS v1 v2).bind fun v5 =>
 if (decide (v5≠0))=true then
  (some (([]:List (Nat×Nat)),v5))
 else
  ((bZ v1).bind fun v6 =>
  (bZ v2).bind fun v7 =>
  (run (Cc v7) ((-1),0)).bind fun v19 =>
  if (decide (v19<0))=true then
   (some (([]:List (Nat×Nat)),15))
  else
   ((run (Bk v6 v7 v19) (([]:List (Int×Int)),0)).bind fun v79=>match v79 with
   | (.inl _) =>
    some (([]:List (Nat×Nat)),8)
   | (.inr v80) =>
    (eY v80).bind fun (v81,v82) =>
    some (v81,v82)))
noncomputable def Vf(v1:(List (Nat×Nat)))(v2:(List (Nat×Nat))):Option Bool:=
 (gF v1).bind fun v4 =>
 if v4=true then
  ((gF v2).bind fun v5 =>
  if v5=true then
   ((aR v1).bind fun v6 =>
   (aR v2).bind fun v7 =>
   (Qr v6 v7).bind fun (v8,v9) =>
   (aR v1).bind fun v10 =>
   (aR v2).bind fun v11 =>
   (Jf v10 v11).bind fun (v12,v13) =>
   (aR v1).bind fun v14 =>
   (aR v2).bind fun v15 =>
   (Nw v14 v15).bind fun (v16,v17) =>
   (aR v1).bind fun v18 =>
   (aR v2).bind fun v19 =>
   (Ji v18 v19).bind fun (v20,v21) =>
   if (decide (v9=v17))=true then
    ((aN v8 v16).bind fun v22 =>
    if v22=true then
     (if (decide (v13=v21))=true then
      ((aN v12 v20).bind fun v23 =>
      some (v23))
     else
      (some (false)))
    else
     (some (false)))
   else
    (some (false)))
  else
   (some (true)))
 else
  (some (true))
noncomputable def nG(v1:(List (Nat×Nat)))(v2:Bool)(v3:Int):Option (Int):=
 (aQ v1).bind fun v5 =>
 if (decide (v5≠0))=true then
  (some (v5))
 else
  ((aA v2 v3).bind fun v6 =>
  if (decide (v6≠0))=true then
   (some (v6))
  else
   (some (0)))
noncomputable def zH(v1:(List (Int×Int)))(v2:Int):((List (Int×Int))×Int)→Option (((List (Int×Int))×Int) ⊕ (((List (Int×Int))))):=fun (v5,v6) =>
 if (decide (v6<(v1.length:Int)))=true then
  ((aH v1 v6).bind fun (v14,v15) =>
  if v2=0 then none else
  ((aH v5 (v6.tmod v2)).bind fun (v16,v17) =>
  (iD v16 v17 v14 v15).bind fun (v18,v19) =>
  some (.inl ((v5.set ((v6.tmod v2)).toNat (v18,v19)),(IntKind.i64.wrap (v6+1))))))
 else
  (some (.inr v5))
noncomputable def vD(v1:(List (Int×Int)))(v2:Int):Option ((List (Int×Int))):=
 (mkI 16 v2 ((0,0):(Int×Int))).bind fun v4 =>
 (run (zH v1 v2) (v4,0)).bind fun v20 =>
 some (v20)
noncomputable def Ag(v1:(List (Nat×Nat)))(v2:Int):Option ((List (Nat×Nat))×Int):=
 (cC v1).bind fun v5 =>
 (cB v2 1 1024).bind fun (v6,v7) =>
 (nG v5 v6 v7).bind fun v8 =>
 if (decide (v8≠0))=true then
  (some (([]:List (Nat×Nat)),v8))
 else
  ((bC v1).bind fun v9 =>
  (vD v9 v2).bind fun v10 =>
  (bR v10).bind fun (v11,v12) =>
  some (v11,v12))
noncomputable def uQ(v1:(List (Nat×Nat)))(v2:Int)(v3:(List Int))(v4:Int)(v5:Int)(v6:(List Int)):Option (Int):=
 (aQ v1).bind fun v8 =>
 if (decide (v8≠0))=true then
  (some (v8))
 else
  ((cV v2 v3).bind fun v9 =>
  if (decide (v9≠0))=true then
   (some (v9))
  else
   ((aT v4 v5 v6).bind fun v10 =>
   if (decide (v10≠0))=true then
    (some (v10))
   else
    (some (0))))
noncomputable def mU(v1:Int)(v2:(List Int))(v3:Int):Option ((List Int)):=
 (cT v1 v2 v3).bind fun v5 =>
 some (v5)
noncomputable def jD(v1:Int)(v2:(List Int)):Option (Int):=
 (jH v1 (v2.length:Int)).bind fun v4 =>
 (aH v2 v4).bind fun v5 =>
 some (v5)
noncomputable def uF(v1:Int)(v2:Int)(v3:(List Int)):Option (Int):=
 (jD (IntKind.i64.wrap (v1-v2)) v3).bind fun v5 =>
 some (v5)
noncomputable def mY(v1:Int)(v2:Int)(v3:Int):Option (Int×Int):=
 some ((IntKind.i64.wrap (v1*v3)),(IntKind.i64.wrap (v2*v3)))
noncomputable def tZ(v1:(List (Int×Int)))(v2:(List Int))(v6:Int):((List (Int×Int))×Int)→Option (((List (Int×Int))×Int) ⊕ (((List (Int×Int))))):=fun (v30,v31) =>
 if (decide (v31<(v1.length:Int)))=true then
  ((aH v1 v31).bind fun (v42,v43) =>
  (aH v30 v6).bind fun (v44,v45) =>
  (uF v6 v31 v2).bind fun v46 =>
  (mY v42 v43 v46).bind fun (v47,v48) =>
  (iD v44 v45 v47 v48).bind fun (v49,v50) =>
  some (.inl ((v30.set v6.toNat (v49,v50)),(IntKind.i64.wrap (v31+1)))))
 else
  (some (.inr v30))
noncomputable def tY(v1:(List (Int×Int)))(v2:(List Int))(v4:(List (Int×Int))):((List (Int×Int))×Int)→Option (((List (Int×Int))×Int) ⊕ (((List (Int×Int))))):=fun (v5,v6) =>
 if (decide (v6<(v4.length:Int)))=true then
  ((run (tZ v1 v2 v6) (v5,0)).bind fun v51 =>
  some (.inl (v51,(IntKind.i64.wrap (v6+1)))))
 else
  (some (.inr v5))
noncomputable def yQ(v1:(List (Int×Int)))(v2:(List Int)):Option ((List (Int×Int))):=
 (mkI 16 (v1.length:Int) ((0,0):(Int×Int))).bind fun v4 =>
 (run (tY v1 v2 v4) (v4,0)).bind fun v52 =>
 some (v52)
noncomputable def xN(v1:(List (Nat×Nat)))(v2:Int)(v3:(List Int))(v4:Int):Option ((List (Nat×Nat))×Int):=
 (cC v1).bind fun v7 =>
 (bE v2 v3 v4).bind fun (v8,v9,v10) =>
 (uQ v7 v2 v3 v8 v9 v10).bind fun v11 =>
 if (decide (v11≠0))=true then
  (some (([]:List (Nat×Nat)),v11))
 else
  ((bC v1).bind fun v12 =>
  (aF v2 v3).bind fun v13 =>
  (vD v12 v13).bind fun v14 =>
  (mU v2 v3 v4).bind fun v15 =>
  (bR v14).bind fun (v16,v17) =>
  if (decide (v17≠0))=true then
   (some (([]:List (Nat×Nat)),v17))
  else
   ((yQ v14 v15).bind fun v18 =>
   (bR v18).bind fun (v19,v20) =>
   some (v19,v20)))
noncomputable def Dz(v1:(List (Int×Int)))(v2:Int):((List (Int×Int))×Int)→Option (((List (Int×Int))×Int) ⊕ (((List (Int×Int))))):=fun (v5,v6) =>
 if (decide (v6<(v1.length:Int)))=true then
  (if v2=0 then none else
  ((aH v5 (v6.tmod v2)).bind fun (v14,v15) =>
  (aH v1 v6).bind fun (v16,v17) =>
  (aH (v5.set ((v6.tmod v2)).toNat ((IntKind.i64.wrap (v14+v16)),v15)) (v6.tmod v2)).bind fun (v18,v19) =>
  some (.inl (((v5.set ((v6.tmod v2)).toNat ((IntKind.i64.wrap (v14+v16)),v15)).set ((v6.tmod v2)).toNat (v18,(IntKind.i64.wrap (v19+v17)))),(IntKind.i64.wrap (v6+1))))))
 else
  (some (.inr v5))
noncomputable def sV(v1:(List (Int×Int)))(v2:Int):Option ((List (Int×Int))):=
 (mkI 16 v2 ((0,0):(Int×Int))).bind fun v4 =>
 (run (Dz v1 v2) (v4,0)).bind fun v20 =>
 some (v20)
noncomputable def Ai(v1:(List (Nat×Nat)))(v2:Int):Option ((List (Nat×Nat))×Int):=
 (dF v1).bind fun v5 =>
 if (decide (v5≠0))=true then
  (some (([]:List (Nat×Nat)),v5))
 else
  ((bN v2 1 1024).bind fun v6 =>
  if v6=true then
   ((bZ v1).bind fun v7 =>
   (sV v7 v2).bind fun v8 =>
   (eY v8).bind fun (v9,v10) =>
   some (v9,v10))
  else
   (some (([]:List (Nat×Nat)),2)))
noncomputable def Eg(v1:(List (Int×Int)))(v2:(List Int))(v3:Bool)(v7:Int):((List (Int×Int))×Int)→Option (((List (Int×Int))×Int) ⊕ (((List (Int×Int))))):=fun (v53,v54) =>
 if (decide (v54<(v2.length:Int)))=true then
  (if v3=true then
   ((aH v53 v54).bind fun (v76,v77) =>
   (aH v1 v7).bind fun (v78,v79) =>
   (jC (IntKind.i64.wrap (v7-v54)) (v2.length:Int)).bind fun v80 =>
   (aH v2 v80).bind fun v81 =>
   (aH (v53.set v54.toNat ((IntKind.i64.wrap (v76+(IntKind.i64.wrap (v78*v81)))),v77)) v54).bind fun (v82,v83) =>
   (jC (IntKind.i64.wrap (v7-v54)) (v2.length:Int)).bind fun v84 =>
   (aH v2 v84).bind fun v85 =>
   some (.inl (((v53.set v54.toNat ((IntKind.i64.wrap (v76+(IntKind.i64.wrap (v78*v81)))),v77)).set v54.toNat (v82,(IntKind.i64.wrap (v83+(IntKind.i64.wrap (v79*v85)))))),(IntKind.i64.wrap (v54+1)))))
  else
   ((aH v53 v7).bind fun (v86,v87) =>
   (aH v1 v54).bind fun (v88,v89) =>
   (jC (IntKind.i64.wrap (v7-v54)) (v2.length:Int)).bind fun v90 =>
   (aH v2 v90).bind fun v91 =>
   (aH (v53.set v7.toNat ((IntKind.i64.wrap (v86+(IntKind.i64.wrap (v88*v91)))),v87)) v7).bind fun (v92,v93) =>
   (jC (IntKind.i64.wrap (v7-v54)) (v2.length:Int)).bind fun v94 =>
   (aH v2 v94).bind fun v95 =>
   some (.inl (((v53.set v7.toNat ((IntKind.i64.wrap (v86+(IntKind.i64.wrap (v88*v91)))),v87)).set v7.toNat (v92,(IntKind.i64.wrap (v93+(IntKind.i64.wrap (v89*v95)))))),(IntKind.i64.wrap (v54+1))))))
 else
  (some (.inr v53))
noncomputable def Ee(v1:(List (Int×Int)))(v2:(List Int))(v3:Bool):((List (Int×Int))×Int)→Option (((List (Int×Int))×Int) ⊕ (((List (Int×Int))))):=fun (v6,v7) =>
 if (decide (v7<(v2.length:Int)))=true then
  ((run (Eg v1 v2 v3 v7) (v6,0)).bind fun v96 =>
  some (.inl (v96,(IntKind.i64.wrap (v7+1)))))
 else
  (some (.inr v6))
noncomputable def zK(v1:(List (Int×Int)))(v2:(List Int))(v3:Bool):Option ((List (Int×Int))):=
 (mkI 16 (v2.length:Int) ((0,0):(Int×Int))).bind fun v5 =>
 (run (Ee v1 v2 v3) (v5,0)).bind fun v97 =>
 some (v97)
noncomputable def xL(v1:(List (Nat×Nat)))(v2:Int)(v3:(List Int))(v4:Int):Option ((List (Nat×Nat))×Int):=
 (dF v1).bind fun v7 =>
 if (decide (v7≠0))=true then
  (some (([]:List (Nat×Nat)),v7))
 else
  ((eH v2 v3 v4).bind fun v8 =>
  if (decide (v8≠0))=true then
   (some (([]:List (Nat×Nat)),v8))
  else
   ((bZ v1).bind fun v9 =>
   (iR v2 v3).bind fun v10 =>
   (sV v9 v10).bind fun v11 =>
   (eY v11).bind fun (v12,v13) =>
   if (decide (v13≠0))=true then
    (some (([]:List (Nat×Nat)),v13))
   else
    ((jF v2 v3 v4).bind fun v14 =>
    (zK v11 v14 false).bind fun v15 =>
    (eY v15).bind fun (v16,v17) =>
    some (v16,v17))))
noncomputable def Ri(v1:(List (Nat×Nat)))(v2:Int)(v3:(List Int))(v4:Int)(v5:Int):Option Bool:=
 (gF v1).bind fun v7 =>
 if v7=true then
  (if (decide ((v3.length:Int)>12))=true then
   (some (true))
  else
   (if (decide (v5>300))=true then
    (if (decide (v5≤1024))=true then
     (some (true))
    else
     ((aR v1).bind fun v8 =>
     (Ag v8 v5).bind fun (v9,v10) =>
     (aR v1).bind fun v11 =>
     (kT v2 v3).bind fun (v12,v13) =>
     (xN v11 v12 v13 v4).bind fun (v14,v15) =>
     (aR v1).bind fun v16 =>
     (Ai v16 v5).bind fun (v17,v18) =>
     (aR v1).bind fun v19 =>
     (xL v19 v2 v3 v4).bind fun (v20,v21) =>
     if (decide (v10=v18))=true then
      ((aN v9 v17).bind fun v22 =>
      if v22=true then
       (if (decide (v15=v21))=true then
        ((aN v14 v20).bind fun v23 =>
        some (v23))
       else
        (some (false)))
      else
       (some (false)))
     else
      (some (false))))
   else
    ((aR v1).bind fun v24 =>
    (Ag v24 v5).bind fun (v25,v26) =>
    (aR v1).bind fun v27 =>
    (kT v2 v3).bind fun (v28,v29) =>
    (xN v27 v28 v29 v4).bind fun (v30,v31) =>
    (aR v1).bind fun v32 =>
    (Ai v32 v5).bind fun (v33,v34) =>
    (aR v1).bind fun v35 =>
    (xL v35 v2 v3 v4).bind fun (v36,v37) =>
    if (decide (v26=v34))=true then
     ((aN v25 v33).bind fun v38 =>
     if v38=true then
      (if (decide (v31=v37))=true then
       ((aN v30 v36).bind fun v39 =>
       some (v39))
      else
       (some (false)))
     else
      (some (false)))
    else
     (some (false)))))
 else
  (some (true))
noncomputable def tM(v1:Int)(v2:Int)(v3:(List Int)):Option (Int):=
 (jD (IntKind.i64.wrap (v2-v1)) v3).bind fun v5 =>
 some ((IntKind.i64.wrap (v5-1)))
noncomputable def uP(v1:(List (Int×Int)))(v2:(List Int))(v6:Int):((List (Int×Int))×Int)→Option (((List (Int×Int))×Int) ⊕ (((List (Int×Int))))):=fun (v30,v31) =>
 if (decide (v31<(v1.length:Int)))=true then
  ((aH v1 v31).bind fun (v42,v43) =>
  (aH v30 v6).bind fun (v44,v45) =>
  (tM v6 v31 v2).bind fun v46 =>
  (mY v42 v43 v46).bind fun (v47,v48) =>
  (iD v44 v45 v47 v48).bind fun (v49,v50) =>
  some (.inl ((v30.set v6.toNat (v49,v50)),(IntKind.i64.wrap (v31+1)))))
 else
  (some (.inr v30))
noncomputable def uD(v1:(List (Int×Int)))(v2:(List Int))(v4:(List (Int×Int))):((List (Int×Int))×Int)→Option (((List (Int×Int))×Int) ⊕ (((List (Int×Int))))):=fun (v5,v6) =>
 if (decide (v6<(v4.length:Int)))=true then
  ((run (uP v1 v2 v6) (v5,0)).bind fun v51 =>
  some (.inl (v51,(IntKind.i64.wrap (v6+1)))))
 else
  (some (.inr v5))
noncomputable def zA(v1:(List (Int×Int)))(v2:(List Int)):Option ((List (Int×Int))):=
 (mkI 16 (v1.length:Int) ((0,0):(Int×Int))).bind fun v4 =>
 (run (uD v1 v2 v4) (v4,0)).bind fun v52 =>
 some (v52)
noncomputable def Cd(v1:(List (Int×Int)))(v2:Int):((List (Int×Int))×Int)→Option (((List (Int×Int))×Int) ⊕ ((Unit) ⊕ ((List (Int×Int))))):=fun (v5,v6) =>
 if (decide (v6<(v1.length:Int)))=true then
  ((aH v1 v6).bind fun (v11,v12) =>
  if v2=0 then none else
  (if (decide ((v11.tmod v2)≠0))=true then
   (some (.inr (.inl ())))
  else
   (if (decide ((v12.tmod v2)≠0))=true then
    (some (.inr (.inl ())))
   else
    ((iT 16 v5 ([((IntKind.i64.wrap (v11.tdiv v2)),(IntKind.i64.wrap (v12.tdiv v2)))]:List (Int×Int))).bind fun v13 =>
    some (.inl (v13,(IntKind.i64.wrap (v6+1))))))))
 else
  (some (.inr (.inr v5)))
noncomputable def Jg(v1:(List (Int×Int)))(v2:Int):Option ((List (Int×Int))×Bool):=
 (run (Cd v1 v2) (([]:List (Int×Int)),0)).bind fun v14=>match v14 with
 | (.inl _) =>
  some (([]:List (Int×Int)),false)
 | (.inr v15) =>
  some (v15,true)
noncomputable def tE(v1:Int)(v2:Int):Option (Int):=
 if v2=0 then none else
 (if (decide ((v1.tmod v2)<0))=true then
  (some ((IntKind.i64.wrap ((IntKind.i64.wrap (v1.tdiv v2))-1))))
 else
  (some ((IntKind.i64.wrap (v1.tdiv v2)))))
noncomputable def zF:(Unit)→Option ((Unit) ⊕ ((Unit))):=fun _ =>
 some (.inr ())
noncomputable def Aq(v10:Int)(v13:Int)(v14:Int):((List (Int×Int))×Int)→Option (((List (Int×Int))×Int) ⊕ ((Unit) ⊕ ((List (Int×Int))))):=fun (v17,v18) =>
 if (decide (v18<v10))=true then
  ((aH v17 v18).bind fun (v28,v29) =>
  (jC (IntKind.i64.wrap (v28-v13)) (IntKind.i64.wrap (v10+1))).bind fun v30 =>
  if (decide (v30≠0))=true then
   (some (.inr (.inl ())))
  else
   ((tE (IntKind.i64.wrap (v28-v13)) (IntKind.i64.wrap (v10+1))).bind fun v31 =>
   (aH (v17.set v18.toNat (v31,v29)) v18).bind fun (v32,v33) =>
   (jC (IntKind.i64.wrap (v33-v14)) (IntKind.i64.wrap (v10+1))).bind fun v34 =>
   if (decide (v34≠0))=true then
    (some (.inr (.inl ())))
   else
    ((tE (IntKind.i64.wrap (v33-v14)) (IntKind.i64.wrap (v10+1))).bind fun v35 =>
    (run (zF) ()).bind fun _ =>
    some (.inl (((v17.set v18.toNat (v31,v29)).set v18.toNat (v32,v35)),(IntKind.i64.wrap (v18+1)))))))
 else
  (some (.inr (.inr v17)))
noncomputable def Gk(v1:(List (Nat×Nat)))(v2:Int)(v3:(List Int))(v4:Int):Option ((List (Nat×Nat))×Int):=
 (dF v1).bind fun v7 =>
 if (decide (v7≠0))=true then
  (some (([]:List (Nat×Nat)),v7))
 else
  ((eH v2 v3 v4).bind fun v8 =>
  if (decide (v8≠0))=true then
   (some (([]:List (Nat×Nat)),v8))
  else
   ((hZ v2 v3).bind fun v9 =>
   if v9=true then
    ((iR v2 v3).bind fun v10 =>
    if (decide ((v1.length:Int)≠v10))=true then
     (some (([]:List (Nat×Nat)),13))
    else
     ((bZ v1).bind fun v11 =>
     (sV v11 1).bind fun v12 =>
     (aH v12 0).bind fun (v13,v14) =>
     (jF v2 v3 v4).bind fun v15 =>
     (zK v11 v15 true).bind fun v16 =>
     (run (Aq v10 v13 v14) (v16,0)).bind fun v36=>match v36 with
     | (.inl _) =>
      some (([]:List (Nat×Nat)),20)
     | (.inr v37) =>
      (eY v37).bind fun (v38,v39) =>
      some (v38,v39)))
   else
    (some (([]:List (Nat×Nat)),22))))
noncomputable def sL(v1:(List (Nat×Nat)))(v2:Int)(v3:(List Int)):Option (Int):=
 (aF v2 v3).bind fun v5 =>
 (aD (decide ((v1.length:Int)≠v5)) 13).bind fun (v6,v7) =>
 (aA v6 v7).bind fun v8 =>
 some (v8)
noncomputable def uM(v1:(List (Nat×Nat)))(v2:Int)(v3:(List Int))(v4:Int)(v5:Int)(v6:(List Int))(v7:Int)(v8:(List Int))(v9:(List (Nat×Nat)))(v10:Int)(v11:(List Int)):Option (Int):=
 (aQ v1).bind fun v13 =>
 if (decide (v13≠0))=true then
  (some (v13))
 else
  ((cV v2 v3).bind fun v14 =>
  if (decide (v14≠0))=true then
   (some (v14))
  else
   ((aT v4 v5 v6).bind fun v15 =>
   if (decide (v15≠0))=true then
    (some (v15))
   else
    ((cY v7 v8).bind fun v16 =>
    if (decide (v16≠0))=true then
     (some (v16))
    else
     ((sL v9 v10 v11).bind fun v17 =>
     if (decide (v17≠0))=true then
      (some (v17))
     else
      (some (0))))))
noncomputable def Gf(v1:(List (Nat×Nat)))(v2:Int)(v3:(List Int))(v4:Int):Option ((List (Nat×Nat))×Int):=
 (cC v1).bind fun v7 =>
 (bE v2 v3 v4).bind fun (v8,v9,v10) =>
 (uM v7 v2 v3 v8 v9 v10 v2 v3 v1 v2 v3).bind fun v11 =>
 if (decide (v11≠0))=true then
  (some (([]:List (Nat×Nat)),v11))
 else
  ((mU v2 v3 v4).bind fun v12 =>
  (bC v1).bind fun v13 =>
  (zA v13 v12).bind fun v14 =>
  (aF v2 v3).bind fun v15 =>
  (Jg v14 (IntKind.i64.wrap (v15+1))).bind fun (v16,v17) =>
  if v17=true then
   ((bR v16).bind fun (v18,v19) =>
   some (v18,v19))
  else
   (some (([]:List (Nat×Nat)),20)))
noncomputable def Sr(v1:(List (Nat×Nat)))(v2:Int)(v3:(List Int))(v4:Int):Option Bool:=
 (gF v1).bind fun v6 =>
 if v6=true then
  (if (decide ((v3.length:Int)>12))=true then
   (some (true))
  else
   ((aR v1).bind fun v7 =>
   (kT v2 v3).bind fun (v8,v9) =>
   (Gf v7 v8 v9 v4).bind fun (v10,v11) =>
   (aR v1).bind fun v12 =>
   (Gk v12 v2 v3 v4).bind fun (v13,v14) =>
   if (decide (v11=v14))=true then
    ((aN v10 v13).bind fun v15 =>
    some (v15))
   else
    (some (false))))
 else
  (some (true))
noncomputable def Dy(v1:Int)(v2:(List (Nat×Nat))):Option (Int×(List (Nat×Nat))):=
 some (v1,v2)
noncomputable def yV(v1:Int)(v2:(List (Nat×Nat))):Option (Int):=
 (aH v2 v1).bind fun (v4,v5) =>
 (fJ v4 v5).bind fun (v6,v7) =>
 (eX v6 v7 32767).bind fun (v8,v9) =>
 (aA v8 v9).bind fun v10 =>
 some (v10)
noncomputable def uC(v1:Int)(v2:(List (Nat×Nat))):(Int)→Option ((Int) ⊕ ((Int) ⊕ (Unit))):=fun v4 =>
 if (decide (v4<v1))=true then
  ((yV v4 v2).bind fun v7 =>
  if (decide (v7≠0))=true then
   (some (.inr (.inl v7)))
  else
   (some (.inl (IntKind.i64.wrap (v4+1)))))
 else
  (some (.inr (.inr ())))
noncomputable def yB(v1:Int)(v2:(List (Nat×Nat))):Option (Int):=
 (run (uC v1 v2) 0).bind fun v8=>match v8 with
 | (.inl v9) =>
  some (v9)
 | (.inr _) =>
  some (0)
noncomputable def uU(v1:(List (Nat×Nat)))(v2:Bool)(v3:Int)(v4:Int)(v5:(List (Nat×Nat))):Option (Int):=
 (aQ v1).bind fun v7 =>
 if (decide (v7≠0))=true then
  (some (v7))
 else
  ((aA v2 v3).bind fun v8 =>
  if (decide (v8≠0))=true then
   (some (v8))
  else
   ((yB v4 v5).bind fun v9 =>
   if (decide (v9≠0))=true then
    (some (v9))
   else
    (some (0))))
noncomputable def Ht(v14:(List (Int×Int))):((List Nat)×(List Nat)×Int)→Option (((List Nat)×(List Nat)×Int) ⊕ (((List Nat)×(List Nat)))):=fun (v15,v16,v17) =>
 if (decide (v17<(v14.length:Int)))=true then
  ((aH v14 v17).bind fun (v24,v25) =>
  (iT 4 v15 ([(FloatKind.f32.nearest v24)]:List Nat)).bind fun v26 =>
  (iT 4 v16 ([(FloatKind.f32.nearest v25)]:List Nat)).bind fun v27 =>
  some (.inl (v26,v27,(IntKind.i64.wrap (v17+1)))))
 else
  (some (.inr (v15,v16)))
noncomputable def Hm(v1:(List (Nat×Nat)))(v2:Int):Option (Int×(List Nat)×Int×(List Nat)×Int):=
 (cC v1).bind fun v8 =>
 (cB v2 8000 192000).bind fun (v9,v10) =>
 (Dy (v1.length:Int) v1).bind fun (v11,v12) =>
 (uU v8 v9 v10 v11 v12).bind fun v13 =>
 if (decide (v13≠0))=true then
  (some (0,([]:List Nat),0,([]:List Nat),v13))
 else
  ((bC v1).bind fun v14 =>
  (run (Ht v14) (([]:List Nat),([]:List Nat),0)).bind fun (v28,v29) =>
  some (v2,v28,v2,v29,0))
noncomputable def zU(v1:(List Int))(v2:Int):(Int)→Option ((Int) ⊕ ((Unit) ⊕ (Unit))):=fun v4 =>
 if (decide (v4<(v1.length:Int)))=true then
  ((aH v1 v4).bind fun v7 =>
  (bN v7 (IntKind.i64.wrap (0-v2)) v2).bind fun v8 =>
  if v8=true then
   (some (.inl (IntKind.i64.wrap (v4+1))))
  else
   (some (.inr (.inl ()))))
 else
  (some (.inr (.inr ())))
noncomputable def pV(v1:(List Int))(v2:Int):Option (Int):=
 (run (zU v1 v2) 0).bind fun v9=>match v9 with
 | (.inl _) =>
  some (2)
 | (.inr _) =>
  some (0)
noncomputable def Jq(v11:(List Int)):((List Nat)×Int)→Option (((List Nat)×Int) ⊕ (((List Nat)))):=fun (v13,v14) =>
 if (decide (v14<(v11.length:Int)))=true then
  ((aH v11 v14).bind fun v18 =>
  (iT 4 v13 ([(FloatKind.f32.nearest v18)]:List Nat)).bind fun v19 =>
  some (.inl (v19,(IntKind.i64.wrap (v14+1)))))
 else
  (some (.inr v13))
noncomputable def Hz(v21:(List Int)):((List Nat)×Int)→Option (((List Nat)×Int) ⊕ (((List Nat)))):=fun (v23,v24) =>
 if (decide (v24<(v21.length:Int)))=true then
  ((aH v21 v24).bind fun v28 =>
  (iT 4 v23 ([(FloatKind.f32.nearest v28)]:List Nat)).bind fun v29 =>
  some (.inl (v29,(IntKind.i64.wrap (v24+1)))))
 else
  (some (.inr v23))
noncomputable def Je:(Unit)→Option ((Unit) ⊕ ((Unit))):=fun _ =>
 some (.inr ())
noncomputable def Fi(v1:(List (Nat×Nat)))(v2:Int):Option (Int×(List Nat)×Int×(List Nat)×Int):=
 (dF v1).bind fun v8 =>
 if (decide (v8≠0))=true then
  (some (0,([]:List Nat),0,([]:List Nat),v8))
 else
  ((bN v2 8000 192000).bind fun v9 =>
  if v9=true then
   ((bZ v1).bind fun v10 =>
   (fR v10 0).bind fun v11 =>
   (pV v11 32767).bind fun v12 =>
   if (decide (v12≠0))=true then
    (some (0,([]:List Nat),0,([]:List Nat),8))
   else
    ((run (Jq v11) (([]:List Nat),0)).bind fun v20 =>
    (fR v10 1).bind fun v21 =>
    (pV v21 32767).bind fun v22 =>
    if (decide (v22≠0))=true then
     (some (0,([]:List Nat),0,([]:List Nat),8))
    else
     ((run (Hz v21) (([]:List Nat),0)).bind fun v30 =>
     (run (Je) ()).bind fun _ =>
     some (v2,v20,v2,v30,0))))
  else
   (some (0,([]:List Nat),0,([]:List Nat),2)))
noncomputable def yN(v1:(List Nat))(v2:(List Nat)):(Int)→Option ((Int) ⊕ ((Unit) ⊕ (Unit))):=fun v4 =>
 if (decide (v4<(v1.length:Int)))=true then
  ((aH v1 v4).bind fun v9 =>
  (fbits .f32 v9).bind fun v10 =>
  (aH v2 v4).bind fun v11 =>
  (fbits .f32 v11).bind fun v12 =>
  if (decide (v10≠v12))=true then
   (some (.inr (.inl ())))
  else
   (some (.inl (IntKind.i64.wrap (v4+1)))))
 else
  (some (.inr (.inr ())))
noncomputable def Ea(v1:(List Nat))(v2:(List Nat)):Option (Bool):=
 if (decide ((v1.length:Int)≠(v2.length:Int)))=true then
  (some (false))
 else
  ((run (yN v1 v2) 0).bind fun v13=>match v13 with
  | (.inl _) =>
   some (false)
  | (.inr _) =>
   some (true))
noncomputable def kK(v1:Int)(v2:(List Nat))(v3:Int)(v4:(List Nat)):Option (Bool):=
 if (decide (v1=v3))=true then
  ((Ea v2 v4).bind fun v6 =>
  some (v6))
 else
  (some (false))
noncomputable def Eh(v1:Int)(v2:(List (List (Nat×Nat)))):Option (Int×(List (List (Nat×Nat)))):=
 some (v1,v2)
noncomputable def sS(v1:Int)(v2:(List (List (Nat×Nat)))):Option (Int):=
 (aH v2 v1).bind fun v4 =>
 (cC v4).bind fun v5 =>
 (aH v2 0).bind fun v6 =>
 (aD (decide ((v4.length:Int)≠(v6.length:Int))) 13).bind fun (v7,v8) =>
 (nG v5 v7 v8).bind fun v9 =>
 some (v9)
noncomputable def uR(v1:Int)(v2:(List (List (Nat×Nat)))):(Int)→Option ((Int) ⊕ ((Int) ⊕ (Unit))):=fun v4 =>
 if (decide (v4<v1))=true then
  ((sS v4 v2).bind fun v7 =>
  if (decide (v7≠0))=true then
   (some (.inr (.inl v7)))
  else
   (some (.inl (IntKind.i64.wrap (v4+1)))))
 else
  (some (.inr (.inr ())))
noncomputable def yG(v1:Int)(v2:(List (List (Nat×Nat)))):Option (Int):=
 (run (uR v1 v2) 0).bind fun v8=>match v8 with
 | (.inl v9) =>
  some (v9)
 | (.inr _) =>
  some (0)
noncomputable def uG(v1:Bool)(v2:Int)(v3:Bool)(v4:Int)(v5:Int)(v6:(List (List (Nat×Nat)))):Option (Int):=
 (aA v1 v2).bind fun v8 =>
 if (decide (v8≠0))=true then
  (some (v8))
 else
  ((aA v3 v4).bind fun v9 =>
  if (decide (v9≠0))=true then
   (some (v9))
  else
   ((yG v5 v6).bind fun v10 =>
   if (decide (v10≠0))=true then
    (some (v10))
   else
    (some (0))))
noncomputable def Qi(v1:Int)(v2:Int):Option (Int):=
 (jH v1 v2).bind fun v4 =>
 if v2=0 then none else
 (some ((IntKind.i64.wrap ((IntKind.i64.wrap (v1-v4)).tdiv v2))))
noncomputable def xM(v1:Int)(v2:Int):Option (Int):=
 (Qi (IntKind.i64.wrap ((IntKind.i64.wrap (2*v1))+v2)) (IntKind.i64.wrap (2*v2))).bind fun v4 =>
 some (v4)
noncomputable def Ae(v1:(List (List (Nat×Nat))))(v14:Int):(Int×Int×Int)→Option ((Int×Int×Int) ⊕ ((Int×Int))):=fun (v41,v42,v43) =>
 if (decide (v43<(v1.length:Int)))=true then
  ((aH v1 v43).bind fun v53 =>
  (aH v53 v14).bind fun (v54,v55) =>
  (fJ v54 v55).bind fun (v56,v57) =>
  (iD v41 v42 v56 v57).bind fun (v58,v59) =>
  some (.inl (v58,v59,(IntKind.i64.wrap (v43+1)))))
 else
  (some (.inr (v41,v42)))
noncomputable def Az(v1:(List (List (Nat×Nat))))(v12:(List (Int×Int))):((List (Int×Int))×Int)→Option (((List (Int×Int))×Int) ⊕ (((List (Int×Int))))):=fun (v13,v14) =>
 if (decide (v14<(v12.length:Int)))=true then
  ((run (Ae v1 v14) (0,0,0)).bind fun (v60,v61) =>
  (xM v60 (v1.length:Int)).bind fun v62 =>
  (xM v61 (v1.length:Int)).bind fun v63 =>
  (aH v13 v14).bind fun (v64,v65) =>
  some (.inl ((v13.set v14.toNat (v62,v63)),(IntKind.i64.wrap (v14+1)))))
 else
  (some (.inr v13))
noncomputable def wM(v1:(List (List (Nat×Nat)))):Option ((List (Nat×Nat))×Int):=
 (aD (decide ((v1.length:Int)=0)) 10).bind fun (v4,v5) =>
 (aD (decide ((v1.length:Int)>32)) 8).bind fun (v6,v7) =>
 (Eh (v1.length:Int) v1).bind fun (v8,v9) =>
 (uG v4 v5 v6 v7 v8 v9).bind fun v10 =>
 if (decide (v10≠0))=true then
  (some (([]:List (Nat×Nat)),v10))
 else
  ((aH v1 0).bind fun v11 =>
  (mkI 16 (v11.length:Int) ((0,0):(Int×Int))).bind fun v12 =>
  (run (Az v1 v12) (v12,0)).bind fun v66 =>
  (bR v66).bind fun (v67,v68) =>
  some (v67,v68))
noncomputable def zM(v1:(List (List (Nat×Nat)))):(Int)→Option ((Int) ⊕ ((Int) ⊕ (Unit))):=fun v4 =>
 if (decide (v4<(v1.length:Int)))=true then
  ((aH v1 v4).bind fun v9 =>
  (dF v9).bind fun v10 =>
  if (decide (v10≠0))=true then
   (some (.inr (.inl v10)))
  else
   ((aH v1 0).bind fun v11 =>
   if (decide ((v9.length:Int)≠(v11.length:Int)))=true then
    (some (.inr (.inl 13)))
   else
    (some (.inl (IntKind.i64.wrap (v4+1))))))
 else
  (some (.inr (.inr ())))
noncomputable def Aw(v34:(List (Int×Int))):((List (Int×Int))×Int)→Option (((List (Int×Int))×Int) ⊕ (((List (Int×Int))))):=fun (v35,v36) =>
 if (decide (v36<(v34.length:Int)))=true then
  ((aH v35 v36).bind fun (v42,v43) =>
  (aH v34 v36).bind fun (v44,v45) =>
  some (.inl ((v35.set v36.toNat ((IntKind.i64.wrap (v42+v44)),(IntKind.i64.wrap (v43+v45)))),(IntKind.i64.wrap (v36+1)))))
 else
  (some (.inr v35))
noncomputable def Ad(v1:(List (List (Nat×Nat)))):((List (Int×Int))×Int)→Option (((List (Int×Int))×Int) ⊕ (((List (Int×Int))))):=fun (v16,v17) =>
 if (decide (v17<(v1.length:Int)))=true then
  ((aH v1 v17).bind fun v33 =>
  (bZ v33).bind fun v34 =>
  (run (Aw v34) (v16,0)).bind fun v46 =>
  some (.inl (v46,(IntKind.i64.wrap (v17+1)))))
 else
  (some (.inr v16))
noncomputable def Ay(v1:(List (List (Nat×Nat)))):((List (Int×Int))×Int)→Option (((List (Int×Int))×Int) ⊕ (((List (Int×Int))))):=fun (v48,v49) =>
 if (decide (v49<(v48.length:Int)))=true then
  ((aH v48 v49).bind fun (v55,v56) =>
  (tE (IntKind.i64.wrap ((IntKind.i64.wrap (2*v55))+(v1.length:Int))) (IntKind.i64.wrap (2*(v1.length:Int)))).bind fun v57 =>
  (tE (IntKind.i64.wrap ((IntKind.i64.wrap (2*v56))+(v1.length:Int))) (IntKind.i64.wrap (2*(v1.length:Int)))).bind fun v58 =>
  some (.inl ((v48.set v49.toNat (v57,v58)),(IntKind.i64.wrap (v49+1)))))
 else
  (some (.inr v48))
noncomputable def uW(v1:(List (List (Nat×Nat)))):Option ((List (Nat×Nat))×Int):=
 if (decide ((v1.length:Int)=0))=true then
  (some (([]:List (Nat×Nat)),10))
 else
  (if (decide ((v1.length:Int)>32))=true then
   (some (([]:List (Nat×Nat)),8))
  else
   ((run (zM v1) 0).bind fun v12=>match v12 with
   | (.inl v13) =>
    some (([]:List (Nat×Nat)),v13)
   | (.inr _) =>
    (aH v1 0).bind fun v14 =>
    (mkI 16 (v14.length:Int) ((0,0):(Int×Int))).bind fun v15 =>
    (run (Ad v1) (v15,0)).bind fun v47 =>
    (run (Ay v1) (v47,0)).bind fun v59 =>
    (eY v59).bind fun (v60,v61) =>
    some (v60,v61)))
noncomputable def xE(v1:(List (List (Nat×Nat))))(v2:Int):((List (List (Nat×Nat)))×Int)→Option (((List (List (Nat×Nat)))×Int) ⊕ ((Bool) ⊕ ((List (List (Nat×Nat)))))):=fun (v4,v5) =>
 if (decide (v5<(v1.length:Int)))=true then
  ((aH v1 v5).bind fun v26 =>
  (gF v26).bind fun v27 =>
  if v27=true then
   ((aR v26).bind fun v28 =>
   (iT 24 v4 ([v28]:List (List (Nat×Nat)))).bind fun v29 =>
   (aR v26).bind fun v30 =>
   (Hm v30 v2).bind fun (v31,v32,v33,v34,v35) =>
   (aR v26).bind fun v36 =>
   (Fi v36 v2).bind fun (v37,v38,v39,v40,v41) =>
   if (decide (v35≠v41))=true then
    (some (.inr (.inl false)))
   else
    ((kK v31 v32 v37 v38).bind fun v42 =>
    if v42=true then
     ((kK v33 v34 v39 v40).bind fun v43 =>
     if v43=true then
      (some (.inl (v29,(IntKind.i64.wrap (v5+1)))))
     else
      (some (.inr (.inl false))))
    else
     (some (.inr (.inl false)))))
  else
   (some (.inr (.inl true))))
 else
  (some (.inr (.inr v4)))
noncomputable def xH(v1:(List (List (Nat×Nat))))(v2:Int):((List (List (Nat×Nat)))×Int)→Option (((List (List (Nat×Nat)))×Int) ⊕ ((Bool) ⊕ ((List (List (Nat×Nat)))))):=fun (v52,v53) =>
 if (decide (v53<(v1.length:Int)))=true then
  ((aH v1 v53).bind fun v74 =>
  (gF v74).bind fun v75 =>
  if v75=true then
   ((aR v74).bind fun v76 =>
   (iT 24 v52 ([v76]:List (List (Nat×Nat)))).bind fun v77 =>
   (aR v74).bind fun v78 =>
   (Hm v78 v2).bind fun (v79,v80,v81,v82,v83) =>
   (aR v74).bind fun v84 =>
   (Fi v84 v2).bind fun (v85,v86,v87,v88,v89) =>
   if (decide (v83≠v89))=true then
    (some (.inr (.inl false)))
   else
    ((kK v79 v80 v85 v86).bind fun v90 =>
    if v90=true then
     ((kK v81 v82 v87 v88).bind fun v91 =>
     if v91=true then
      (some (.inl (v77,(IntKind.i64.wrap (v53+1)))))
     else
      (some (.inr (.inl false))))
    else
     (some (.inr (.inl false)))))
  else
   (some (.inr (.inl true))))
 else
  (some (.inr (.inr v52)))
noncomputable def Vy(v1:(List (List (Nat×Nat))))(v2:Int):Option Bool:=
 if (decide ((v1.length:Int)>4))=true then
  (if (decide ((v1.length:Int)≤32))=true then
   (some (true))
  else
   (if (decide ((v1.length:Int)>34))=true then
    (some (true))
   else
    ((run (xE v1 v2) (([]:List (List (Nat×Nat))),0)).bind fun v44=>match v44 with
    | (.inl v45) =>
     some (v45)
    | (.inr v46) =>
     (wM v46).bind fun (v47,v48) =>
     (uW v46).bind fun (v49,v50) =>
     if (decide (v48=v50))=true then
      ((aN v47 v49).bind fun v51 =>
      some (v51))
     else
      (some (false)))))
 else
  (if (decide ((v1.length:Int)>34))=true then
   (some (true))
  else
   ((run (xH v1 v2) (([]:List (List (Nat×Nat))),0)).bind fun v92=>match v92 with
   | (.inl v93) =>
    some (v93)
   | (.inr v94) =>
    (wM v94).bind fun (v95,v96) =>
    (uW v94).bind fun (v97,v98) =>
    if (decide (v96=v98))=true then
     ((aN v95 v97).bind fun v99 =>
     some (v99))
    else
     (some (false))))
noncomputable def mL(v1:Int)(v2:Int)(v3:Int)(v4:(List Int)):Option ((List Int)×Int×Int×Int):=
 some (v4,v1,v2,v3)
noncomputable def Ei(v1:Int)(v2:(List Int))(v3:Int):Option (Int×(List Int)×Int):=
 some (v1,v2,v3)
noncomputable def Fa(v1:(List Int))(v2:Int):Option (Int×(List Int)×Int):=
 (Ei (v1.length:Int) v1 v2).bind fun (v6,v7,v8) =>
 some (v6,v7,v8)
noncomputable def tJ(v1:Int)(v2:(List Int))(v3:Int):Option (Int):=
 (aH v2 v1).bind fun v5 =>
 (cB v5 (IntKind.i64.wrap (0-v3)) v3).bind fun (v6,v7) =>
 (aA v6 v7).bind fun v8 =>
 some (v8)
noncomputable def uL(v1:Int)(v2:(List Int))(v3:Int):(Int)→Option ((Int) ⊕ ((Int) ⊕ (Unit))):=fun v5 =>
 if (decide (v5<v1))=true then
  ((tJ v5 v2 v3).bind fun v8 =>
  if (decide (v8≠0))=true then
   (some (.inr (.inl v8)))
  else
   (some (.inl (IntKind.i64.wrap (v5+1)))))
 else
  (some (.inr (.inr ())))
noncomputable def yP(v1:Int)(v2:(List Int))(v3:Int):Option (Int):=
 (run (uL v1 v2 v3) 0).bind fun v9=>match v9 with
 | (.inl v10) =>
  some (v10)
 | (.inr _) =>
  some (0)
noncomputable def nK(v1:Bool)(v2:Int)(v3:Int)(v4:(List Int))(v5:Int)(v6:Int)(v7:Int)(v8:Int)(v9:Bool)(v10:Int):Option (Int):=
 (aA v1 v2).bind fun v12 =>
 if (decide (v12≠0))=true then
  (some (v12))
 else
  ((yP v3 v4 v5).bind fun v13 =>
  if (decide (v13≠0))=true then
   (some (v13))
  else
   ((iL v6 v7 v8).bind fun v14 =>
   if (decide (v14≠0))=true then
    (some (v14))
   else
    ((aA v9 v10).bind fun v15 =>
    if (decide (v15≠0))=true then
     (some (v15))
    else
     (some (0)))))
noncomputable def iX(v1:(List Int))(v2:Int)(v3:Int)(v4:Int):Option (Int):=
 (aD (decide ((v1.length:Int)>1024)) 8).bind fun (v6,v7) =>
 (Fa v1 2147483647).bind fun (v8,v9,v10) =>
 (aD (decide ((v1.length:Int)≠v4)) 13).bind fun (v11,v12) =>
 (nK v6 v7 v8 v9 v10 v2 v3 v4 v11 v12).bind fun v13 =>
 some (v13)
noncomputable def kH(v1:(List Int))(v2:Int)(v3:Int)(v4:Int):Option ((List Int)×Int):=
 (mL v2 v3 v4 v1).bind fun (v7,v8,v9,v10) =>
 (iX v7 v8 v9 v10).bind fun v11 =>
 if (decide (v11≠0))=true then
  (some (([]:List Int),v11))
 else
  ((bB v2 v3 v4 v1).bind fun v12 =>
  some (v12,0))
noncomputable def sM(v1:(List Int))(v2:Int)(v3:Int)(v4:Int):Option ((List Int)×Int):=
 (mL v2 v3 v4 v1).bind fun (v7,v8,v9,v10) =>
 (iX v7 v8 v9 v10).bind fun v11 =>
 if (decide (v11≠0))=true then
  (some (([]:List Int),v11))
 else
  ((gC v2 v3 v4 v1).bind fun v12 =>
  some (v12,0))
noncomputable def wQ(v1:(List Int))(v2:Int)(v3:Int)(v4:Int):Option (Int):=
 if (decide ((v1.length:Int)>1024))=true then
  (some (8))
 else
  ((pV v1 2147483647).bind fun v6 =>
  if (decide (v6≠0))=true then
   (some (v6))
  else
   ((dG v2 v3 v4).bind fun v7 =>
   if (decide (v7≠0))=true then
    (some (v7))
   else
    (if (decide ((v1.length:Int)≠v4))=true then
     (some (13))
    else
     (some (0)))))
noncomputable def Nm(v1:(List Int))(v2:(List Int)):(Int)→Option ((Int) ⊕ ((Unit) ⊕ (Unit))):=fun v4 =>
 if (decide (v4<(v1.length:Int)))=true then
  ((aH v1 v4).bind fun v7 =>
  (aH v2 v4).bind fun v8 =>
  if (decide (v7≠v8))=true then
   (some (.inr (.inl ())))
  else
   (some (.inl (IntKind.i64.wrap (v4+1)))))
 else
  (some (.inr (.inr ())))
noncomputable def wZ(v1:(List Int))(v2:(List Int)):Option (Bool):=
 if (decide ((v1.length:Int)≠(v2.length:Int)))=true then
  (some (false))
 else
  ((run (Nm v1 v2) 0).bind fun v9=>match v9 with
  | (.inl _) =>
   some (false)
  | (.inr _) =>
   some (true))
noncomputable def rH(v1:(List Int))(v2:Int)(v3:Int)(v7:(List Int))(v18:(List Int))(v23:(List Int)):(Int)→Option ((Int) ⊕ ((Unit) ⊕ (Unit))):=fun v25 =>
 if (decide (v25<(v1.length:Int)))=true then
  ((aH v18 v25).bind fun v32 =>
  (aH v1 v25).bind fun v33 =>
  (jC v33 v2).bind fun v34 =>
  if (decide (v32≠v34))=true then
   (some (.inr (.inl ())))
  else
   ((aH v23 v25).bind fun v35 =>
   (aH v7 v25).bind fun v36 =>
   (gB v3 v25 v2).bind fun v37 =>
   if v2=0 then none else
   (if (decide (v35≠((IntKind.i64.wrap (v36*v37)).tmod v2)))=true then
    (some (.inr (.inl ())))
   else
    (some (.inl (IntKind.i64.wrap (v25+1)))))))
 else
  (some (.inr (.inr ())))
noncomputable def qW(v1:(List Int))(v2:Int)(v3:Int)(v40:(List Int))(v51:(List Int))(v56:(List Int)):(Int)→Option ((Int) ⊕ ((Unit) ⊕ (Unit))):=fun v58 =>
 if (decide (v58<(v1.length:Int)))=true then
  ((aH v51 v58).bind fun v65 =>
  (aH v1 v58).bind fun v66 =>
  (jC v66 v2).bind fun v67 =>
  if (decide (v65≠v67))=true then
   (some (.inr (.inl ())))
  else
   ((aH v56 v58).bind fun v68 =>
   (aH v40 v58).bind fun v69 =>
   (gB v3 v58 v2).bind fun v70 =>
   if v2=0 then none else
   (if (decide (v68≠((IntKind.i64.wrap (v69*v70)).tmod v2)))=true then
    (some (.inr (.inl ())))
   else
    (some (.inl (IntKind.i64.wrap (v58+1)))))))
 else
  (some (.inr (.inr ())))
noncomputable def Nt(v1:(List Int))(v2:Int)(v3:Int)(v4:Int):Option Bool:=
 if (decide ((v1.length:Int)>40))=true then
  (if (decide ((v1.length:Int)≤1024))=true then
   (some (true))
  else
   (if (decide ((v1.length:Int)>1026))=true then
    (some (true))
   else
    ((dQ v1).bind fun v6 =>
    (kH v6 v2 v3 v4).bind fun (v7,v8) =>
    (dQ v1).bind fun v9 =>
    (sM v9 v2 v3 v4).bind fun (v10,v11) =>
    (wQ v1 v2 v3 v4).bind fun v12 =>
    if (decide (v12≠0))=true then
     (if (decide (v8=v12))=true then
      (if (decide (v11=v12))=true then
       (some ((decide ((IntKind.i64.wrap ((v7.length:Int)+(v10.length:Int)))=0))))
      else
       (some (false)))
     else
      (some (false)))
    else
     (if (decide (v8≠0))=true then
      (some (false))
     else
      ((bG v1 v2 v3 v4).bind fun v13 =>
      (wZ v7 v13).bind fun v14 =>
      if v14=true then
       (if (decide (v11≠0))=true then
        (some (false))
       else
        ((iP v1 v2 v3 v4).bind fun v15 =>
        (wZ v10 v15).bind fun v16 =>
        if v16=true then
         ((dQ v7).bind fun v17 =>
         (sM v17 v2 v3 v4).bind fun (v18,v19) =>
         (aH v1 (IntKind.i64.wrap ((v1.length:Int)-1))).bind fun v20 =>
         (aCP v1 0 (IntKind.i64.wrap ((v1.length:Int)-1))).bind fun v21 =>
         (iT 8 ([v20]:List Int) v21).bind fun v22 =>
         (kH v22 v2 v3 v4).bind fun (v23,v24) =>
         if (decide (v19≠0))=true then
          (some (false))
         else
          (if (decide (v24≠0))=true then
           (some (false))
          else
           (if (decide ((v18.length:Int)≠(v1.length:Int)))=true then
            (some (false))
           else
            (if (decide ((v23.length:Int)≠(v1.length:Int)))=true then
             (some (false))
            else
             ((run (rH v1 v2 v3 v7 v18 v23) 0).bind fun v38=>match v38 with
             | (.inl _) =>
              some (false)
             | (.inr _) =>
              some (true))))))
        else
         (some (false))))
      else
       (some (false)))))))
 else
  (if (decide ((v1.length:Int)>1026))=true then
   (some (true))
  else
   ((dQ v1).bind fun v39 =>
   (kH v39 v2 v3 v4).bind fun (v40,v41) =>
   (dQ v1).bind fun v42 =>
   (sM v42 v2 v3 v4).bind fun (v43,v44) =>
   (wQ v1 v2 v3 v4).bind fun v45 =>
   if (decide (v45≠0))=true then
    (if (decide (v41=v45))=true then
     (if (decide (v44=v45))=true then
      (some ((decide ((IntKind.i64.wrap ((v40.length:Int)+(v43.length:Int)))=0))))
     else
      (some (false)))
    else
     (some (false)))
   else
    (if (decide (v41≠0))=true then
     (some (false))
    else
     ((bG v1 v2 v3 v4).bind fun v46 =>
     (wZ v40 v46).bind fun v47 =>
     if v47=true then
      (if (decide (v44≠0))=true then
       (some (false))
      else
       ((iP v1 v2 v3 v4).bind fun v48 =>
       (wZ v43 v48).bind fun v49 =>
       if v49=true then
        ((dQ v40).bind fun v50 =>
        (sM v50 v2 v3 v4).bind fun (v51,v52) =>
        (aH v1 (IntKind.i64.wrap ((v1.length:Int)-1))).bind fun v53 =>
        (aCP v1 0 (IntKind.i64.wrap ((v1.length:Int)-1))).bind fun v54 =>
        (iT 8 ([v53]:List Int) v54).bind fun v55 =>
        (kH v55 v2 v3 v4).bind fun (v56,v57) =>
        if (decide (v52≠0))=true then
         (some (false))
        else
         (if (decide (v57≠0))=true then
          (some (false))
         else
          (if (decide ((v51.length:Int)≠(v1.length:Int)))=true then
           (some (false))
          else
           (if (decide ((v56.length:Int)≠(v1.length:Int)))=true then
            (some (false))
           else
            ((run (qW v1 v2 v3 v40 v51 v56) 0).bind fun v71=>match v71 with
            | (.inl _) =>
             some (false)
            | (.inr _) =>
             some (true))))))
       else
        (some (false))))
     else
      (some (false))))))
end Go.Rex
