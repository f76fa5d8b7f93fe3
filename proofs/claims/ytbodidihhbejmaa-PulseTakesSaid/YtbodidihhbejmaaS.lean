/- The functions of the program and of the reference,as functions of lists and numbers. -/
import Derived.Test.YtbodidihhbejmaaRexG9
set_option linter.unusedSimpArgs false
set_option linter.unusedVariables false
set_option linter.defProp false
namespace Go.Rex
open Go Go.Rex
def e_ff(x:(Nat×Nat)):List TV:=[.v (.float .f32 x.1),.v (.float .f32 x.2)]
def e_c(x:(Nat×Nat)):List TV:=[.v (.complex .f32 x.1 x.2)]
def e_ii(x:(Int×Int)):List TV:=[.v (.int .i64 x.1),.v (.int .i64 x.2)]
def e_i(x:Int):List TV:=[.v (.int .i64 x)]
def e_Lc_(x:(List (Nat×Nat))):List TV:=[.list 1 (x.map e_c)]
def e_f(x:Nat):List TV:=[.v (.float .f32 x)]
def e_Lff_(x:(List (Nat×Nat))):List TV:=[.list 2 (x.map e_ff)]
noncomputable def eD(v1:(List (Nat×Nat))):Option (Bool):=
 if (decide ((v1.length:Int)≤40))=true then
  (some (true))
 else
  (if (decide ((v1.length:Int)>1024))=true then
   (some ((decide ((v1.length:Int)≤1026))))
  else
   (some (false)))
noncomputable def fL(v1:(List (Nat×Nat))):((List (Nat×Nat))×Int)→Option (((List (Nat×Nat))×Int) ⊕ (((List (Nat×Nat))))):=fun (v3,v4) =>
 if (decide (v4<(v1.length:Int)))=true then
  ((bR v1 v4).bind fun (v9,v10) =>
  (iP 8 v3 ([(v9,v10)]:List (Nat×Nat))).bind fun v11 =>
  some (.inl (v11,(IntKind.i64.wrap (v4+1)))))
 else
  (some (.inr v3))
noncomputable def eN(v1:(List (Nat×Nat))):Option ((List (Nat×Nat))):=
 (run (fL v1) (([]:List (Nat×Nat)),0)).bind fun v12 =>
 some (v12)
noncomputable def eF(v1:(List (Nat×Nat))):Option ((List (Nat×Nat))):=
 some (v1)
noncomputable def aD(v1:Bool)(v2:Int):Option (Bool×Int):=
 some (v1,v2)
noncomputable def fA(v1:Int)(v2:Int)(v3:Int):Option (Bool×Int):=
 if (decide (v1<v2))=true then
  ((aD true 2).bind fun (v6,v7) =>
  some (v6,v7))
 else
  ((aD (decide (v1>v3)) 2).bind fun (v8,v9) =>
  some (v8,v9))
noncomputable def gL(v1:Int)(v2:(List (Nat×Nat))):Option (Int×(List (Nat×Nat))):=
 some (v1,v2)
noncomputable def gK(v1:Int)(v2:(List (Nat×Nat))):Option (Int×(List (Nat×Nat))):=
 some (v1,v2)
noncomputable def aA(v1:Bool)(v2:Int):Option (Int):=
 if v1=true then
  (some (v2))
 else
  (some (0))
noncomputable def gV(v1:Nat):Option (Nat):=
 (trI .zero v1).bind fun v3 =>
 some (v3)
noncomputable def qE(v1:Nat):Option (Nat):=
 (fbits .f64 v1).bind fun v3 =>
 some (((yS .andNot .u64 v3 9223372036854775808)).toNat)
noncomputable def iU(v1:Nat)(v2:Int):Option (Bool):=
 if (decide (v2=0))=true then
  ((qE v1).bind fun v4 =>
  some ((fcmp .gtr .f64 v4 9218868437227405311)))
 else
  (if (decide (v2<0))=true then
   (some ((fcmp .gtr .f64 (Op.negFloat .f64 v1) 9218868437227405311)))
  else
   (some ((fcmp .gtr .f64 v1 9218868437227405311))))
noncomputable def eS(v1:Nat):Option (Bool):=
 (f2f .f32 v1 .f64).bind fun v3 =>
 (gV v3).bind fun v4 =>
 if (fcmp .eql .f64 v3 v4)=true then
  ((iU v3 0).bind fun v5 =>
  some ((!v5)))
 else
  (some (false))
noncomputable def aM(v1:Nat)(v2:Nat):Option (Bool):=
 if (fcmp .leq .f32 (Op.negFloat .f32 v2) v1)=true then
  (some ((fcmp .leq .f32 v1 v2)))
 else
  (some (false))
noncomputable def aN(v1:Bool)(v2:Int)(v3:Bool)(v4:Int):Option (Int):=
 (aA v1 v2).bind fun v6 =>
 if (decide (v6≠0))=true then
  (some (v6))
 else
  ((aA v3 v4).bind fun v7 =>
  if (decide (v7≠0))=true then
   (some (v7))
  else
   (some (0)))
noncomputable def gH(v1:Nat)(v2:Nat):Option (Int):=
 (eS v1).bind fun v4 =>
 if v4=true then
  ((eS v2).bind fun v5 =>
  (aD (!v5) 27).bind fun (v6,v7) =>
  (aM v1 1266679808).bind fun v8 =>
  if v8=true then
   ((aM v2 1266679808).bind fun v9 =>
   (aD (!v9) 2).bind fun (v10,v11) =>
   (aN v6 v7 v10 v11).bind fun v12 =>
   some (v12))
  else
   ((aD true 2).bind fun (v13,v14) =>
   (aN v6 v7 v13 v14).bind fun v15 =>
   some (v15)))
 else
  ((aD true 27).bind fun (v16,v17) =>
  (aM v1 1266679808).bind fun v18 =>
  if v18=true then
   ((aM v2 1266679808).bind fun v19 =>
   (aD (!v19) 2).bind fun (v20,v21) =>
   (aN v16 v17 v20 v21).bind fun v22 =>
   some (v22))
  else
   ((aD true 2).bind fun (v23,v24) =>
   (aN v16 v17 v23 v24).bind fun v25 =>
   some (v25)))
noncomputable def dG(v1:Int)(v2:(List (Nat×Nat))):Option (Int):=
 (bR v2 v1).bind fun (v4,v5) =>
 (gH v4 v5).bind fun v6 =>
 some (v6)
noncomputable def aT(v1:Int)(v2:(List (Nat×Nat))):(Int)→Option ((Int) ⊕ ((Int) ⊕ (Unit))):=fun v4 =>
 if (decide (v4<v1))=true then
  ((dG v4 v2).bind fun v7 =>
  if (decide (v7≠0))=true then
   (some (.inr (.inl v7)))
  else
   (some (.inl (IntKind.i64.wrap (v4+1)))))
 else
  (some (.inr (.inr ())))
noncomputable def fF(v1:Int)(v2:(List (Nat×Nat))):Option (Int):=
 (run (aT v1 v2) 0).bind fun v8=>match v8 with
 | (.inl v9) =>
  some (v9)
 | (.inr _) =>
  some (0)
noncomputable def dU(v1:Bool)(v2:Int)(v3:Bool)(v4:Int)(v5:Int)(v6:(List (Nat×Nat))):Option (Int):=
 (aA v1 v2).bind fun v8 =>
 if (decide (v8≠0))=true then
  (some (v8))
 else
  ((aA v3 v4).bind fun v9 =>
  if (decide (v9≠0))=true then
   (some (v9))
  else
   ((fF v5 v6).bind fun v10 =>
   if (decide (v10≠0))=true then
    (some (v10))
   else
    (some (0))))
noncomputable def aY(v1:(List (Nat×Nat))):Option (Int):=
 (aD (decide ((v1.length:Int)=0)) 10).bind fun (v3,v4) =>
 (aD (decide ((v1.length:Int)>1024)) 8).bind fun (v5,v6) =>
 (gK (v1.length:Int) v1).bind fun (v7,v8) =>
 (dU v3 v4 v5 v6 v7 v8).bind fun v9 =>
 some (v9)
noncomputable def bW(v1:Nat)(v2:Nat):Option (Int×Int):=
 (f2i .f32 v1 .i64).bind fun v5 =>
 (f2i .f32 v2 .i64).bind fun v6 =>
 some (v5,v6)
noncomputable def bP(v1:Int)(v2:Int):Option (Bool):=
 if (decide ((IntKind.i64.wrap (0-v2))≤v1))=true then
  (some ((decide (v1≤v2))))
 else
  (some (false))
noncomputable def bK(v1:Int)(v2:Int)(v3:Int):Option (Bool×Int):=
 (bP v1 v3).bind fun v6 =>
 if v6=true then
  ((bP v2 v3).bind fun v7 =>
  (aD (!v7) 8).bind fun (v8,v9) =>
  some (v8,v9))
 else
  ((aD true 8).bind fun (v10,v11) =>
  some (v10,v11))
noncomputable def fC(v1:Int)(v2:(List (Nat×Nat))):Option (Int):=
 (bR v2 v1).bind fun (v4,v5) =>
 (bW v4 v5).bind fun (v6,v7) =>
 (bK v6 v7 32767).bind fun (v8,v9) =>
 (aA v8 v9).bind fun v10 =>
 some (v10)
noncomputable def bQ(v1:Int)(v2:(List (Nat×Nat))):(Int)→Option ((Int) ⊕ ((Int) ⊕ (Unit))):=fun v4 =>
 if (decide (v4<v1))=true then
  ((fC v4 v2).bind fun v7 =>
  if (decide (v7≠0))=true then
   (some (.inr (.inl v7)))
  else
   (some (.inl (IntKind.i64.wrap (v4+1)))))
 else
  (some (.inr (.inr ())))
noncomputable def dP(v1:Int)(v2:(List (Nat×Nat))):Option (Int):=
 (run (bQ v1 v2) 0).bind fun v8=>match v8 with
 | (.inl v9) =>
  some (v9)
 | (.inr _) =>
  some (0)
noncomputable def dT(v1:(List (Nat×Nat)))(v2:Bool)(v3:Int)(v4:Int)(v5:(List (Nat×Nat))):Option (Int):=
 (aY v1).bind fun v7 =>
 if (decide (v7≠0))=true then
  (some (v7))
 else
  ((aA v2 v3).bind fun v8 =>
  if (decide (v8≠0))=true then
   (some (v8))
  else
   ((dP v4 v5).bind fun v9 =>
   if (decide (v9≠0))=true then
    (some (v9))
   else
    (some (0))))
noncomputable def bL(v1:(List (Nat×Nat))):((List (Int×Int))×Int)→Option (((List (Int×Int))×Int) ⊕ (((List (Int×Int))))):=fun (v3,v4) =>
 if (decide (v4<(v1.length:Int)))=true then
  ((bR v1 v4).bind fun (v11,v12) =>
  (bW v11 v12).bind fun (v13,v14) =>
  (iP 16 v3 ([(v13,v14)]:List (Int×Int))).bind fun v15 =>
  some (.inl (v15,(IntKind.i64.wrap (v4+1)))))
 else
  (some (.inr v3))
noncomputable def cN(v1:(List (Nat×Nat))):Option ((List (Int×Int))):=
 (run (bL v1) (([]:List (Int×Int)),0)).bind fun v16 =>
 some (v16)
noncomputable def eP(v14:(List (Int×Int))):((List Nat)×(List Nat)×Int)→Option (((List Nat)×(List Nat)×Int) ⊕ (((List Nat)×(List Nat)))):=fun (v15,v16,v17) =>
 if (decide (v17<(v14.length:Int)))=true then
  ((bR v14 v17).bind fun (v24,v25) =>
  (iP 4 v15 ([(FloatKind.f32.nearest v24)]:List Nat)).bind fun v26 =>
  (iP 4 v16 ([(FloatKind.f32.nearest v25)]:List Nat)).bind fun v27 =>
  some (.inl (v26,v27,(IntKind.i64.wrap (v17+1)))))
 else
  (some (.inr (v15,v16)))
noncomputable def iM(v1:(List (Nat×Nat)))(v2:Int):Option (Int×(List Nat)×Int×(List Nat)×Int):=
 (eF v1).bind fun v8 =>
 (fA v2 8000 192000).bind fun (v9,v10) =>
 (gL (v1.length:Int) v1).bind fun (v11,v12) =>
 (dT v8 v9 v10 v11 v12).bind fun v13 =>
 if (decide (v13≠0))=true then
  (some (0,([]:List Nat),0,([]:List Nat),v13))
 else
  ((cN v1).bind fun v14 =>
  (run (eP v14) (([]:List Nat),([]:List Nat),0)).bind fun (v28,v29) =>
  some (v2,v28,v2,v29,0))
noncomputable def bX(v1:Nat):Option (Bool):=
 if (fcmp .neq .f64 v1 v1)=true then
  (some (false))
 else
  ((farith .sub .f64 v1 v1).bind fun v3 =>
  if (fcmp .neq .f64 v3 0)=true then
   (some (false))
  else
   (if (fcmp .geq .f64 v1 14069741636278059008)=true then
    (if (fcmp .leq .f64 v1 4846369599423283200)=true then
     ((f2i .f64 v1 .i64).bind fun v4 =>
     some ((fcmp .eql .f64 (FloatKind.f64.nearest v4) v1)))
    else
     (some (true)))
   else
    (some (true))))
noncomputable def cU(v1:(List (Nat×Nat))):(Int)→Option ((Int) ⊕ ((Int) ⊕ (Unit))):=fun v3 =>
 if (decide (v3<(v1.length:Int)))=true then
  ((bR v1 v3).bind fun (v11,v12) =>
  (f2f .f32 v11 .f64).bind fun v13 =>
  (f2f .f32 v12 .f64).bind fun v14 =>
  (bX v13).bind fun v15 =>
  if v15=true then
   ((bX v14).bind fun v16 =>
   if v16=true then
    (if (fcmp .gtr .f64 v13 4715268809856909312)=true then
     (some (.inr (.inl 2)))
    else
     (if (fcmp .lss .f64 v13 13938640846711685120)=true then
      (some (.inr (.inl 2)))
     else
      (if (fcmp .gtr .f64 v14 4715268809856909312)=true then
       (some (.inr (.inl 2)))
      else
       (if (fcmp .lss .f64 v14 13938640846711685120)=true then
        (some (.inr (.inl 2)))
       else
        (some (.inl (IntKind.i64.wrap (v3+1))))))))
   else
    (some (.inr (.inl 27))))
  else
   (some (.inr (.inl 27))))
 else
  (some (.inr (.inr ())))
noncomputable def dL(v1:(List (Nat×Nat))):Option (Int):=
 if (decide ((v1.length:Int)=0))=true then
  (some (10))
 else
  (if (decide ((v1.length:Int)>1024))=true then
   (some (8))
  else
   ((run (cU v1) 0).bind fun v17=>match v17 with
   | (.inl v18) =>
    some (v18)
   | (.inr _) =>
    some (0)))
noncomputable def cY(v1:Int)(v2:Int)(v3:Int):Option (Bool):=
 if (decide (v2≤v1))=true then
  (some ((decide (v1≤v3))))
 else
  (some (false))
noncomputable def fR(v1:(List (Nat×Nat))):((List (Int×Int))×Int)→Option (((List (Int×Int))×Int) ⊕ (((List (Int×Int))))):=fun (v3,v4) =>
 if (decide (v4<(v1.length:Int)))=true then
  ((bR v1 v4).bind fun (v11,v12) =>
  (f2i .f32 v11 .i64).bind fun v13 =>
  (f2i .f32 v12 .i64).bind fun v14 =>
  (iP 16 v3 ([(v13,v14)]:List (Int×Int))).bind fun v15 =>
  some (.inl (v15,(IntKind.i64.wrap (v4+1)))))
 else
  (some (.inr v3))
noncomputable def eY(v1:(List (Nat×Nat))):Option ((List (Int×Int))):=
 (run (fR v1) (([]:List (Int×Int)),0)).bind fun v16 =>
 some (v16)
noncomputable def fM(v1:(List (Int×Int)))(v2:Int):((List Int)×Int)→Option (((List Int)×Int) ⊕ (((List Int)))):=fun (v4,v5) =>
 if (decide (v5<(v1.length:Int)))=true then
  ((bR v1 v5).bind fun (v11,v12) =>
  (bR ([v11,v12]:List Int) v2).bind fun v13 =>
  (iP 8 v4 ([v13]:List Int)).bind fun v14 =>
  some (.inl (v14,(IntKind.i64.wrap (v5+1)))))
 else
  (some (.inr v4))
noncomputable def fX(v1:(List (Int×Int)))(v2:Int):Option ((List Int)):=
 (run (fM v1 v2) (([]:List Int),0)).bind fun v15 =>
 some (v15)
noncomputable def dF(v1:(List Int))(v2:Int):(Int)→Option ((Int) ⊕ ((Unit) ⊕ (Unit))):=fun v4 =>
 if (decide (v4<(v1.length:Int)))=true then
  ((bR v1 v4).bind fun v7 =>
  (cY v7 (IntKind.i64.wrap (0-v2)) v2).bind fun v8 =>
  if v8=true then
   (some (.inl (IntKind.i64.wrap (v4+1))))
  else
   (some (.inr (.inl ()))))
 else
  (some (.inr (.inr ())))
noncomputable def eW(v1:(List Int))(v2:Int):Option (Int):=
 (run (dF v1 v2) 0).bind fun v9=>match v9 with
 | (.inl _) =>
  some (2)
 | (.inr _) =>
  some (0)
noncomputable def eT(v11:(List Int)):((List Nat)×Int)→Option (((List Nat)×Int) ⊕ (((List Nat)))):=fun (v13,v14) =>
 if (decide (v14<(v11.length:Int)))=true then
  ((bR v11 v14).bind fun v18 =>
  (iP 4 v13 ([(FloatKind.f32.nearest v18)]:List Nat)).bind fun v19 =>
  some (.inl (v19,(IntKind.i64.wrap (v14+1)))))
 else
  (some (.inr v13))
noncomputable def eQ(v21:(List Int)):((List Nat)×Int)→Option (((List Nat)×Int) ⊕ (((List Nat)))):=fun (v23,v24) =>
 if (decide (v24<(v21.length:Int)))=true then
  ((bR v21 v24).bind fun v28 =>
  (iP 4 v23 ([(FloatKind.f32.nearest v28)]:List Nat)).bind fun v29 =>
  some (.inl (v29,(IntKind.i64.wrap (v24+1)))))
 else
  (some (.inr v23))
noncomputable def iY:(Unit)→Option ((Unit) ⊕ ((Unit))):=fun _ =>
 some (.inr ())
noncomputable def iN(v1:(List (Nat×Nat)))(v2:Int):Option (Int×(List Nat)×Int×(List Nat)×Int):=
 (dL v1).bind fun v8 =>
 if (decide (v8≠0))=true then
  (some (0,([]:List Nat),0,([]:List Nat),v8))
 else
  ((cY v2 8000 192000).bind fun v9 =>
  if v9=true then
   ((eY v1).bind fun v10 =>
   (fX v10 0).bind fun v11 =>
   (eW v11 32767).bind fun v12 =>
   if (decide (v12≠0))=true then
    (some (0,([]:List Nat),0,([]:List Nat),8))
   else
    ((run (eT v11) (([]:List Nat),0)).bind fun v20 =>
    (fX v10 1).bind fun v21 =>
    (eW v21 32767).bind fun v22 =>
    if (decide (v22≠0))=true then
     (some (0,([]:List Nat),0,([]:List Nat),8))
    else
     ((run (eQ v21) (([]:List Nat),0)).bind fun v30 =>
     (run (iY) ()).bind fun _ =>
     some (v2,v20,v2,v30,0))))
  else
   (some (0,([]:List Nat),0,([]:List Nat),2)))
noncomputable def cS(v1:(List Nat))(v2:(List Nat)):(Int)→Option ((Int) ⊕ ((Unit) ⊕ (Unit))):=fun v4 =>
 if (decide (v4<(v1.length:Int)))=true then
  ((bR v1 v4).bind fun v9 =>
  (fbits .f32 v9).bind fun v10 =>
  (bR v2 v4).bind fun v11 =>
  (fbits .f32 v11).bind fun v12 =>
  if (decide (v10≠v12))=true then
   (some (.inr (.inl ())))
  else
   (some (.inl (IntKind.i64.wrap (v4+1)))))
 else
  (some (.inr (.inr ())))
noncomputable def fJ(v1:(List Nat))(v2:(List Nat)):Option (Bool):=
 if (decide ((v1.length:Int)≠(v2.length:Int)))=true then
  (some (false))
 else
  ((run (cS v1 v2) 0).bind fun v13=>match v13 with
  | (.inl _) =>
   some (false)
  | (.inr _) =>
   some (true))
noncomputable def aQ(v1:Int)(v2:(List Nat))(v3:Int)(v4:(List Nat)):Option (Bool):=
 if (decide (v1=v3))=true then
  ((fJ v2 v4).bind fun v6 =>
  some (v6))
 else
  (some (false))
noncomputable def gN(v1:Int)(v2:(List (List (Nat×Nat)))):Option (Int×(List (List (Nat×Nat)))):=
 some (v1,v2)
noncomputable def dS(v1:(List (Nat×Nat)))(v2:Bool)(v3:Int):Option (Int):=
 (aY v1).bind fun v5 =>
 if (decide (v5≠0))=true then
  (some (v5))
 else
  ((aA v2 v3).bind fun v6 =>
  if (decide (v6≠0))=true then
   (some (v6))
  else
   (some (0)))
noncomputable def dJ(v1:Int)(v2:(List (List (Nat×Nat)))):Option (Int):=
 (bR v2 v1).bind fun v4 =>
 (eF v4).bind fun v5 =>
 (bR v2 0).bind fun v6 =>
 (aD (decide ((v4.length:Int)≠(v6.length:Int))) 13).bind fun (v7,v8) =>
 (dS v5 v7 v8).bind fun v9 =>
 some (v9)
noncomputable def bE(v1:Int)(v2:(List (List (Nat×Nat)))):(Int)→Option ((Int) ⊕ ((Int) ⊕ (Unit))):=fun v4 =>
 if (decide (v4<v1))=true then
  ((dJ v4 v2).bind fun v7 =>
  if (decide (v7≠0))=true then
   (some (.inr (.inl v7)))
  else
   (some (.inl (IntKind.i64.wrap (v4+1)))))
 else
  (some (.inr (.inr ())))
noncomputable def fG(v1:Int)(v2:(List (List (Nat×Nat)))):Option (Int):=
 (run (bE v1 v2) 0).bind fun v8=>match v8 with
 | (.inl v9) =>
  some (v9)
 | (.inr _) =>
  some (0)
noncomputable def cQ(v1:Bool)(v2:Int)(v3:Bool)(v4:Int)(v5:Int)(v6:(List (List (Nat×Nat)))):Option (Int):=
 (aA v1 v2).bind fun v8 =>
 if (decide (v8≠0))=true then
  (some (v8))
 else
  ((aA v3 v4).bind fun v9 =>
  if (decide (v9≠0))=true then
   (some (v9))
  else
   ((fG v5 v6).bind fun v10 =>
   if (decide (v10≠0))=true then
    (some (v10))
   else
    (some (0))))
noncomputable def eH(v1:Int)(v2:Int)(v3:Int)(v4:Int):Option (Int×Int):=
 some ((IntKind.i64.wrap (v1+v3)),(IntKind.i64.wrap (v2+v4)))
noncomputable def iE(v1:Int)(v2:Int):Option (Int):=
 if v2=0 then none else
 (some (((IntKind.i64.wrap ((v1.tmod v2)+v2)).tmod v2)))
noncomputable def jE(v1:Int)(v2:Int):Option (Int):=
 (iE v1 v2).bind fun v4 =>
 if v2=0 then none else
 (some ((IntKind.i64.wrap ((IntKind.i64.wrap (v1-v4)).tdiv v2))))
noncomputable def eR(v1:Int)(v2:Int):Option (Int):=
 (jE (IntKind.i64.wrap ((IntKind.i64.wrap (2*v1))+v2)) (IntKind.i64.wrap (2*v2))).bind fun v4 =>
 some (v4)
noncomputable def gM(v1:Int)(v2:(List (Int×Int))):Option (Int×(List (Int×Int))):=
 some (v1,v2)
noncomputable def dK(v1:Int)(v2:(List (Int×Int))):Option (Int):=
 (bR v2 v1).bind fun (v4,v5) =>
 (bK v4 v5 16777216).bind fun (v6,v7) =>
 (aA v6 v7).bind fun v8 =>
 some (v8)
noncomputable def bF(v1:Int)(v2:(List (Int×Int))):(Int)→Option ((Int) ⊕ ((Int) ⊕ (Unit))):=fun v4 =>
 if (decide (v4<v1))=true then
  ((dK v4 v2).bind fun v7 =>
  if (decide (v7≠0))=true then
   (some (.inr (.inl v7)))
  else
   (some (.inl (IntKind.i64.wrap (v4+1)))))
 else
  (some (.inr (.inr ())))
noncomputable def fE(v1:Int)(v2:(List (Int×Int))):Option (Int):=
 (run (bF v1 v2) 0).bind fun v8=>match v8 with
 | (.inl v9) =>
  some (v9)
 | (.inr _) =>
  some (0)
noncomputable def cL(v1:(List (Int×Int))):((List (Nat×Nat))×Int)→Option (((List (Nat×Nat))×Int) ⊕ (((List (Nat×Nat))))):=fun (v7,v8) =>
 if (decide (v8<(v1.length:Int)))=true then
  ((bR v1 v8).bind fun (v13,v14) =>
  (iP 8 v7 ([((FloatKind.f32.nearest v13),(FloatKind.f32.nearest v14))]:List (Nat×Nat))).bind fun v15 =>
  some (.inl (v15,(IntKind.i64.wrap (v8+1)))))
 else
  (some (.inr v7))
noncomputable def eX(v1:(List (Int×Int))):Option ((List (Nat×Nat))×Int):=
 (gM (v1.length:Int) v1).bind fun (v4,v5) =>
 (fE v4 v5).bind fun v6 =>
 if (decide (v6≠0))=true then
  (some (([]:List (Nat×Nat)),v6))
 else
  ((run (cL v1) (([]:List (Nat×Nat)),0)).bind fun v16 =>
  some (v16,0))
noncomputable def cA(v1:(List (List (Nat×Nat))))(v14:Int):(Int×Int×Int)→Option ((Int×Int×Int) ⊕ ((Int×Int))):=fun (v41,v42,v43) =>
 if (decide (v43<(v1.length:Int)))=true then
  ((bR v1 v43).bind fun v53 =>
  (bR v53 v14).bind fun (v54,v55) =>
  (bW v54 v55).bind fun (v56,v57) =>
  (eH v41 v42 v56 v57).bind fun (v58,v59) =>
  some (.inl (v58,v59,(IntKind.i64.wrap (v43+1)))))
 else
  (some (.inr (v41,v42)))
noncomputable def cJ(v1:(List (List (Nat×Nat))))(v12:(List (Int×Int))):((List (Int×Int))×Int)→Option (((List (Int×Int))×Int) ⊕ (((List (Int×Int))))):=fun (v13,v14) =>
 if (decide (v14<(v12.length:Int)))=true then
  ((run (cA v1 v14) (0,0,0)).bind fun (v60,v61) =>
  (eR v60 (v1.length:Int)).bind fun v62 =>
  (eR v61 (v1.length:Int)).bind fun v63 =>
  (bR v13 v14).bind fun (v64,v65) =>
  some (.inl ((v13.set v14.toNat (v62,v63)),(IntKind.i64.wrap (v14+1)))))
 else
  (some (.inr v13))
noncomputable def dC(v1:(List (List (Nat×Nat)))):Option ((List (Nat×Nat))×Int):=
 (aD (decide ((v1.length:Int)=0)) 10).bind fun (v4,v5) =>
 (aD (decide ((v1.length:Int)>32)) 8).bind fun (v6,v7) =>
 (gN (v1.length:Int) v1).bind fun (v8,v9) =>
 (cQ v4 v5 v6 v7 v8 v9).bind fun v10 =>
 if (decide (v10≠0))=true then
  (some (([]:List (Nat×Nat)),v10))
 else
  ((bR v1 0).bind fun v11 =>
  (mkI 16 (v11.length:Int) ((0,0):(Int×Int))).bind fun v12 =>
  (run (cJ v1 v12) (v12,0)).bind fun v66 =>
  (eX v66).bind fun (v67,v68) =>
  some (v67,v68))
noncomputable def fS(v1:Int)(v2:Int):Option (Int):=
 if v2=0 then none else
 (if (decide ((v1.tmod v2)<0))=true then
  (some ((IntKind.i64.wrap ((IntKind.i64.wrap (v1.tdiv v2))-1))))
 else
  (some ((IntKind.i64.wrap (v1.tdiv v2)))))
noncomputable def mE(v1:Int):Option (Int):=
 some ((if (IntKind.i64.wrap (0-v1))>v1 then (IntKind.i64.wrap (0-v1)) else v1))
noncomputable def bA(v1:(List (Int×Int))):((List (Nat×Nat))×Int)→Option (((List (Nat×Nat))×Int) ⊕ ((Unit) ⊕ ((List (Nat×Nat))))):=fun (v4,v5) =>
 if (decide (v5<(v1.length:Int)))=true then
  ((bR v1 v5).bind fun (v12,v13) =>
  (mE v12).bind fun v14 =>
  if (decide (v14>16777216))=true then
   (some (.inr (.inl ())))
  else
   ((mE v13).bind fun v15 =>
   if (decide (v15>16777216))=true then
    (some (.inr (.inl ())))
   else
    ((iP 8 v4 ([((FloatKind.f32.nearest v12),(FloatKind.f32.nearest v13))]:List (Nat×Nat))).bind fun v16 =>
    some (.inl (v16,(IntKind.i64.wrap (v5+1)))))))
 else
  (some (.inr (.inr v4)))
noncomputable def jA(v1:(List (Int×Int))):Option ((List (Nat×Nat))×Bool):=
 (run (bA v1) (([]:List (Nat×Nat)),0)).bind fun v17=>match v17 with
 | (.inl _) =>
  some (([]:List (Nat×Nat)),false)
 | (.inr v18) =>
  some (v18,true)
noncomputable def iQ(v1:(List (Int×Int))):Option ((List (Nat×Nat))×Int):=
 (jA v1).bind fun (v4,v5) =>
 if v5=true then
  (some (v4,0))
 else
  (some (([]:List (Nat×Nat)),8))
noncomputable def bZ(v1:(List (List (Nat×Nat)))):(Int)→Option ((Int) ⊕ ((Int) ⊕ (Unit))):=fun v4 =>
 if (decide (v4<(v1.length:Int)))=true then
  ((bR v1 v4).bind fun v9 =>
  (dL v9).bind fun v10 =>
  if (decide (v10≠0))=true then
   (some (.inr (.inl v10)))
  else
   ((bR v1 0).bind fun v11 =>
   if (decide ((v9.length:Int)≠(v11.length:Int)))=true then
    (some (.inr (.inl 13)))
   else
    (some (.inl (IntKind.i64.wrap (v4+1))))))
 else
  (some (.inr (.inr ())))
noncomputable def cB(v34:(List (Int×Int))):((List (Int×Int))×Int)→Option (((List (Int×Int))×Int) ⊕ (((List (Int×Int))))):=fun (v35,v36) =>
 if (decide (v36<(v34.length:Int)))=true then
  ((bR v35 v36).bind fun (v42,v43) =>
  (bR v34 v36).bind fun (v44,v45) =>
  some (.inl ((v35.set v36.toNat ((IntKind.i64.wrap (v42+v44)),(IntKind.i64.wrap (v43+v45)))),(IntKind.i64.wrap (v36+1)))))
 else
  (some (.inr v35))
noncomputable def cG(v1:(List (List (Nat×Nat)))):((List (Int×Int))×Int)→Option (((List (Int×Int))×Int) ⊕ (((List (Int×Int))))):=fun (v16,v17) =>
 if (decide (v17<(v1.length:Int)))=true then
  ((bR v1 v17).bind fun v33 =>
  (eY v33).bind fun v34 =>
  (run (cB v34) (v16,0)).bind fun v46 =>
  some (.inl (v46,(IntKind.i64.wrap (v17+1)))))
 else
  (some (.inr v16))
noncomputable def bY(v1:(List (List (Nat×Nat)))):((List (Int×Int))×Int)→Option (((List (Int×Int))×Int) ⊕ (((List (Int×Int))))):=fun (v48,v49) =>
 if (decide (v49<(v48.length:Int)))=true then
  ((bR v48 v49).bind fun (v55,v56) =>
  (fS (IntKind.i64.wrap ((IntKind.i64.wrap (2*v55))+(v1.length:Int))) (IntKind.i64.wrap (2*(v1.length:Int)))).bind fun v57 =>
  (fS (IntKind.i64.wrap ((IntKind.i64.wrap (2*v56))+(v1.length:Int))) (IntKind.i64.wrap (2*(v1.length:Int)))).bind fun v58 =>
  some (.inl ((v48.set v49.toNat (v57,v58)),(IntKind.i64.wrap (v49+1)))))
 else
  (some (.inr v48))
noncomputable def cZ(v1:(List (List (Nat×Nat)))):Option ((List (Nat×Nat))×Int):=
 if (decide ((v1.length:Int)=0))=true then
  (some (([]:List (Nat×Nat)),10))
 else
  (if (decide ((v1.length:Int)>32))=true then
   (some (([]:List (Nat×Nat)),8))
  else
   ((run (bZ v1) 0).bind fun v12=>match v12 with
   | (.inl v13) =>
    some (([]:List (Nat×Nat)),v13)
   | (.inr _) =>
    (bR v1 0).bind fun v14 =>
    (mkI 16 (v14.length:Int) ((0,0):(Int×Int))).bind fun v15 =>
    (run (cG v1) (v15,0)).bind fun v47 =>
    (run (bY v1) (v47,0)).bind fun v59 =>
    (iQ v59).bind fun (v60,v61) =>
    some (v60,v61)))
noncomputable def iX(v1:Nat)(v2:Nat)(v3:Nat)(v4:Nat):Option (Bool):=
 (fbits .f64 v1).bind fun v6 =>
 (fbits .f64 v3).bind fun v7 =>
 if (decide (v6=v7))=true then
  ((fbits .f64 v2).bind fun v8 =>
  (fbits .f64 v4).bind fun v9 =>
  some ((decide (v8=v9))))
 else
  (some (false))
noncomputable def cM(v1:(List (Nat×Nat)))(v2:(List (Nat×Nat))):(Int)→Option ((Int) ⊕ ((Unit) ⊕ (Unit))):=fun v4 =>
 if (decide (v4<(v1.length:Int)))=true then
  ((bR v1 v4).bind fun (v14,v15) =>
  (f2f .f32 v14 .f64).bind fun v16 =>
  (f2f .f32 v15 .f64).bind fun v17 =>
  (bR v2 v4).bind fun (v18,v19) =>
  (f2f .f32 v18 .f64).bind fun v20 =>
  (f2f .f32 v19 .f64).bind fun v21 =>
  (iX v16 v17 v20 v21).bind fun v22 =>
  if v22=true then
   (some (.inl (IntKind.i64.wrap (v4+1))))
  else
   (some (.inr (.inl ()))))
 else
  (some (.inr (.inr ())))
noncomputable def bB(v1:(List (Nat×Nat)))(v2:(List (Nat×Nat))):Option (Bool):=
 if (decide ((v1.length:Int)≠(v2.length:Int)))=true then
  (some (false))
 else
  ((run (cM v1 v2) 0).bind fun v23=>match v23 with
  | (.inl _) =>
   some (false)
  | (.inr _) =>
   some (true))
noncomputable def bC(v1:(List (List (Nat×Nat))))(v2:Int):((List (List (Nat×Nat)))×Int)→Option (((List (List (Nat×Nat)))×Int) ⊕ ((Bool) ⊕ ((List (List (Nat×Nat)))))):=fun (v4,v5) =>
 if (decide (v5<(v1.length:Int)))=true then
  ((bR v1 v5).bind fun v26 =>
  (eD v26).bind fun v27 =>
  if v27=true then
   ((eN v26).bind fun v28 =>
   (iP 24 v4 ([v28]:List (List (Nat×Nat)))).bind fun v29 =>
   (eN v26).bind fun v30 =>
   (iM v30 v2).bind fun (v31,v32,v33,v34,v35) =>
   (eN v26).bind fun v36 =>
   (iN v36 v2).bind fun (v37,v38,v39,v40,v41) =>
   if (decide (v35≠v41))=true then
    (some (.inr (.inl false)))
   else
    ((aQ v31 v32 v37 v38).bind fun v42 =>
    if v42=true then
     ((aQ v33 v34 v39 v40).bind fun v43 =>
     if v43=true then
      (some (.inl (v29,(IntKind.i64.wrap (v5+1)))))
     else
      (some (.inr (.inl false))))
    else
     (some (.inr (.inl false)))))
  else
   (some (.inr (.inl true))))
 else
  (some (.inr (.inr v4)))
noncomputable def bD(v1:(List (List (Nat×Nat))))(v2:Int):((List (List (Nat×Nat)))×Int)→Option (((List (List (Nat×Nat)))×Int) ⊕ ((Bool) ⊕ ((List (List (Nat×Nat)))))):=fun (v52,v53) =>
 if (decide (v53<(v1.length:Int)))=true then
  ((bR v1 v53).bind fun v74 =>
  (eD v74).bind fun v75 =>
  if v75=true then
   ((eN v74).bind fun v76 =>
   (iP 24 v52 ([v76]:List (List (Nat×Nat)))).bind fun v77 =>
   (eN v74).bind fun v78 =>
   (iM v78 v2).bind fun (v79,v80,v81,v82,v83) =>
   (eN v74).bind fun v84 =>
   (iN v84 v2).bind fun (v85,v86,v87,v88,v89) =>
   if (decide (v83≠v89))=true then
    (some (.inr (.inl false)))
   else
    ((aQ v79 v80 v85 v86).bind fun v90 =>
    if v90=true then
     ((aQ v81 v82 v87 v88).bind fun v91 =>
     if v91=true then
      (some (.inl (v77,(IntKind.i64.wrap (v53+1)))))
     else
      (some (.inr (.inl false))))
    else
     (some (.inr (.inl false)))))
  else
   (some (.inr (.inl true))))
 else
  (some (.inr (.inr v52)))
noncomputable def fZ(v1:(List (List (Nat×Nat))))(v2:Int):Option Bool:=
 if (decide ((v1.length:Int)>4))=true then
  (if (decide ((v1.length:Int)≤32))=true then
   (some (true))
  else
   (if (decide ((v1.length:Int)>34))=true then
    (some (true))
   else
    ((run (bC v1 v2) (([]:List (List (Nat×Nat))),0)).bind fun v44=>match v44 with
    | (.inl v45) =>
     some (v45)
    | (.inr v46) =>
     (dC v46).bind fun (v47,v48) =>
     (cZ v46).bind fun (v49,v50) =>
     if (decide (v48=v50))=true then
      ((bB v47 v49).bind fun v51 =>
      some (v51))
     else
      (some (false)))))
 else
  (if (decide ((v1.length:Int)>34))=true then
   (some (true))
  else
   ((run (bD v1 v2) (([]:List (List (Nat×Nat))),0)).bind fun v92=>match v92 with
   | (.inl v93) =>
    some (v93)
   | (.inr v94) =>
    (dC v94).bind fun (v95,v96) =>
    (cZ v94).bind fun (v97,v98) =>
    if (decide (v96=v98))=true then
     ((bB v95 v97).bind fun v99 =>
     some (v99))
    else
     (some (false))))
noncomputable def bJ(v1:Nat):Option (Bool):=
 (f2f .f32 v1 .f64).bind fun v3 =>
 (gV v3).bind fun v4 =>
 if (fcmp .eql .f64 v3 v4)=true then
  ((iU v3 0).bind fun v5 =>
  some ((!v5)))
 else
  (some (false))
noncomputable def eU(v1:Bool)(v2:Int):Option (Int):=
 if v1=true then
  (some (v2))
 else
  (some (0))
noncomputable def nJ(v1:(List Int)):(Int)→Option ((Int) ⊕ ((Int) ⊕ (Unit))):=fun v3 =>
 if (decide (v3<(v1.length:Int)))=true then
  ((bR v1 v3).bind fun v6 =>
  if (decide (v6≠0))=true then
   (some (.inr (.inl v6)))
  else
   (some (.inl (IntKind.i64.wrap (v3+1)))))
 else
  (some (.inr (.inr ())))
noncomputable def fP(v1:(List Int)):Option (Int):=
 (run (nJ v1) 0).bind fun v7=>match v7 with
 | (.inl v8) =>
  some (v8)
 | (.inr _) =>
  some (0)
noncomputable def pV(v1:Nat):Option (Int):=
 (bJ v1).bind fun v3 =>
 (eU (!v3) 27).bind fun v4 =>
 if (fcmp .lss .f32 v1 3338665472)=true then
  ((eU true 2).bind fun v5 =>
  (fP ([v4,v5]:List Int)).bind fun v6 =>
  some (v6))
 else
  ((eU (fcmp .gtr .f32 v1 1191181824) 2).bind fun v7 =>
  (fP ([v4,v7]:List Int)).bind fun v8 =>
  some (v8))
noncomputable def kZ(v1:Int)(v2:Int)(v3:Int):Option (Int):=
 if (decide (v1<v2))=true then
  ((eU true 2).bind fun v5 =>
  some (v5))
 else
  ((eU (decide (v1>v3)) 2).bind fun v6 =>
  some (v6))
noncomputable def rZ(v1:Int):Option (Int):=
 (kZ v1 8000 192000).bind fun v3 =>
 some (v3)
noncomputable def lU(v2:(List Nat)):(Int)→Option ((Int) ⊕ ((Int×Int) ⊕ (Unit))):=fun v9 =>
 if (decide (v9<(v2.length:Int)))=true then
  ((bR v2 v9).bind fun v14 =>
  (pV v14).bind fun v15 =>
  if (decide (v15≠0))=true then
   (some (.inr (.inl (v9,v15))))
  else
   (some (.inl (IntKind.i64.wrap (v9+1)))))
 else
  (some (.inr (.inr ())))
noncomputable def oR(v1:Int)(v2:(List Nat)):Option (Int×Int):=
 (rZ v1).bind fun v5 =>
 (eU (decide ((v2.length:Int)=0)) 10).bind fun v6 =>
 (eU (decide ((v2.length:Int)>1024)) 8).bind fun v7 =>
 (fP ([v5,v6,v7]:List Int)).bind fun v8 =>
 if (decide (v8≠0))=true then
  (some (0,v8))
 else
  ((run (lU v2) 0).bind fun v16=>match v16 with
  | (.inl (v17,v18)) =>
   some (v17,v18)
  | (.inr _) =>
   some (0,0))
noncomputable def Gd(v1:Int)(v2:(List Nat))(v3:Int)(v4:Int):Option (Int×Int):=
 (oR v1 v2).bind fun (v7,v8) =>
 if (decide (v8≠0))=true then
  (some (v7,v8))
 else
  ((kZ v3 0 32767).bind fun v9 =>
  (kZ v4 0 1000000000000).bind fun v10 =>
  (fP ([v9,v10]:List Int)).bind fun v11 =>
  some (0,v11))
noncomputable def zN(v1:Int):Option (Bool):=
 (cY v1 8000 192000).bind fun v3 =>
 some (v3)
noncomputable def mG(v2:(List Nat)):(Int)→Option ((Int) ⊕ ((Int×Int) ⊕ (Unit))):=fun v6 =>
 if (decide (v6<(v2.length:Int)))=true then
  ((bR v2 v6).bind fun v12 =>
  (f2f .f32 v12 .f64).bind fun v13 =>
  (bX v13).bind fun v14 =>
  if v14=true then
   (if (fcmp .gtr .f64 v13 4674736138332667904)=true then
    (some (.inr (.inl (v6,2))))
   else
    (if (fcmp .lss .f64 v13 13898108175187443712)=true then
     (some (.inr (.inl (v6,2))))
    else
     (some (.inl (IntKind.i64.wrap (v6+1))))))
  else
   (some (.inr (.inl (v6,27)))))
 else
  (some (.inr (.inr ())))
noncomputable def pE(v1:Int)(v2:(List Nat)):Option (Int×Int):=
 (zN v1).bind fun v5 =>
 if v5=true then
  (if (decide ((v2.length:Int)=0))=true then
   (some (0,10))
  else
   (if (decide ((v2.length:Int)>1024))=true then
    (some (0,8))
   else
    ((run (mG v2) 0).bind fun v15=>match v15 with
    | (.inl (v16,v17)) =>
     some (v16,v17)
    | (.inr _) =>
     some (0,0))))
 else
  (some (0,2))
noncomputable def Hc(v1:Int)(v2:(List Nat))(v3:Int)(v4:Int):Option (Int×Int):=
 (pE v1 v2).bind fun (v7,v8) =>
 if (decide (v8≠0))=true then
  (some (v7,v8))
 else
  ((cY v3 0 32767).bind fun v9 =>
  if v9=true then
   ((cY v4 0 1000000000000).bind fun v10 =>
   if v10=true then
    (some (0,0))
   else
    (some (0,2)))
  else
   (some (0,2)))
noncomputable def wK(v1:(List (Nat×Nat)))(v2:(List (Nat×Nat))):Option (Int):=
 (dL v1).bind fun v4 =>
 if (decide (v4≠0))=true then
  (some (v4))
 else
  ((dL v2).bind fun v5 =>
  some (v5))
noncomputable def lP(v1:Int)(v2:(List Int))(v3:Int):(Int×Int)→Option ((Int×Int) ⊕ ((Int))):=fun (v5,v6) =>
 if (decide (v6<(v2.length:Int)))=true then
  ((bR v2 v6).bind fun v10 =>
  (shI .shr .i64 v3 (IntKind.i64.wrap (v1-v10))).bind fun v11 =>
  some (.inl ((yS .xor .i64 v5 (yS .and .i64 v11 1)),(IntKind.i64.wrap (v6+1)))))
 else
  (some (.inr v5))
noncomputable def jC(v1:Int)(v2:(List Int))(v3:Int):Option (Int):=
 (run (lP v1 v2 v3) (0,0)).bind fun v12 =>
 (shI .shr .i64 v3 1).bind fun v13 =>
 (shI .shl .i64 v12 (IntKind.i64.wrap (v1-1))).bind fun v14 =>
 some ((yS .or .i64 v13 v14))
noncomputable def mS(v1:Int)(v2:(List Int))(v3:Int):Option (Int×Int×(List Int)):=
 some (v3,v1,v2)
noncomputable def hP{X:Type}(H:(Int)→X→Option (Bool×X))(v2:Int)(v3:(List Int)):(Int×X)→Option ((Int×X) ⊕ ((X))):=fun (v5,v6) =>
 (H v5 v6).bind fun (v11,v12) =>
 if v11=true then
  ((jC v2 v3 v5).bind fun v13 =>
  some (.inl (v13,v12)))
 else
  (some (.inr v12))
noncomputable def hH(v1:Int)(v2:Int)(v3:(List Int)){X:Type}(H:(Int)→X→Option (Bool×X))(v4:X):Option X:=
 (run (hP H v2 v3) (v1,v4)).bind fun v14 =>
 some v14
noncomputable def kR(v3:Int):((Int))→(Int)→Option ((Int) ⊕ ((Int))):=fun v12 v9 =>
 if (decide (v12=v3))=true then
  (some (.inr v9))
 else
  (some (.inl (IntKind.i64.wrap (v9+1))))
noncomputable def yP(v1:Int)(v2:(List Int))(v3:Int):Option (Int):=
 (jC v1 v2 v3).bind fun v5 =>
 (mS v1 v2 v5).bind fun (v6,v7,v8) =>
 (hH v6 v7 v8 (hand (kR v3)) (.inl 1)).bind fun v13=>match v13 with
 | .inl v14 =>
  some (v14)
 | .inr v15 =>
  some (v15)
noncomputable def tL(v1:Int)(v2:(List Int))(v3:Int)(v4:Int):Option (Int×(List Int)×Int×Int):=
 some (v1,v2,v3,v4)
noncomputable def tN(v1:(List Int))(v2:Int)(v3:Int):Option (Int×(List Int)×Int×Int):=
 (tL (v1.length:Int) v1 v2 v3).bind fun (v8,v9,v10,v11) =>
 some (v8,v9,v10,v11)
noncomputable def lY(v1:(List Int))(v2:Int):(Int)→Option ((Int) ⊕ ((Int) ⊕ (Unit))):=fun v4 =>
 if (decide (v4<(v1.length:Int)))=true then
  ((bR v1 v4).bind fun v7 =>
  if (decide (v2=v7))=true then
   (some (.inr (.inl v4)))
  else
   (some (.inl (IntKind.i64.wrap (v4+1)))))
 else
  (some (.inr (.inr ())))
noncomputable def oM(v1:(List Int))(v2:Int):Option (Int):=
 (run (lY v1 v2) 0).bind fun v8=>match v8 with
 | (.inl v9) =>
  some (v9)
 | (.inr _) =>
  some ((-1))
noncomputable def lM(v1:(List Int))(v2:Int):Option (Bool):=
 (oM v1 v2).bind fun v4 =>
 some ((decide (v4≥0)))
noncomputable def lN(v1:Int)(v2:(List Int))(v3:Int)(v4:Int):Option (Int):=
 (bR v2 v1).bind fun v6 =>
 (fA v6 v3 v4).bind fun (v7,v8) =>
 if (decide (v1>0))=true then
  ((bR v2 (IntKind.i64.wrap (v1-1))).bind fun v9 =>
  (aD (decide (v6≤v9)) 9).bind fun (v10,v11) =>
  (aN v7 v8 v10 v11).bind fun v12 =>
  some (v12))
 else
  ((aD false 9).bind fun (v13,v14) =>
  (aN v7 v8 v13 v14).bind fun v15 =>
  some (v15))
noncomputable def nE(v1:Int)(v2:(List Int))(v3:Int)(v4:Int):(Int)→Option ((Int) ⊕ ((Int) ⊕ (Unit))):=fun v6 =>
 if (decide (v6<v1))=true then
  ((lN v6 v2 v3 v4).bind fun v9 =>
  if (decide (v9≠0))=true then
   (some (.inr (.inl v9)))
  else
   (some (.inl (IntKind.i64.wrap (v6+1)))))
 else
  (some (.inr (.inr ())))
noncomputable def pX(v1:Int)(v2:(List Int))(v3:Int)(v4:Int):Option (Int):=
 (run (nE v1 v2 v3 v4) 0).bind fun v10=>match v10 with
 | (.inl v11) =>
  some (v11)
 | (.inr _) =>
  some (0)
noncomputable def nF(v1:Bool)(v2:Int)(v3:Bool)(v4:Int)(v5:Int)(v6:(List Int))(v7:Int)(v8:Int)(v9:Bool)(v10:Int):Option (Int):=
 (aA v1 v2).bind fun v12 =>
 if (decide (v12≠0))=true then
  (some (v12))
 else
  ((aA v3 v4).bind fun v13 =>
  if (decide (v13≠0))=true then
   (some (v13))
  else
   ((pX v5 v6 v7 v8).bind fun v14 =>
   if (decide (v14≠0))=true then
    (some (v14))
   else
    ((aA v9 v10).bind fun v15 =>
    if (decide (v15≠0))=true then
     (some (v15))
    else
     (some (0)))))
noncomputable def pG(v1:Int)(v2:(List Int)):Option (Int):=
 (fA v1 2 8).bind fun (v4,v5) =>
 (aD (decide ((v2.length:Int)=0)) 10).bind fun (v6,v7) =>
 (tN v2 1 v1).bind fun (v8,v9,v10,v11) =>
 (lM v2 v1).bind fun v12 =>
 (aD (!v12) 6).bind fun (v13,v14) =>
 (nF v4 v5 v6 v7 v8 v9 v10 v11 v13 v14).bind fun v15 =>
 some (v15)
noncomputable def mT(v1:Int)(v2:(List Int)):(Int)→Option ((Int) ⊕ ((Int) ⊕ (Unit))):=fun v5 =>
 if (decide (v5<(v2.length:Int)))=true then
  ((bR v2 v5).bind fun v10 =>
  (cY v10 1 v1).bind fun v11 =>
  if v11=true then
   (if (decide (v5>0))=true then
    ((bR v2 (IntKind.i64.wrap (v5-1))).bind fun v12 =>
    if (decide (v10≤v12))=true then
     (some (.inr (.inl 9)))
    else
     (some (.inl (IntKind.i64.wrap (v5+1)))))
   else
    (some (.inl (IntKind.i64.wrap (v5+1)))))
  else
   (some (.inr (.inl 2))))
 else
  (some (.inr (.inr ())))
noncomputable def By(v1:Int)(v2:(List Int)):Option (Int):=
 (cY v1 2 8).bind fun v4 =>
 if v4=true then
  (if (decide ((v2.length:Int)=0))=true then
   (some (10))
  else
   ((run (mT v1 v2) 0).bind fun v13=>match v13 with
   | (.inl v14) =>
    some (v14)
   | (.inr _) =>
    (bR v2 (IntKind.i64.wrap ((v2.length:Int)-1))).bind fun v15 =>
    if (decide (v15≠v1))=true then
     (some (6))
    else
     (some (0))))
 else
  (some (2))
noncomputable def zY(v1:Int)(v2:(List Int)):Option (Int):=
 (pG v1 v2).bind fun v4 =>
 some (v4)
noncomputable def vY(v1:(List Int)):Option ((List Int)):=
 (iP 8 ([]:List Int) v1).bind fun v3 =>
 some (v3)
noncomputable def Nn(v1:Int)(v2:(List Int)):Option (Int×(List Int)):=
 (vY v2).bind fun v5 =>
 some (v1,v5)
noncomputable def nD(v1:(List (Nat×Nat)))(v2:(List (Nat×Nat)))(v3:Bool)(v4:Int):Option (Int):=
 (aY v1).bind fun v6 =>
 if (decide (v6≠0))=true then
  (some (v6))
 else
  ((aY v2).bind fun v7 =>
  if (decide (v7≠0))=true then
   (some (v7))
  else
   ((aA v3 v4).bind fun v8 =>
   if (decide (v8≠0))=true then
    (some (v8))
   else
    (some (0))))
noncomputable def pR(v1:Int)(v2:Int)(v3:Int)(v4:Int):Option (Int×Int):=
 some ((IntKind.i64.wrap ((IntKind.i64.wrap (v1*v3))-(IntKind.i64.wrap (v2*v4)))),(IntKind.i64.wrap ((IntKind.i64.wrap (v1*v4))+(IntKind.i64.wrap (v2*v3)))))
noncomputable def vJ(v2:(List (Int×Int)))(v6:Int)(v30:Int)(v31:Int):((List (Int×Int))×Int)→Option (((List (Int×Int))×Int) ⊕ (((List (Int×Int))))):=fun (v32,v33) =>
 if (decide (v33<(v2.length:Int)))=true then
  ((bR v2 v33).bind fun (v43,v44) =>
  (bR v32 (IntKind.i64.wrap (v6+v33))).bind fun (v45,v46) =>
  (pR v30 v31 v43 v44).bind fun (v47,v48) =>
  (eH v45 v46 v47 v48).bind fun (v49,v50) =>
  some (.inl ((v32.set ((IntKind.i64.wrap (v6+v33))).toNat (v49,v50)),(IntKind.i64.wrap (v33+1)))))
 else
  (some (.inr v32))
noncomputable def uV(v1:(List (Int×Int)))(v2:(List (Int×Int))):((List (Int×Int))×Int)→Option (((List (Int×Int))×Int) ⊕ (((List (Int×Int))))):=fun (v5,v6) =>
 if (decide (v6<(v1.length:Int)))=true then
  ((bR v1 v6).bind fun (v30,v31) =>
  (run (vJ v2 v6 v30 v31) (v5,0)).bind fun v51 =>
  some (.inl (v51,(IntKind.i64.wrap (v6+1)))))
 else
  (some (.inr v5))
noncomputable def Bw(v1:(List (Int×Int)))(v2:(List (Int×Int))):Option ((List (Int×Int))):=
 (mkI 16 (IntKind.i64.wrap ((IntKind.i64.wrap ((v1.length:Int)+(v2.length:Int)))-1)) ((0,0):(Int×Int))).bind fun v4 =>
 (run (uV v1 v2) (v4,0)).bind fun v52 =>
 some (v52)
noncomputable def Ly(v1:(List (Nat×Nat)))(v2:(List (Nat×Nat))):Option ((List (Nat×Nat))×Int):=
 (eF v1).bind fun v5 =>
 (eF v2).bind fun v6 =>
 (aD (decide ((IntKind.i64.wrap ((IntKind.i64.wrap ((v1.length:Int)+(v2.length:Int)))-1))>1024)) 8).bind fun (v7,v8) =>
 (nD v5 v6 v7 v8).bind fun v9 =>
 if (decide (v9≠0))=true then
  (some (([]:List (Nat×Nat)),v9))
 else
  ((cN v1).bind fun v10 =>
  (cN v2).bind fun v11 =>
  (Bw v10 v11).bind fun v12 =>
  (eX v12).bind fun (v13,v14) =>
  some (v13,v14))
noncomputable def Bu(v1:Int)(v2:Int)(v3:Int)(v4:Int):Option (Int×Int):=
 some ((IntKind.i64.wrap ((IntKind.i64.wrap (v1*v3))-(IntKind.i64.wrap (v2*v4)))),(IntKind.i64.wrap ((IntKind.i64.wrap (v1*v4))+(IntKind.i64.wrap (v2*v3)))))
noncomputable def vK(v6:(List (Int×Int)))(v7:(List (Int×Int)))(v10:Int):((List (Int×Int))×Int)→Option (((List (Int×Int))×Int) ⊕ (((List (Int×Int))))):=fun (v32,v33) =>
 if (decide (v33<(v7.length:Int)))=true then
  ((bR v6 v10).bind fun (v43,v44) =>
  (bR v7 v33).bind fun (v45,v46) =>
  (Bu v43 v44 v45 v46).bind fun (v47,v48) =>
  (bR v32 (IntKind.i64.wrap (v10+v33))).bind fun (v49,v50) =>
  some (.inl ((v32.set ((IntKind.i64.wrap (v10+v33))).toNat ((IntKind.i64.wrap (v49+v47)),(IntKind.i64.wrap (v50+v48)))),(IntKind.i64.wrap (v33+1)))))
 else
  (some (.inr v32))
noncomputable def vH(v6:(List (Int×Int)))(v7:(List (Int×Int))):((List (Int×Int))×Int)→Option (((List (Int×Int))×Int) ⊕ (((List (Int×Int))))):=fun (v9,v10) =>
 if (decide (v10<(v6.length:Int)))=true then
  ((run (vK v6 v7 v10) (v9,0)).bind fun v51 =>
  some (.inl (v51,(IntKind.i64.wrap (v10+1)))))
 else
  (some (.inr v9))
noncomputable def Mc(v1:(List (Nat×Nat)))(v2:(List (Nat×Nat))):Option ((List (Nat×Nat))×Int):=
 (wK v1 v2).bind fun v5 =>
 if (decide (v5≠0))=true then
  (some (([]:List (Nat×Nat)),v5))
 else
  (if (decide ((IntKind.i64.wrap ((IntKind.i64.wrap ((v1.length:Int)+(v2.length:Int)))-1))>1024))=true then
   (some (([]:List (Nat×Nat)),8))
  else
   ((eY v1).bind fun v6 =>
   (eY v2).bind fun v7 =>
   (mkI 16 (IntKind.i64.wrap ((IntKind.i64.wrap ((v1.length:Int)+(v2.length:Int)))-1)) ((0,0):(Int×Int))).bind fun v8 =>
   (run (vH v6 v7) (v8,0)).bind fun v52 =>
   (iQ v52).bind fun (v53,v54) =>
   some (v53,v54)))
end Go.Rex
