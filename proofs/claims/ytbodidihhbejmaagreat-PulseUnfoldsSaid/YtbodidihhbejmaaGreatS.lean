/- The functions of the program and of the reference, as functions of lists and numbers. -/
import Derived.Test.YtbodidihhbejmaaGreatRexG10
set_option linter.unusedSimpArgs false
set_option linter.unusedVariables false
set_option linter.defProp false
namespace Go.Rex
open Go Go.Rex
def e_ff(x:(Nat×Nat)):List TV := [.v (.float .f32 x.1), .v (.float .f32 x.2)]
def e_c(x:(Nat×Nat)):List TV := [.v (.complex .f32 x.1 x.2)]
def e_i(x:Int):List TV := [.v (.int .i64 x)]
def e_ii(x:(Int×Int)):List TV := [.v (.int .i64 x.1), .v (.int .i64 x.2)]
noncomputable def hU(v1:(List (Nat×Nat))):Option (Bool) :=
 if (decide ((v1.length:Int)≤40))=true then
  (some (true))
 else
  (if (decide ((v1.length:Int)>1024))=true then
   (some ((decide ((v1.length:Int)≤1026))))
  else
   (some (false)))
noncomputable def hZ(v1:(List (Nat×Nat))):((List (Nat×Nat))×Int)→Option (((List (Nat×Nat))×Int) ⊕ (((List (Nat×Nat))))) := fun (v3, v4) =>
 if (decide (v4<(v1.length:Int)))=true then
  ((bN v1 v4).bind fun (v9, v10) =>
  (mW 8 v3 ([(v9, v10)]:List (Nat×Nat))).bind fun v11 =>
  some (.inl (v11, (IntKind.i64.wrap (v4+1)))))
 else
  (some (.inr v3))
noncomputable def aX(v1:(List (Nat×Nat))):Option ((List (Nat×Nat))) :=
 (run (hZ v1) (([]:List (Nat×Nat)), 0)).bind fun v12 =>
 some (v12)
noncomputable def jE(v1:(List Int)):Option ((List Int)) :=
 (mW 8 ([]:List Int) v1).bind fun v3 =>
 some (v3)
noncomputable def jZ(v1:Int)(v2:(List Int)):Option (Int×(List Int)) :=
 (jE v2).bind fun v5 =>
 some (v1, v5)
noncomputable def cT(v1:(List (Nat×Nat))):Option ((List (Nat×Nat))) :=
 some (v1)
noncomputable def bB(v1:Int)(v2:(List Int))(v3:Int):Option (Int×Int×(List Int)) :=
 some (v3, v1, v2)
noncomputable def aC(v1:Bool)(v2:Int):Option (Bool×Int) :=
 some (v1, v2)
noncomputable def jT(v1:Int)(v2:(List (Nat×Nat))):Option (Int×(List (Nat×Nat))) :=
 some (v1, v2)
noncomputable def aB(v1:Bool)(v2:Int):Option (Int) :=
 if v1=true then
  (some (v2))
 else
  (some (0))
noncomputable def jV(v1:Nat):Option (Nat) :=
 (trI .zero v1).bind fun v3 =>
 some (v3)
noncomputable def uT(v1:Nat):Option (Nat) :=
 (fbits .f64 v1).bind fun v3 =>
 some (((tH .andNot .u64 v3 9223372036854775808)).toNat)
noncomputable def lB(v1:Nat)(v2:Int):Option (Bool) :=
 if (decide (v2=0))=true then
  ((uT v1).bind fun v4 =>
  some ((fcmp .gtr .f64 v4 9218868437227405311)))
 else
  (if (decide (v2<0))=true then
   (some ((fcmp .gtr .f64 (Op.negFloat .f64 v1) 9218868437227405311)))
  else
   (some ((fcmp .gtr .f64 v1 9218868437227405311))))
noncomputable def fZ(v1:Nat):Option (Bool) :=
 (f2f .f32 v1 .f64).bind fun v3 =>
 (jV v3).bind fun v4 =>
 if (fcmp .eql .f64 v3 v4)=true then
  ((lB v3 0).bind fun v5 =>
  some ((!v5)))
 else
  (some (false))
noncomputable def aT(v1:Nat)(v2:Nat):Option (Bool) :=
 if (fcmp .leq .f32 (Op.negFloat .f32 v2) v1)=true then
  (some ((fcmp .leq .f32 v1 v2)))
 else
  (some (false))
noncomputable def aL(v1:Bool)(v2:Int)(v3:Bool)(v4:Int):Option (Int) :=
 (aB v1 v2).bind fun v6 =>
 if (decide (v6≠0))=true then
  (some (v6))
 else
  ((aB v3 v4).bind fun v7 =>
  if (decide (v7≠0))=true then
   (some (v7))
  else
   (some (0)))
noncomputable def jH(v1:Nat)(v2:Nat):Option (Int) :=
 (fZ v1).bind fun v4 =>
 if v4=true then
  ((fZ v2).bind fun v5 =>
  (aC (!v5) 27).bind fun (v6, v7) =>
  (aT v1 1266679808).bind fun v8 =>
  if v8=true then
   ((aT v2 1266679808).bind fun v9 =>
   (aC (!v9) 2).bind fun (v10, v11) =>
   (aL v6 v7 v10 v11).bind fun v12 =>
   some (v12))
  else
   ((aC true 2).bind fun (v13, v14) =>
   (aL v6 v7 v13 v14).bind fun v15 =>
   some (v15)))
 else
  ((aC true 27).bind fun (v16, v17) =>
  (aT v1 1266679808).bind fun v18 =>
  if v18=true then
   ((aT v2 1266679808).bind fun v19 =>
   (aC (!v19) 2).bind fun (v20, v21) =>
   (aL v16 v17 v20 v21).bind fun v22 =>
   some (v22))
  else
   ((aC true 2).bind fun (v23, v24) =>
   (aL v16 v17 v23 v24).bind fun v25 =>
   some (v25)))
noncomputable def eK(v1:Int)(v2:(List (Nat×Nat))):Option (Int) :=
 (bN v2 v1).bind fun (v4, v5) =>
 (jH v4 v5).bind fun v6 =>
 some (v6)
noncomputable def bE(v1:Int)(v2:(List (Nat×Nat))):(Int)→Option ((Int) ⊕ ((Int) ⊕ (Unit))) := fun v4 =>
 if (decide (v4<v1))=true then
  ((eK v4 v2).bind fun v7 =>
  if (decide (v7≠0))=true then
   (some (.inr (.inl v7)))
  else
   (some (.inl (IntKind.i64.wrap (v4+1)))))
 else
  (some (.inr (.inr ())))
noncomputable def gU(v1:Int)(v2:(List (Nat×Nat))):Option (Int) :=
 (run (bE v1 v2) 0).bind fun v8 => match v8 with
 | (.inl v9) =>
  some (v9)
 | (.inr _) =>
  some (0)
noncomputable def fE(v1:Bool)(v2:Int)(v3:Bool)(v4:Int)(v5:Int)(v6:(List (Nat×Nat))):Option (Int) :=
 (aB v1 v2).bind fun v8 =>
 if (decide (v8≠0))=true then
  (some (v8))
 else
  ((aB v3 v4).bind fun v9 =>
  if (decide (v9≠0))=true then
   (some (v9))
  else
   ((gU v5 v6).bind fun v10 =>
   if (decide (v10≠0))=true then
    (some (v10))
   else
    (some (0))))
noncomputable def aN(v1:(List (Nat×Nat))):Option (Int) :=
 (aC (decide ((v1.length:Int)=0)) 10).bind fun (v3, v4) =>
 (aC (decide ((v1.length:Int)>1024)) 8).bind fun (v5, v6) =>
 (jT (v1.length:Int) v1).bind fun (v7, v8) =>
 (fE v3 v4 v5 v6 v7 v8).bind fun v9 =>
 some (v9)
noncomputable def fU(v1:Int)(v2:Int)(v3:Int):Option (Bool×Int) :=
 if (decide (v1<v2))=true then
  ((aC true 2).bind fun (v6, v7) =>
  some (v6, v7))
 else
  ((aC (decide (v1>v3)) 2).bind fun (v8, v9) =>
  some (v8, v9))
noncomputable def jN(v1:Int)(v2:(List Int))(v3:Int)(v4:Int):Option (Int×(List Int)×Int×Int) :=
 some (v1, v2, v3, v4)
noncomputable def jS(v1:(List Int))(v2:Int)(v3:Int):Option (Int×(List Int)×Int×Int) :=
 (jN (v1.length:Int) v1 v2 v3).bind fun (v8, v9, v10, v11) =>
 some (v8, v9, v10, v11)
noncomputable def bU(v1:(List Int))(v2:Int):(Int)→Option ((Int) ⊕ ((Int) ⊕ (Unit))) := fun v4 =>
 if (decide (v4<(v1.length:Int)))=true then
  ((bN v1 v4).bind fun v7 =>
  if (decide (v2=v7))=true then
   (some (.inr (.inl v4)))
  else
   (some (.inl (IntKind.i64.wrap (v4+1)))))
 else
  (some (.inr (.inr ())))
noncomputable def fT(v1:(List Int))(v2:Int):Option (Int) :=
 (run (bU v1 v2) 0).bind fun v8 => match v8 with
 | (.inl v9) =>
  some (v9)
 | (.inr _) =>
  some ((-1))
noncomputable def cW(v1:(List Int))(v2:Int):Option (Bool) :=
 (fT v1 v2).bind fun v4 =>
 some ((decide (v4≥0)))
noncomputable def dA(v1:Int)(v2:(List Int))(v3:Int)(v4:Int):Option (Int) :=
 (bN v2 v1).bind fun v6 =>
 (fU v6 v3 v4).bind fun (v7, v8) =>
 if (decide (v1>0))=true then
  ((bN v2 (IntKind.i64.wrap (v1-1))).bind fun v9 =>
  (aC (decide (v6≤v9)) 9).bind fun (v10, v11) =>
  (aL v7 v8 v10 v11).bind fun v12 =>
  some (v12))
 else
  ((aC false 9).bind fun (v13, v14) =>
  (aL v7 v8 v13 v14).bind fun v15 =>
  some (v15))
noncomputable def cM(v1:Int)(v2:(List Int))(v3:Int)(v4:Int):(Int)→Option ((Int) ⊕ ((Int) ⊕ (Unit))) := fun v6 =>
 if (decide (v6<v1))=true then
  ((dA v6 v2 v3 v4).bind fun v9 =>
  if (decide (v9≠0))=true then
   (some (.inr (.inl v9)))
  else
   (some (.inl (IntKind.i64.wrap (v6+1)))))
 else
  (some (.inr (.inr ())))
noncomputable def gS(v1:Int)(v2:(List Int))(v3:Int)(v4:Int):Option (Int) :=
 (run (cM v1 v2 v3 v4) 0).bind fun v10 => match v10 with
 | (.inl v11) =>
  some (v11)
 | (.inr _) =>
  some (0)
noncomputable def fJ(v1:Bool)(v2:Int)(v3:Bool)(v4:Int)(v5:Int)(v6:(List Int))(v7:Int)(v8:Int)(v9:Bool)(v10:Int):Option (Int) :=
 (aB v1 v2).bind fun v12 =>
 if (decide (v12≠0))=true then
  (some (v12))
 else
  ((aB v3 v4).bind fun v13 =>
  if (decide (v13≠0))=true then
   (some (v13))
  else
   ((gS v5 v6 v7 v8).bind fun v14 =>
   if (decide (v14≠0))=true then
    (some (v14))
   else
    ((aB v9 v10).bind fun v15 =>
    if (decide (v15≠0))=true then
     (some (v15))
    else
     (some (0)))))
noncomputable def eS(v1:Int)(v2:(List Int)):Option (Int) :=
 (fU v1 2 8).bind fun (v4, v5) =>
 (aC (decide ((v2.length:Int)=0)) 10).bind fun (v6, v7) =>
 (jS v2 1 v1).bind fun (v8, v9, v10, v11) =>
 (cW v2 v1).bind fun v12 =>
 (aC (!v12) 6).bind fun (v13, v14) =>
 (fJ v4 v5 v6 v7 v8 v9 v10 v11 v13 v14).bind fun v15 =>
 some (v15)
noncomputable def cL(v1:Int)(v2:(List Int)):Option (Int) :=
 (eS v1 v2).bind fun v4 =>
 some (v4)
noncomputable def aE(v1:Int)(v2:(List Int)):Option (Int) :=
 (shI .shl .i64 1 v1).bind fun v4 =>
 some ((IntKind.i64.wrap (v4-1)))
noncomputable def aQ(v1:Int)(v2:Int)(v3:(List Int)):Option (Int) :=
 (aE v2 v3).bind fun v5 =>
 (fU v1 1 v5).bind fun (v6, v7) =>
 (aB v6 v7).bind fun v8 =>
 some (v8)
noncomputable def bT(v1:Int)(v2:(List Int))(v3:Int):(Int×Int)→Option ((Int×Int) ⊕ ((Int))) := fun (v5, v6) =>
 if (decide (v6<(v2.length:Int)))=true then
  ((bN v2 v6).bind fun v10 =>
  (shI .shr .i64 v3 (IntKind.i64.wrap (v1-v10))).bind fun v11 =>
  some (.inl ((tH .xor .i64 v5 (tH .and .i64 v11 1)), (IntKind.i64.wrap (v6+1)))))
 else
  (some (.inr v5))
noncomputable def cX(v1:Int)(v2:(List Int))(v3:Int):Option (Int) :=
 (run (bT v1 v2 v3) (0, 0)).bind fun v12 =>
 (shI .shr .i64 v3 1).bind fun v13 =>
 (shI .shl .i64 v12 (IntKind.i64.wrap (v1-1))).bind fun v14 =>
 some ((tH .or .i64 v13 v14))
noncomputable def dP(v1:Int)(v2:(List Int))(v3:Int):Option (Int×Int×(List Int)) :=
 some (v3, v1, v2)
noncomputable def aM{X:Type}(H:(Int)→X→Option (Bool×X))(v2:Int)(v3:(List Int)):(Int×X)→Option ((Int×X) ⊕ ((X))) := fun (v5, v6) =>
 (H v5 v6).bind fun (v11, v12) =>
 if v11=true then
  ((cX v2 v3 v5).bind fun v13 =>
  some (.inl (v13, v12)))
 else
  (some (.inr v12))
noncomputable def aG(v1:Int)(v2:Int)(v3:(List Int)){X:Type}(H:(Int)→X→Option (Bool×X))(v4:X):Option X :=
 (run (aM H v2 v3) (v1, v4)).bind fun v14 =>
 some v14
noncomputable def cG(v3:Int):((Int))→(Int)→Option ((Int) ⊕ ((Int))) := fun v12 v9 =>
 if (decide (v12=v3))=true then
  (some (.inr v9))
 else
  (some (.inl (IntKind.i64.wrap (v9+1))))
noncomputable def dK(v1:Int)(v2:(List Int))(v3:Int):Option (Int) :=
 (cX v1 v2 v3).bind fun v5 =>
 (dP v1 v2 v5).bind fun (v6, v7, v8) =>
 (aG v6 v7 v8 (hand (cG v3)) (.inl 1)).bind fun v13 => match v13 with
 | .inl v14 =>
  some (v14)
 | .inr v15 =>
  some (v15)
noncomputable def dW(v1:Int)(v2:(List Int)):Option (Bool) :=
 (dK v1 v2 1).bind fun v4 =>
 (aE v1 v2).bind fun v5 =>
 some ((decide (v4=v5)))
noncomputable def cZ(v1:Int)(v2:(List Int)):Option (Int) :=
 (dW v1 v2).bind fun v4 =>
 (aC (!v4) 22).bind fun (v5, v6) =>
 (aB v5 v6).bind fun v7 =>
 some (v7)
noncomputable def dQ(v1:(List (Nat×Nat)))(v2:Int)(v3:(List Int)):Option (Int) :=
 (aE v2 v3).bind fun v5 =>
 (aC (decide ((v1.length:Int)≠v5)) 13).bind fun (v6, v7) =>
 (aB v6 v7).bind fun v8 =>
 some (v8)
noncomputable def cN(v1:(List (Nat×Nat)))(v2:Int)(v3:(List Int))(v4:Int)(v5:Int)(v6:(List Int))(v7:Int)(v8:(List Int))(v9:(List (Nat×Nat)))(v10:Int)(v11:(List Int)):Option (Int) :=
 (aN v1).bind fun v13 =>
 if (decide (v13≠0))=true then
  (some (v13))
 else
  ((cL v2 v3).bind fun v14 =>
  if (decide (v14≠0))=true then
   (some (v14))
  else
   ((aQ v4 v5 v6).bind fun v15 =>
   if (decide (v15≠0))=true then
    (some (v15))
   else
    ((cZ v7 v8).bind fun v16 =>
    if (decide (v16≠0))=true then
     (some (v16))
    else
     ((dQ v9 v10 v11).bind fun v17 =>
     if (decide (v17≠0))=true then
      (some (v17))
     else
      (some (0))))))
noncomputable def cY(v4:Int):((Int))→((List Int))→Option (((List Int)) ⊕ (((List Int)))) := fun v13 v9 =>
 if (decide ((v9.length:Int)=v4))=true then
  (some (.inr v9))
 else
  ((mW 8 v9 ([(tH .and .i64 v13 1)]:List Int)).bind fun v14 =>
  some (.inl v14))
noncomputable def eH(v1:Int)(v2:(List Int))(v3:Int)(v4:Int):Option ((List Int)) :=
 (dP v1 v2 v3).bind fun (v6, v7, v8) =>
 (aG v6 v7 v8 (hand (cY v4)) (.inl ([]:List Int))).bind fun v15 => match v15 with
 | .inl v16 =>
  some (v16)
 | .inr v17 =>
  some (v17)
noncomputable def cS(v6:(List Int)):((List Int)×Int)→Option (((List Int)×Int) ⊕ (((List Int)))) := fun (v7, v8) =>
 if (decide (v8<(v6.length:Int)))=true then
  ((bN v7 v8).bind fun v11 =>
  some (.inl ((v7.set v8.toNat (IntKind.i64.wrap (1-(IntKind.i64.wrap (2*v11))))), (IntKind.i64.wrap (v8+1)))))
 else
  (some (.inr v7))
noncomputable def dX(v1:Int)(v2:(List Int))(v3:Int):Option ((List Int)) :=
 (aE v1 v2).bind fun v5 =>
 (eH v1 v2 v3 v5).bind fun v6 =>
 (run (cS v6) (v6, 0)).bind fun v12 =>
 some (v12)
noncomputable def cC(v1:Int)(v2:(List Int))(v3:Int):Option ((List Int)) :=
 (dX v1 v2 v3).bind fun v5 =>
 some (v5)
noncomputable def gD(v1:Nat)(v2:Nat):Option (Int×Int) :=
 (f2i .f32 v1 .i64).bind fun v5 =>
 (f2i .f32 v2 .i64).bind fun v6 =>
 some (v5, v6)
noncomputable def bW(v1:(List (Nat×Nat))):((List (Int×Int))×Int)→Option (((List (Int×Int))×Int) ⊕ (((List (Int×Int))))) := fun (v3, v4) =>
 if (decide (v4<(v1.length:Int)))=true then
  ((bN v1 v4).bind fun (v11, v12) =>
  (gD v11 v12).bind fun (v13, v14) =>
  (mW 16 v3 ([(v13, v14)]:List (Int×Int))).bind fun v15 =>
  some (.inl (v15, (IntKind.i64.wrap (v4+1)))))
 else
  (some (.inr v3))
noncomputable def aZ(v1:(List (Nat×Nat))):Option ((List (Int×Int))) :=
 (run (bW v1) (([]:List (Int×Int)), 0)).bind fun v16 =>
 some (v16)
noncomputable def jB(v1:Int)(v2:Int):Option (Int) :=
 if v2=0 then none else
 (some (((IntKind.i64.wrap ((v1.tmod v2)+v2)).tmod v2)))
noncomputable def bF(v1:Int)(v2:(List Int)):Option (Int) :=
 (jB v1 (v2.length:Int)).bind fun v4 =>
 (bN v2 v4).bind fun v5 =>
 some (v5)
noncomputable def dL(v1:Int)(v2:Int)(v3:(List Int)):Option (Int) :=
 (bF (IntKind.i64.wrap (v2-v1)) v3).bind fun v5 =>
 some ((IntKind.i64.wrap (v5-1)))
noncomputable def dH(v1:Int)(v2:Int)(v3:Int):Option (Int×Int) :=
 some ((IntKind.i64.wrap (v1*v3)), (IntKind.i64.wrap (v2*v3)))
noncomputable def cH(v1:Int)(v2:Int)(v3:Int)(v4:Int):Option (Int×Int) :=
 some ((IntKind.i64.wrap (v1+v3)), (IntKind.i64.wrap (v2+v4)))
noncomputable def bD(v1:(List (Int×Int)))(v2:(List Int))(v6:Int):((List (Int×Int))×Int)→Option (((List (Int×Int))×Int) ⊕ (((List (Int×Int))))) := fun (v30, v31) =>
 if (decide (v31<(v1.length:Int)))=true then
  ((bN v1 v31).bind fun (v42, v43) =>
  (bN v30 v6).bind fun (v44, v45) =>
  (dL v6 v31 v2).bind fun v46 =>
  (dH v42 v43 v46).bind fun (v47, v48) =>
  (cH v44 v45 v47 v48).bind fun (v49, v50) =>
  some (.inl ((v30.set v6.toNat (v49, v50)), (IntKind.i64.wrap (v31+1)))))
 else
  (some (.inr v30))
noncomputable def cK(v1:(List (Int×Int)))(v2:(List Int))(v4:(List (Int×Int))):((List (Int×Int))×Int)→Option (((List (Int×Int))×Int) ⊕ (((List (Int×Int))))) := fun (v5, v6) =>
 if (decide (v6<(v4.length:Int)))=true then
  ((run (bD v1 v2 v6) (v5, 0)).bind fun v51 =>
  some (.inl (v51, (IntKind.i64.wrap (v6+1)))))
 else
  (some (.inr v5))
noncomputable def dY(v1:(List (Int×Int)))(v2:(List Int)):Option ((List (Int×Int))) :=
 (mkI 16 (v1.length:Int) ((0, 0):(Int×Int))).bind fun v4 =>
 (run (cK v1 v2 v4) (v4, 0)).bind fun v52 =>
 some (v52)
noncomputable def eX(v1:(List (Int×Int)))(v2:Int):((List (Int×Int))×Int)→Option (((List (Int×Int))×Int) ⊕ ((Unit) ⊕ ((List (Int×Int))))) := fun (v5, v6) =>
 if (decide (v6<(v1.length:Int)))=true then
  ((bN v1 v6).bind fun (v11, v12) =>
  if v2=0 then none else
  (if (decide ((v11.tmod v2)≠0))=true then
   (some (.inr (.inl ())))
  else
   (if (decide ((v12.tmod v2)≠0))=true then
    (some (.inr (.inl ())))
   else
    ((mW 16 v5 ([((IntKind.i64.wrap (v11.tdiv v2)), (IntKind.i64.wrap (v12.tdiv v2)))]:List (Int×Int))).bind fun v13 =>
    some (.inl (v13, (IntKind.i64.wrap (v6+1))))))))
 else
  (some (.inr (.inr v5)))
noncomputable def hP(v1:(List (Int×Int)))(v2:Int):Option ((List (Int×Int))×Bool) :=
 (run (eX v1 v2) (([]:List (Int×Int)), 0)).bind fun v14 => match v14 with
 | (.inl _) =>
  some (([]:List (Int×Int)), false)
 | (.inr v15) =>
  some (v15, true)
noncomputable def jR(v1:Int)(v2:(List (Int×Int))):Option (Int×(List (Int×Int))) :=
 some (v1, v2)
noncomputable def eL(v1:Int)(v2:Int):Option (Bool) :=
 if (decide ((IntKind.i64.wrap (0-v2))≤v1))=true then
  (some ((decide (v1≤v2))))
 else
  (some (false))
noncomputable def eZ(v1:Int)(v2:Int)(v3:Int):Option (Bool×Int) :=
 (eL v1 v3).bind fun v6 =>
 if v6=true then
  ((eL v2 v3).bind fun v7 =>
  (aC (!v7) 8).bind fun (v8, v9) =>
  some (v8, v9))
 else
  ((aC true 8).bind fun (v10, v11) =>
  some (v10, v11))
noncomputable def eV(v1:Int)(v2:(List (Int×Int))):Option (Int) :=
 (bN v2 v1).bind fun (v4, v5) =>
 (eZ v4 v5 16777216).bind fun (v6, v7) =>
 (aB v6 v7).bind fun v8 =>
 some (v8)
noncomputable def bS(v1:Int)(v2:(List (Int×Int))):(Int)→Option ((Int) ⊕ ((Int) ⊕ (Unit))) := fun v4 =>
 if (decide (v4<v1))=true then
  ((eV v4 v2).bind fun v7 =>
  if (decide (v7≠0))=true then
   (some (.inr (.inl v7)))
  else
   (some (.inl (IntKind.i64.wrap (v4+1)))))
 else
  (some (.inr (.inr ())))
noncomputable def gP(v1:Int)(v2:(List (Int×Int))):Option (Int) :=
 (run (bS v1 v2) 0).bind fun v8 => match v8 with
 | (.inl v9) =>
  some (v9)
 | (.inr _) =>
  some (0)
noncomputable def dJ(v1:(List (Int×Int))):((List (Nat×Nat))×Int)→Option (((List (Nat×Nat))×Int) ⊕ (((List (Nat×Nat))))) := fun (v7, v8) =>
 if (decide (v8<(v1.length:Int)))=true then
  ((bN v1 v8).bind fun (v13, v14) =>
  (mW 8 v7 ([((FloatKind.f32.nearest v13), (FloatKind.f32.nearest v14))]:List (Nat×Nat))).bind fun v15 =>
  some (.inl (v15, (IntKind.i64.wrap (v8+1)))))
 else
  (some (.inr v7))
noncomputable def bX(v1:(List (Int×Int))):Option ((List (Nat×Nat))×Int) :=
 (jR (v1.length:Int) v1).bind fun (v4, v5) =>
 (gP v4 v5).bind fun v6 =>
 if (decide (v6≠0))=true then
  (some (([]:List (Nat×Nat)), v6))
 else
  ((run (dJ v1) (([]:List (Nat×Nat)), 0)).bind fun v16 =>
  some (v16, 0))
noncomputable def cP(v1:(List (Nat×Nat)))(v2:Int)(v3:(List Int))(v4:Int):Option ((List (Nat×Nat))×Int) :=
 (cT v1).bind fun v7 =>
 (bB v2 v3 v4).bind fun (v8, v9, v10) =>
 (cN v7 v2 v3 v8 v9 v10 v2 v3 v1 v2 v3).bind fun v11 =>
 if (decide (v11≠0))=true then
  (some (([]:List (Nat×Nat)), v11))
 else
  ((cC v2 v3 v4).bind fun v12 =>
  (aZ v1).bind fun v13 =>
  (dY v13 v12).bind fun v14 =>
  (aE v2 v3).bind fun v15 =>
  (hP v14 (IntKind.i64.wrap (v15+1))).bind fun (v16, v17) =>
  if v17=true then
   ((bX v16).bind fun (v18, v19) =>
   some (v18, v19))
  else
   (some (([]:List (Nat×Nat)), 20)))
noncomputable def dG(v1:Nat):Option (Bool) :=
 if (fcmp .neq .f64 v1 v1)=true then
  (some (false))
 else
  ((farith .sub .f64 v1 v1).bind fun v3 =>
  if (fcmp .neq .f64 v3 0)=true then
   (some (false))
  else
   (if (fcmp .geq .f64 v1 14069741636278059008)=true then
    (if (fcmp .leq .f64 v1 4846369599423283200)=true then
     ((f2i .f64 v1 .i64).bind fun v4 =>
     some ((fcmp .eql .f64 (FloatKind.f64.nearest v4) v1)))
    else
     (some (true)))
   else
    (some (true))))
noncomputable def eA(v1:(List (Nat×Nat))):(Int)→Option ((Int) ⊕ ((Int) ⊕ (Unit))) := fun v3 =>
 if (decide (v3<(v1.length:Int)))=true then
  ((bN v1 v3).bind fun (v11, v12) =>
  (f2f .f32 v11 .f64).bind fun v13 =>
  (f2f .f32 v12 .f64).bind fun v14 =>
  (dG v13).bind fun v15 =>
  if v15=true then
   ((dG v14).bind fun v16 =>
   if v16=true then
    (if (fcmp .gtr .f64 v13 4715268809856909312)=true then
     (some (.inr (.inl 2)))
    else
     (if (fcmp .lss .f64 v13 13938640846711685120)=true then
      (some (.inr (.inl 2)))
     else
      (if (fcmp .gtr .f64 v14 4715268809856909312)=true then
       (some (.inr (.inl 2)))
      else
       (if (fcmp .lss .f64 v14 13938640846711685120)=true then
        (some (.inr (.inl 2)))
       else
        (some (.inl (IntKind.i64.wrap (v3+1))))))))
   else
    (some (.inr (.inl 27))))
  else
   (some (.inr (.inl 27))))
 else
  (some (.inr (.inr ())))
noncomputable def eC(v1:(List (Nat×Nat))):Option (Int) :=
 if (decide ((v1.length:Int)=0))=true then
  (some (10))
 else
  (if (decide ((v1.length:Int)>1024))=true then
   (some (8))
  else
   ((run (eA v1) 0).bind fun v17 => match v17 with
   | (.inl v18) =>
    some (v18)
   | (.inr _) =>
    some (0)))
noncomputable def eF(v1:Int)(v2:Int)(v3:Int):Option (Bool) :=
 if (decide (v2≤v1))=true then
  (some ((decide (v1≤v3))))
 else
  (some (false))
noncomputable def cA(v1:Int)(v2:(List Int)):(Int)→Option ((Int) ⊕ ((Int) ⊕ (Unit))) := fun v5 =>
 if (decide (v5<(v2.length:Int)))=true then
  ((bN v2 v5).bind fun v10 =>
  (eF v10 1 v1).bind fun v11 =>
  if v11=true then
   (if (decide (v5>0))=true then
    ((bN v2 (IntKind.i64.wrap (v5-1))).bind fun v12 =>
    if (decide (v10≤v12))=true then
     (some (.inr (.inl 9)))
    else
     (some (.inl (IntKind.i64.wrap (v5+1)))))
   else
    (some (.inl (IntKind.i64.wrap (v5+1)))))
  else
   (some (.inr (.inl 2))))
 else
  (some (.inr (.inr ())))
noncomputable def eU(v1:Int)(v2:(List Int)):Option (Int) :=
 (eF v1 2 8).bind fun v4 =>
 if v4=true then
  (if (decide ((v2.length:Int)=0))=true then
   (some (10))
  else
   ((run (cA v1 v2) 0).bind fun v13 => match v13 with
   | (.inl v14) =>
    some (v14)
   | (.inr _) =>
    (bN v2 (IntKind.i64.wrap ((v2.length:Int)-1))).bind fun v15 =>
    if (decide (v15≠v1))=true then
     (some (6))
    else
     (some (0))))
 else
  (some (2))
noncomputable def iD(v1:Int):(Int×Int)→Option ((Int×Int) ⊕ ((Int))) := fun (v4, v5) =>
 if (decide (v5<v1))=true then
  (some (.inl ((IntKind.i64.wrap (2*v4)), (IntKind.i64.wrap (v5+1)))))
 else
  (some (.inr v4))
noncomputable def gT(v1:Int)(v2:(List Int)):Option (Int) :=
 (run (iD v1) (1, 0)).bind fun v7 =>
 some ((IntKind.i64.wrap (v7-1)))
noncomputable def eD(v1:Int)(v2:(List Int))(v3:Int):Option (Int) :=
 (eU v1 v2).bind fun v5 =>
 if (decide (v5≠0))=true then
  (some (v5))
 else
  ((gT v1 v2).bind fun v6 =>
  (eF v3 1 v6).bind fun v7 =>
  if v7=true then
   (some (0))
  else
   (some (2)))
noncomputable def iA(v2:(List Int))(v7:(List Int))(v8:Int):(Int×Int)→Option ((Int×Int) ⊕ ((Int))) := fun (v21, v22) =>
 if (decide (v22<(v2.length:Int)))=true then
  ((bN v2 v22).bind fun v26 =>
  (bN v7 (IntKind.i64.wrap (v8-v26))).bind fun v27 =>
  some (.inl ((IntKind.i64.wrap (v21+v27)), (IntKind.i64.wrap (v22+1)))))
 else
  (some (.inr v21))
noncomputable def iC(v1:Int)(v2:(List Int))(v4:Int):(Int×(List Int)×Int)→Option ((Int×(List Int)×Int) ⊕ (((List Int)))) := fun (v6, v7, v8) =>
 if (decide (v8<v4))=true then
  (if (decide (v8<v1))=true then
   ((mW 8 v7 ([(v6.tmod 2)]:List Int)).bind fun v20 =>
   some (.inl ((IntKind.i64.wrap (v6.tdiv 2)), v20, (IntKind.i64.wrap (v8+1)))))
  else
   ((run (iA v2 v7 v8) (0, 0)).bind fun v28 =>
   (mW 8 v7 ([(v28.tmod 2)]:List Int)).bind fun v29 =>
   some (.inl (v6, v29, (IntKind.i64.wrap (v8+1))))))
 else
  (some (.inr v7))
noncomputable def kZ(v1:Int)(v2:(List Int))(v3:Int)(v4:Int):Option ((List Int)) :=
 (run (iC v1 v2 v4) (v3, ([]:List Int), 0)).bind fun v30 =>
 some (v30)
noncomputable def gZ(v5:(List Int)):(Int×Int)→Option ((Int×Int) ⊕ ((Int))) := fun (v6, v7) =>
 if (decide (v7≥1))=true then
  ((bN v5 v7).bind fun v10 =>
  some (.inl ((IntKind.i64.wrap ((IntKind.i64.wrap (2*v6))+v10)), (IntKind.i64.wrap (v7-1)))))
 else
  (some (.inr v6))
noncomputable def lG(v1:Int)(v2:(List Int))(v3:Int):Option (Int) :=
 (kZ v1 v2 v3 (IntKind.i64.wrap (v1+1))).bind fun v5 =>
 (run (gZ v5) (0, v1)).bind fun v11 =>
 some (v11)
noncomputable def fM(v1:Int)(v2:(List Int))(v3:Int):(Int×Int)→Option ((Int×Int) ⊕ ((Int))) := fun (v6, v7) =>
 if (decide (v7≠v3))=true then
  ((lG v1 v2 v7).bind fun v10 =>
  some (.inl ((IntKind.i64.wrap (v6+1)), v10)))
 else
  (some (.inr v6))
noncomputable def kM(v1:Int)(v2:(List Int))(v3:Int):Option (Int) :=
 (lG v1 v2 v3).bind fun v5 =>
 (run (fM v1 v2 v3) (1, v5)).bind fun v11 =>
 some (v11)
noncomputable def gX(v1:Int)(v2:(List Int)):Option (Bool) :=
 (kM v1 v2 1).bind fun v4 =>
 (gT v1 v2).bind fun v5 =>
 some ((decide (v4=v5)))
noncomputable def iP(v1:(List (Nat×Nat))):((List (Int×Int))×Int)→Option (((List (Int×Int))×Int) ⊕ (((List (Int×Int))))) := fun (v3, v4) =>
 if (decide (v4<(v1.length:Int)))=true then
  ((bN v1 v4).bind fun (v11, v12) =>
  (f2i .f32 v11 .i64).bind fun v13 =>
  (f2i .f32 v12 .i64).bind fun v14 =>
  (mW 16 v3 ([(v13, v14)]:List (Int×Int))).bind fun v15 =>
  some (.inl (v15, (IntKind.i64.wrap (v4+1)))))
 else
  (some (.inr v3))
noncomputable def dU(v1:(List (Nat×Nat))):Option ((List (Int×Int))) :=
 (run (iP v1) (([]:List (Int×Int)), 0)).bind fun v16 =>
 some (v16)
noncomputable def eN(v1:(List (Int×Int)))(v2:Int):((List (Int×Int))×Int)→Option (((List (Int×Int))×Int) ⊕ (((List (Int×Int))))) := fun (v5, v6) =>
 if (decide (v6<(v1.length:Int)))=true then
  (if v2=0 then none else
  ((bN v5 (v6.tmod v2)).bind fun (v14, v15) =>
  (bN v1 v6).bind fun (v16, v17) =>
  (bN (v5.set ((v6.tmod v2)).toNat ((IntKind.i64.wrap (v14+v16)), v15)) (v6.tmod v2)).bind fun (v18, v19) =>
  some (.inl (((v5.set ((v6.tmod v2)).toNat ((IntKind.i64.wrap (v14+v16)), v15)).set ((v6.tmod v2)).toNat (v18, (IntKind.i64.wrap (v19+v17)))), (IntKind.i64.wrap (v6+1))))))
 else
  (some (.inr v5))
noncomputable def fV(v1:(List (Int×Int)))(v2:Int):Option ((List (Int×Int))) :=
 (mkI 16 v2 ((0, 0):(Int×Int))).bind fun v4 =>
 (run (eN v1 v2) (v4, 0)).bind fun v20 =>
 some (v20)
noncomputable def iQ:((List Int)×Int)→Option (((List Int)×Int) ⊕ (((List Int)))) := fun (v7, v8) =>
 if (decide (v8<(v7.length:Int)))=true then
  ((bN v7 v8).bind fun v11 =>
  some (.inl ((v7.set v8.toNat (IntKind.i64.wrap (1-(IntKind.i64.wrap (2*v11))))), (IntKind.i64.wrap (v8+1)))))
 else
  (some (.inr v7))
noncomputable def iX(v1:Int)(v2:(List Int))(v3:Int):Option ((List Int)) :=
 (gT v1 v2).bind fun v5 =>
 (kZ v1 v2 v3 v5).bind fun v6 =>
 (run (iQ) (v6, 0)).bind fun v12 =>
 some (v12)
noncomputable def gF(v1:Int)(v2:Int):Option (Int) :=
 if v2=0 then none else
 (if (decide ((v1.tmod v2)<0))=true then
  (some ((IntKind.i64.wrap ((v1.tmod v2)+v2))))
 else
  (some ((v1.tmod v2))))
noncomputable def dT(v1:(List (Int×Int)))(v2:(List Int))(v3:Bool)(v7:Int):((List (Int×Int))×Int)→Option (((List (Int×Int))×Int) ⊕ (((List (Int×Int))))) := fun (v53, v54) =>
 if (decide (v54<(v2.length:Int)))=true then
  (if v3=true then
   ((bN v53 v54).bind fun (v76, v77) =>
   (bN v1 v7).bind fun (v78, v79) =>
   (gF (IntKind.i64.wrap (v7-v54)) (v2.length:Int)).bind fun v80 =>
   (bN v2 v80).bind fun v81 =>
   (bN (v53.set v54.toNat ((IntKind.i64.wrap (v76+(IntKind.i64.wrap (v78*v81)))), v77)) v54).bind fun (v82, v83) =>
   (gF (IntKind.i64.wrap (v7-v54)) (v2.length:Int)).bind fun v84 =>
   (bN v2 v84).bind fun v85 =>
   some (.inl (((v53.set v54.toNat ((IntKind.i64.wrap (v76+(IntKind.i64.wrap (v78*v81)))), v77)).set v54.toNat (v82, (IntKind.i64.wrap (v83+(IntKind.i64.wrap (v79*v85)))))), (IntKind.i64.wrap (v54+1)))))
  else
   ((bN v53 v7).bind fun (v86, v87) =>
   (bN v1 v54).bind fun (v88, v89) =>
   (gF (IntKind.i64.wrap (v7-v54)) (v2.length:Int)).bind fun v90 =>
   (bN v2 v90).bind fun v91 =>
   (bN (v53.set v7.toNat ((IntKind.i64.wrap (v86+(IntKind.i64.wrap (v88*v91)))), v87)) v7).bind fun (v92, v93) =>
   (gF (IntKind.i64.wrap (v7-v54)) (v2.length:Int)).bind fun v94 =>
   (bN v2 v94).bind fun v95 =>
   some (.inl (((v53.set v7.toNat ((IntKind.i64.wrap (v86+(IntKind.i64.wrap (v88*v91)))), v87)).set v7.toNat (v92, (IntKind.i64.wrap (v93+(IntKind.i64.wrap (v89*v95)))))), (IntKind.i64.wrap (v54+1))))))
 else
  (some (.inr v53))
noncomputable def fN(v1:(List (Int×Int)))(v2:(List Int))(v3:Bool):((List (Int×Int))×Int)→Option (((List (Int×Int))×Int) ⊕ (((List (Int×Int))))) := fun (v6, v7) =>
 if (decide (v7<(v2.length:Int)))=true then
  ((run (dT v1 v2 v3 v7) (v6, 0)).bind fun v96 =>
  some (.inl (v96, (IntKind.i64.wrap (v7+1)))))
 else
  (some (.inr v6))
noncomputable def gM(v1:(List (Int×Int)))(v2:(List Int))(v3:Bool):Option ((List (Int×Int))) :=
 (mkI 16 (v2.length:Int) ((0, 0):(Int×Int))).bind fun v5 =>
 (run (fN v1 v2 v3) (v5, 0)).bind fun v97 =>
 some (v97)
noncomputable def lF(v1:Int)(v2:Int):Option (Int) :=
 if v2=0 then none else
 (if (decide ((v1.tmod v2)<0))=true then
  (some ((IntKind.i64.wrap ((IntKind.i64.wrap (v1.tdiv v2))-1))))
 else
  (some ((IntKind.i64.wrap (v1.tdiv v2)))))
noncomputable def lK(v1:Int):Option (Int) :=
 some ((if (IntKind.i64.wrap (0-v1))>v1 then (IntKind.i64.wrap (0-v1)) else v1))
noncomputable def bQ(v1:(List (Int×Int))):((List (Nat×Nat))×Int)→Option (((List (Nat×Nat))×Int) ⊕ ((Unit) ⊕ ((List (Nat×Nat))))) := fun (v4, v5) =>
 if (decide (v5<(v1.length:Int)))=true then
  ((bN v1 v5).bind fun (v12, v13) =>
  (lK v12).bind fun v14 =>
  if (decide (v14>16777216))=true then
   (some (.inr (.inl ())))
  else
   ((lK v13).bind fun v15 =>
   if (decide (v15>16777216))=true then
    (some (.inr (.inl ())))
   else
    ((mW 8 v4 ([((FloatKind.f32.nearest v12), (FloatKind.f32.nearest v13))]:List (Nat×Nat))).bind fun v16 =>
    some (.inl (v16, (IntKind.i64.wrap (v5+1)))))))
 else
  (some (.inr (.inr v4)))
noncomputable def lP(v1:(List (Int×Int))):Option ((List (Nat×Nat))×Bool) :=
 (run (bQ v1) (([]:List (Nat×Nat)), 0)).bind fun v17 => match v17 with
 | (.inl _) =>
  some (([]:List (Nat×Nat)), false)
 | (.inr v18) =>
  some (v18, true)
noncomputable def fA(v1:(List (Int×Int))):Option ((List (Nat×Nat))×Int) :=
 (lP v1).bind fun (v4, v5) =>
 if v5=true then
  (some (v4, 0))
 else
  (some (([]:List (Nat×Nat)), 8))
noncomputable def iH:(Unit)→Option ((Unit) ⊕ ((Unit))) := fun _ =>
 some (.inr ())
noncomputable def cJ(v10:Int)(v13:Int)(v14:Int):((List (Int×Int))×Int)→Option (((List (Int×Int))×Int) ⊕ ((Unit) ⊕ ((List (Int×Int))))) := fun (v17, v18) =>
 if (decide (v18<v10))=true then
  ((bN v17 v18).bind fun (v28, v29) =>
  (gF (IntKind.i64.wrap (v28-v13)) (IntKind.i64.wrap (v10+1))).bind fun v30 =>
  if (decide (v30≠0))=true then
   (some (.inr (.inl ())))
  else
   ((lF (IntKind.i64.wrap (v28-v13)) (IntKind.i64.wrap (v10+1))).bind fun v31 =>
   (bN (v17.set v18.toNat (v31, v29)) v18).bind fun (v32, v33) =>
   (gF (IntKind.i64.wrap (v33-v14)) (IntKind.i64.wrap (v10+1))).bind fun v34 =>
   if (decide (v34≠0))=true then
    (some (.inr (.inl ())))
   else
    ((lF (IntKind.i64.wrap (v33-v14)) (IntKind.i64.wrap (v10+1))).bind fun v35 =>
    (run (iH) ()).bind fun _ =>
    some (.inl (((v17.set v18.toNat (v31, v29)).set v18.toNat (v32, v35)), (IntKind.i64.wrap (v18+1)))))))
 else
  (some (.inr (.inr v17)))
noncomputable def cQ(v1:(List (Nat×Nat)))(v2:Int)(v3:(List Int))(v4:Int):Option ((List (Nat×Nat))×Int) :=
 (eC v1).bind fun v7 =>
 if (decide (v7≠0))=true then
  (some (([]:List (Nat×Nat)), v7))
 else
  ((eD v2 v3 v4).bind fun v8 =>
  if (decide (v8≠0))=true then
   (some (([]:List (Nat×Nat)), v8))
  else
   ((gX v2 v3).bind fun v9 =>
   if v9=true then
    ((gT v2 v3).bind fun v10 =>
    if (decide ((v1.length:Int)≠v10))=true then
     (some (([]:List (Nat×Nat)), 13))
    else
     ((dU v1).bind fun v11 =>
     (fV v11 1).bind fun v12 =>
     (bN v12 0).bind fun (v13, v14) =>
     (iX v2 v3 v4).bind fun v15 =>
     (gM v11 v15 true).bind fun v16 =>
     (run (cJ v10 v13 v14) (v16, 0)).bind fun v36 => match v36 with
     | (.inl _) =>
      some (([]:List (Nat×Nat)), 20)
     | (.inr v37) =>
      (fA v37).bind fun (v38, v39) =>
      some (v38, v39)))
   else
    (some (([]:List (Nat×Nat)), 22))))
noncomputable def lL(v1:Nat)(v2:Nat)(v3:Nat)(v4:Nat):Option (Bool) :=
 (fbits .f64 v1).bind fun v6 =>
 (fbits .f64 v3).bind fun v7 =>
 if (decide (v6=v7))=true then
  ((fbits .f64 v2).bind fun v8 =>
  (fbits .f64 v4).bind fun v9 =>
  some ((decide (v8=v9))))
 else
  (some (false))
noncomputable def dR(v1:(List (Nat×Nat)))(v2:(List (Nat×Nat))):(Int)→Option ((Int) ⊕ ((Unit) ⊕ (Unit))) := fun v4 =>
 if (decide (v4<(v1.length:Int)))=true then
  ((bN v1 v4).bind fun (v14, v15) =>
  (f2f .f32 v14 .f64).bind fun v16 =>
  (f2f .f32 v15 .f64).bind fun v17 =>
  (bN v2 v4).bind fun (v18, v19) =>
  (f2f .f32 v18 .f64).bind fun v20 =>
  (f2f .f32 v19 .f64).bind fun v21 =>
  (lL v16 v17 v20 v21).bind fun v22 =>
  if v22=true then
   (some (.inl (IntKind.i64.wrap (v4+1))))
  else
   (some (.inr (.inl ()))))
 else
  (some (.inr (.inr ())))
noncomputable def aR(v1:(List (Nat×Nat)))(v2:(List (Nat×Nat))):Option (Bool) :=
 if (decide ((v1.length:Int)≠(v2.length:Int)))=true then
  (some (false))
 else
  ((run (dR v1 v2) 0).bind fun v23 => match v23 with
  | (.inl _) =>
   some (false)
  | (.inr _) =>
   some (true))
noncomputable def gN(v1:(List (Nat×Nat)))(v2:Int)(v3:(List Int))(v4:Int):Option Bool :=
 (hU v1).bind fun v6 =>
 if v6=true then
  (if (decide ((v3.length:Int)>12))=true then
   (some (true))
  else
   ((aX v1).bind fun v7 =>
   (jZ v2 v3).bind fun (v8, v9) =>
   (cP v7 v8 v9 v4).bind fun (v10, v11) =>
   (aX v1).bind fun v12 =>
   (cQ v12 v2 v3 v4).bind fun (v13, v14) =>
   if (decide (v11=v14))=true then
    ((aR v10 v13).bind fun v15 =>
    some (v15))
   else
    (some (false))))
 else
  (some (true))
noncomputable def bY(v1:Nat):Option (Bool) :=
 (f2f .f32 v1 .f64).bind fun v3 =>
 (jV v3).bind fun v4 =>
 if (fcmp .eql .f64 v3 v4)=true then
  ((lB v3 0).bind fun v5 =>
  some ((!v5)))
 else
  (some (false))
noncomputable def fX(v1:Bool)(v2:Int):Option (Int) :=
 if v1=true then
  (some (v2))
 else
  (some (0))
noncomputable def rR(v1:(List Int)):(Int)→Option ((Int) ⊕ ((Int) ⊕ (Unit))) := fun v3 =>
 if (decide (v3<(v1.length:Int)))=true then
  ((bN v1 v3).bind fun v6 =>
  if (decide (v6≠0))=true then
   (some (.inr (.inl v6)))
  else
   (some (.inl (IntKind.i64.wrap (v3+1)))))
 else
  (some (.inr (.inr ())))
noncomputable def iK(v1:(List Int)):Option (Int) :=
 (run (rR v1) 0).bind fun v7 => match v7 with
 | (.inl v8) =>
  some (v8)
 | (.inr _) =>
  some (0)
noncomputable def tM(v1:Nat):Option (Int) :=
 (bY v1).bind fun v3 =>
 (fX (!v3) 27).bind fun v4 =>
 if (fcmp .lss .f32 v1 3338665472)=true then
  ((fX true 2).bind fun v5 =>
  (iK ([v4, v5]:List Int)).bind fun v6 =>
  some (v6))
 else
  ((fX (fcmp .gtr .f32 v1 1191181824) 2).bind fun v7 =>
  (iK ([v4, v7]:List Int)).bind fun v8 =>
  some (v8))
noncomputable def oE(v1:Int)(v2:Int)(v3:Int):Option (Int) :=
 if (decide (v1<v2))=true then
  ((fX true 2).bind fun v5 =>
  some (v5))
 else
  ((fX (decide (v1>v3)) 2).bind fun v6 =>
  some (v6))
noncomputable def wT(v1:Int):Option (Int) :=
 (oE v1 8000 192000).bind fun v3 =>
 some (v3)
noncomputable def oP(v2:(List Nat)):(Int)→Option ((Int) ⊕ ((Int×Int) ⊕ (Unit))) := fun v9 =>
 if (decide (v9<(v2.length:Int)))=true then
  ((bN v2 v9).bind fun v14 =>
  (tM v14).bind fun v15 =>
  if (decide (v15≠0))=true then
   (some (.inr (.inl (v9, v15))))
  else
   (some (.inl (IntKind.i64.wrap (v9+1)))))
 else
  (some (.inr (.inr ())))
noncomputable def rJ(v1:Int)(v2:(List Nat)):Option (Int×Int) :=
 (wT v1).bind fun v5 =>
 (fX (decide ((v2.length:Int)=0)) 10).bind fun v6 =>
 (fX (decide ((v2.length:Int)>1024)) 8).bind fun v7 =>
 (iK ([v5, v6, v7]:List Int)).bind fun v8 =>
 if (decide (v8≠0))=true then
  (some (0, v8))
 else
  ((run (oP v2) 0).bind fun v16 => match v16 with
  | (.inl (v17, v18)) =>
   some (v17, v18)
  | (.inr _) =>
   some (0, 0))
noncomputable def Nx(v1:Int)(v2:(List Nat))(v3:Int)(v4:Int):Option (Int×Int) :=
 (rJ v1 v2).bind fun (v7, v8) =>
 if (decide (v8≠0))=true then
  (some (v7, v8))
 else
  ((oE v3 0 32767).bind fun v9 =>
  (oE v4 0 1000000000000).bind fun v10 =>
  (iK ([v9, v10]:List Int)).bind fun v11 =>
  some (0, v11))
noncomputable def Ge(v1:Int):Option (Bool) :=
 (eF v1 8000 192000).bind fun v3 =>
 some (v3)
noncomputable def pD(v2:(List Nat)):(Int)→Option ((Int) ⊕ ((Int×Int) ⊕ (Unit))) := fun v6 =>
 if (decide (v6<(v2.length:Int)))=true then
  ((bN v2 v6).bind fun v12 =>
  (f2f .f32 v12 .f64).bind fun v13 =>
  (dG v13).bind fun v14 =>
  if v14=true then
   (if (fcmp .gtr .f64 v13 4674736138332667904)=true then
    (some (.inr (.inl (v6, 2))))
   else
    (if (fcmp .lss .f64 v13 13898108175187443712)=true then
     (some (.inr (.inl (v6, 2))))
    else
     (some (.inl (IntKind.i64.wrap (v6+1))))))
  else
   (some (.inr (.inl (v6, 27)))))
 else
  (some (.inr (.inr ())))
noncomputable def sK(v1:Int)(v2:(List Nat)):Option (Int×Int) :=
 (Ge v1).bind fun v5 =>
 if v5=true then
  (if (decide ((v2.length:Int)=0))=true then
   (some (0, 10))
  else
   (if (decide ((v2.length:Int)>1024))=true then
    (some (0, 8))
   else
    ((run (pD v2) 0).bind fun v15 => match v15 with
    | (.inl (v16, v17)) =>
     some (v16, v17)
    | (.inr _) =>
     some (0, 0))))
 else
  (some (0, 2))
noncomputable def Rz(v1:Int)(v2:(List Nat))(v3:Int)(v4:Int):Option (Int×Int) :=
 (sK v1 v2).bind fun (v7, v8) =>
 if (decide (v8≠0))=true then
  (some (v7, v8))
 else
  ((eF v3 0 32767).bind fun v9 =>
  if v9=true then
   ((eF v4 0 1000000000000).bind fun v10 =>
   if v10=true then
    (some (0, 0))
   else
    (some (0, 2)))
  else
   (some (0, 2)))
noncomputable def sX(v1:(List (Nat×Nat)))(v2:(List (Nat×Nat))):Option (Int) :=
 (eC v1).bind fun v4 =>
 if (decide (v4≠0))=true then
  (some (v4))
 else
  ((eC v2).bind fun v5 =>
  some (v5))
noncomputable def qK(v1:(List (Nat×Nat)))(v2:(List (Nat×Nat)))(v3:Bool)(v4:Int):Option (Int) :=
 (aN v1).bind fun v6 =>
 if (decide (v6≠0))=true then
  (some (v6))
 else
  ((aN v2).bind fun v7 =>
  if (decide (v7≠0))=true then
   (some (v7))
  else
   ((aB v3 v4).bind fun v8 =>
   if (decide (v8≠0))=true then
    (some (v8))
   else
    (some (0))))
noncomputable def gJ(v1:Int)(v2:Int)(v3:Int)(v4:Int):Option (Int×Int) :=
 some ((IntKind.i64.wrap ((IntKind.i64.wrap (v1*v3))-(IntKind.i64.wrap (v2*v4)))), (IntKind.i64.wrap ((IntKind.i64.wrap (v1*v4))+(IntKind.i64.wrap (v2*v3)))))
noncomputable def Ai(v2:(List (Int×Int)))(v6:Int)(v30:Int)(v31:Int):((List (Int×Int))×Int)→Option (((List (Int×Int))×Int) ⊕ (((List (Int×Int))))) := fun (v32, v33) =>
 if (decide (v33<(v2.length:Int)))=true then
  ((bN v2 v33).bind fun (v43, v44) =>
  (bN v32 (IntKind.i64.wrap (v6+v33))).bind fun (v45, v46) =>
  (gJ v30 v31 v43 v44).bind fun (v47, v48) =>
  (cH v45 v46 v47 v48).bind fun (v49, v50) =>
  some (.inl ((v32.set ((IntKind.i64.wrap (v6+v33))).toNat (v49, v50)), (IntKind.i64.wrap (v33+1)))))
 else
  (some (.inr v32))
noncomputable def Az(v1:(List (Int×Int)))(v2:(List (Int×Int))):((List (Int×Int))×Int)→Option (((List (Int×Int))×Int) ⊕ (((List (Int×Int))))) := fun (v5, v6) =>
 if (decide (v6<(v1.length:Int)))=true then
  ((bN v1 v6).bind fun (v30, v31) =>
  (run (Ai v2 v6 v30 v31) (v5, 0)).bind fun v51 =>
  some (.inl (v51, (IntKind.i64.wrap (v6+1)))))
 else
  (some (.inr v5))
noncomputable def Gx(v1:(List (Int×Int)))(v2:(List (Int×Int))):Option ((List (Int×Int))) :=
 (mkI 16 (IntKind.i64.wrap ((IntKind.i64.wrap ((v1.length:Int)+(v2.length:Int)))-1)) ((0, 0):(Int×Int))).bind fun v4 =>
 (run (Az v1 v2) (v4, 0)).bind fun v52 =>
 some (v52)
noncomputable def Hk(v1:(List (Nat×Nat)))(v2:(List (Nat×Nat))):Option ((List (Nat×Nat))×Int) :=
 (cT v1).bind fun v5 =>
 (cT v2).bind fun v6 =>
 (aC (decide ((IntKind.i64.wrap ((IntKind.i64.wrap ((v1.length:Int)+(v2.length:Int)))-1))>1024)) 8).bind fun (v7, v8) =>
 (qK v5 v6 v7 v8).bind fun v9 =>
 if (decide (v9≠0))=true then
  (some (([]:List (Nat×Nat)), v9))
 else
  ((aZ v1).bind fun v10 =>
  (aZ v2).bind fun v11 =>
  (Gx v10 v11).bind fun v12 =>
  (bX v12).bind fun (v13, v14) =>
  some (v13, v14))
noncomputable def qT(v1:Int)(v2:Int)(v3:Int)(v4:Int):Option (Int×Int) :=
 some ((IntKind.i64.wrap ((IntKind.i64.wrap (v1*v3))-(IntKind.i64.wrap (v2*v4)))), (IntKind.i64.wrap ((IntKind.i64.wrap (v1*v4))+(IntKind.i64.wrap (v2*v3)))))
noncomputable def Ab(v6:(List (Int×Int)))(v7:(List (Int×Int)))(v10:Int):((List (Int×Int))×Int)→Option (((List (Int×Int))×Int) ⊕ (((List (Int×Int))))) := fun (v32, v33) =>
 if (decide (v33<(v7.length:Int)))=true then
  ((bN v6 v10).bind fun (v43, v44) =>
  (bN v7 v33).bind fun (v45, v46) =>
  (qT v43 v44 v45 v46).bind fun (v47, v48) =>
  (bN v32 (IntKind.i64.wrap (v10+v33))).bind fun (v49, v50) =>
  some (.inl ((v32.set ((IntKind.i64.wrap (v10+v33))).toNat ((IntKind.i64.wrap (v49+v47)), (IntKind.i64.wrap (v50+v48)))), (IntKind.i64.wrap (v33+1)))))
 else
  (some (.inr v32))
noncomputable def Al(v6:(List (Int×Int)))(v7:(List (Int×Int))):((List (Int×Int))×Int)→Option (((List (Int×Int))×Int) ⊕ (((List (Int×Int))))) := fun (v9, v10) =>
 if (decide (v10<(v6.length:Int)))=true then
  ((run (Ab v6 v7 v10) (v9, 0)).bind fun v51 =>
  some (.inl (v51, (IntKind.i64.wrap (v10+1)))))
 else
  (some (.inr v9))
noncomputable def Hu(v1:(List (Nat×Nat)))(v2:(List (Nat×Nat))):Option ((List (Nat×Nat))×Int) :=
 (sX v1 v2).bind fun v5 =>
 if (decide (v5≠0))=true then
  (some (([]:List (Nat×Nat)), v5))
 else
  (if (decide ((IntKind.i64.wrap ((IntKind.i64.wrap ((v1.length:Int)+(v2.length:Int)))-1))>1024))=true then
   (some (([]:List (Nat×Nat)), 8))
  else
   ((dU v1).bind fun v6 =>
   (dU v2).bind fun v7 =>
   (mkI 16 (IntKind.i64.wrap ((IntKind.i64.wrap ((v1.length:Int)+(v2.length:Int)))-1)) ((0, 0):(Int×Int))).bind fun v8 =>
   (run (Al v6 v7) (v8, 0)).bind fun v52 =>
   (fA v52).bind fun (v53, v54) =>
   some (v53, v54)))
noncomputable def Ck(v1:(List (Nat×Nat))):Option ((List (Nat×Nat))) :=
 some (v1)
noncomputable def kU(v1:Int)(v2:Int):Option (Int×Int) :=
 some (v1, (IntKind.i64.wrap (0-v2)))
noncomputable def qH(v1:(List (Nat×Nat))):Option (Int) :=
 (bN v1 0).bind fun (v3, v4) =>
 (gD v3 v4).bind fun (v5, v6) =>
 (kU v5 v6).bind fun (v7, v8) =>
 (gJ v5 v6 v7 v8).bind fun (v9, v10) =>
 (aC (!([v9==1, v10==0].all id)) 15).bind fun (v11, v12) =>
 (aB v11 v12).bind fun v13 =>
 some (v13)
noncomputable def qM(v1:(List (Nat×Nat)))(v2:(List (Nat×Nat)))(v3:(List (Nat×Nat))):Option (Int) :=
 (aN v1).bind fun v5 =>
 if (decide (v5≠0))=true then
  (some (v5))
 else
  ((aN v2).bind fun v6 =>
  if (decide (v6≠0))=true then
   (some (v6))
  else
   ((qH v3).bind fun v7 =>
   if (decide (v7≠0))=true then
    (some (v7))
   else
    (some (0))))
noncomputable def uZ(v1:Int)(v2:Int)(v3:Int)(v4:Int):Option (Int×Int) :=
 some ((IntKind.i64.wrap (v1-v3)), (IntKind.i64.wrap (v2-v4)))
noncomputable def vZ(v9:(List (Int×Int)))(v15:(List (Int×Int)))(v16:Int):(Int×Int×Int)→Option ((Int×Int×Int) ⊕ ((Int×Int))) := fun (v48, v49, v50) =>
 if (decide (v50<v16))=true then
  ((bN v15 v50).bind fun (v61, v62) =>
  (bN v9 (IntKind.i64.wrap (v16-v50))).bind fun (v63, v64) =>
  (gJ v61 v62 v63 v64).bind fun (v65, v66) =>
  (uZ v48 v49 v65 v66).bind fun (v67, v68) =>
  some (.inl (v67, v68, (IntKind.i64.wrap (v50+1)))))
 else
  (some (.inr (v48, v49)))
noncomputable def vY(v9:(List (Int×Int)))(v12:Int)(v13:Int)(v14:(List (Int×Int))):((List (Int×Int))×Int)→Option (((List (Int×Int))×Int) ⊕ (((List (Int×Int))))) := fun (v15, v16) =>
 if (decide (v16<(v14.length:Int)))=true then
  ((bN v14 v16).bind fun (v46, v47) =>
  (run (vZ v9 v15 v16) (v46, v47, (if (IntKind.i64.wrap ((IntKind.i64.wrap (v16+1))-(v9.length:Int)))>0 then (IntKind.i64.wrap ((IntKind.i64.wrap (v16+1))-(v9.length:Int))) else 0))).bind fun (v69, v70) =>
  (gJ v69 v70 v12 v13).bind fun (v71, v72) =>
  (mW 16 v15 ([(v71, v72)]:List (Int×Int))).bind fun v73 =>
  some (.inl (v73, (IntKind.i64.wrap (v16+1)))))
 else
  (some (.inr v15))
noncomputable def Cf(v1:(List (Nat×Nat)))(v2:(List (Nat×Nat))):Option ((List (Nat×Nat))×Int) :=
 (cT v1).bind fun v5 =>
 (cT v2).bind fun v6 =>
 (Ck v2).bind fun v7 =>
 (qM v5 v6 v7).bind fun v8 =>
 if (decide (v8≠0))=true then
  (some (([]:List (Nat×Nat)), v8))
 else
  ((aZ v2).bind fun v9 =>
  (bN v9 0).bind fun (v10, v11) =>
  (kU v10 v11).bind fun (v12, v13) =>
  (aZ v1).bind fun v14 =>
  (run (vY v9 v12 v13 v14) (([]:List (Int×Int)), 0)).bind fun v74 =>
  (bX v74).bind fun (v75, v76) =>
  some (v75, v76))
noncomputable def tE(v1:Int):Option (Int×Int) :=
 (bN ([(1, 0), (0, 1), ((-1), 0), (0, (-1))]:List (Int×Int)) (v1.tmod 4)).bind fun (v4, v5) =>
 some (v4, v5)
noncomputable def xJ(v7:(List (Int×Int))):(Int×Int)→Option ((Int×Int) ⊕ ((Int))) := fun (v8, v9) =>
 if (decide (v9<4))=true then
  ((bN v7 0).bind fun (v15, v16) =>
  (tE v9).bind fun (v17, v18) =>
  if ([v15==v17, v16==v18].all id)=true then
   (some (.inl (v9, (IntKind.i64.wrap (v9+1)))))
  else
   (some (.inl (v8, (IntKind.i64.wrap (v9+1))))))
 else
  (some (.inr v8))
noncomputable def wG(v7:(List (Int×Int)))(v20:(List (Int×Int)))(v21:Int):(Int×Int×Int)→Option ((Int×Int×Int) ⊕ ((Int×Int))) := fun (v53, v54, v55) =>
 if (decide (v55≤v21))=true then
  (if (decide (v55<(v7.length:Int)))=true then
   ((bN v20 (IntKind.i64.wrap (v21-v55))).bind fun (v64, v65) =>
   (bN v7 v55).bind fun (v66, v67) =>
   (qT v64 v65 v66 v67).bind fun (v68, v69) =>
   some (.inl ((IntKind.i64.wrap (v53-v68)), (IntKind.i64.wrap (v54-v69)), (IntKind.i64.wrap (v55+1)))))
  else
   (some (.inr (v53, v54))))
 else
  (some (.inr (v53, v54)))
noncomputable def xG(v6:(List (Int×Int)))(v7:(List (Int×Int)))(v19:Int):((List (Int×Int))×Int)→Option (((List (Int×Int))×Int) ⊕ ((Unit) ⊕ ((List (Int×Int))))) := fun (v20, v21) =>
 if (decide (v21<(v6.length:Int)))=true then
  ((bN v6 v21).bind fun (v51, v52) =>
  (run (wG v7 v20 v21) (v51, v52, 1)).bind fun (v70, v71) =>
  (tE (IntKind.i64.wrap (4-v19))).bind fun (v72, v73) =>
  (qT v70 v71 v72 v73).bind fun (v74, v75) =>
  (lK v74).bind fun v76 =>
  if (decide (v76>16777216))=true then
   (some (.inr (.inl ())))
  else
   ((lK v75).bind fun v77 =>
   if (decide (v77>16777216))=true then
    (some (.inr (.inl ())))
   else
    ((mW 16 v20 ([(v74, v75)]:List (Int×Int))).bind fun v78 =>
    some (.inl (v78, (IntKind.i64.wrap (v21+1)))))))
 else
  (some (.inr (.inr v20)))
noncomputable def Cp(v1:(List (Nat×Nat)))(v2:(List (Nat×Nat))):Option ((List (Nat×Nat))×Int) :=
 (sX v1 v2).bind fun v5 =>
 if (decide (v5≠0))=true then
  (some (([]:List (Nat×Nat)), v5))
 else
  ((dU v1).bind fun v6 =>
  (dU v2).bind fun v7 =>
  (run (xJ v7) ((-1), 0)).bind fun v19 =>
  if (decide (v19<0))=true then
   (some (([]:List (Nat×Nat)), 15))
  else
   ((run (xG v6 v7 v19) (([]:List (Int×Int)), 0)).bind fun v79 => match v79 with
   | (.inl _) =>
    some (([]:List (Nat×Nat)), 8)
   | (.inr v80) =>
    (fA v80).bind fun (v81, v82) =>
    some (v81, v82)))
noncomputable def Mn(v1:(List (Nat×Nat)))(v2:(List (Nat×Nat))):Option Bool :=
 (hU v1).bind fun v4 =>
 if v4=true then
  ((hU v2).bind fun v5 =>
  if v5=true then
   ((aX v1).bind fun v6 =>
   (aX v2).bind fun v7 =>
   (Hk v6 v7).bind fun (v8, v9) =>
   (aX v1).bind fun v10 =>
   (aX v2).bind fun v11 =>
   (Cf v10 v11).bind fun (v12, v13) =>
   (aX v1).bind fun v14 =>
   (aX v2).bind fun v15 =>
   (Hu v14 v15).bind fun (v16, v17) =>
   (aX v1).bind fun v18 =>
   (aX v2).bind fun v19 =>
   (Cp v18 v19).bind fun (v20, v21) =>
   if (decide (v9=v17))=true then
    ((aR v8 v16).bind fun v22 =>
    if v22=true then
     (if (decide (v13=v21))=true then
      ((aR v12 v20).bind fun v23 =>
      some (v23))
     else
      (some (false)))
    else
     (some (false)))
   else
    (some (false)))
  else
   (some (true)))
 else
  (some (true))
noncomputable def qL(v1:(List (Nat×Nat)))(v2:Bool)(v3:Int):Option (Int) :=
 (aN v1).bind fun v5 =>
 if (decide (v5≠0))=true then
  (some (v5))
 else
  ((aB v2 v3).bind fun v6 =>
  if (decide (v6≠0))=true then
   (some (v6))
  else
   (some (0)))
noncomputable def fS(v1:(List (Int×Int)))(v2:Int):((List (Int×Int))×Int)→Option (((List (Int×Int))×Int) ⊕ (((List (Int×Int))))) := fun (v5, v6) =>
 if (decide (v6<(v1.length:Int)))=true then
  ((bN v1 v6).bind fun (v14, v15) =>
  if v2=0 then none else
  ((bN v5 (v6.tmod v2)).bind fun (v16, v17) =>
  (cH v16 v17 v14 v15).bind fun (v18, v19) =>
  some (.inl ((v5.set ((v6.tmod v2)).toNat (v18, v19)), (IntKind.i64.wrap (v6+1))))))
 else
  (some (.inr v5))
noncomputable def kQ(v1:(List (Int×Int)))(v2:Int):Option ((List (Int×Int))) :=
 (mkI 16 v2 ((0, 0):(Int×Int))).bind fun v4 =>
 (run (fS v1 v2) (v4, 0)).bind fun v20 =>
 some (v20)
noncomputable def vL(v1:(List (Nat×Nat)))(v2:Int):Option ((List (Nat×Nat))×Int) :=
 (cT v1).bind fun v5 =>
 (fU v2 1 1024).bind fun (v6, v7) =>
 (qL v5 v6 v7).bind fun v8 =>
 if (decide (v8≠0))=true then
  (some (([]:List (Nat×Nat)), v8))
 else
  ((aZ v1).bind fun v9 =>
  (kQ v9 v2).bind fun v10 =>
  (bX v10).bind fun (v11, v12) =>
  some (v11, v12))
noncomputable def qE(v1:(List (Nat×Nat)))(v2:Int)(v3:(List Int))(v4:Int)(v5:Int)(v6:(List Int)):Option (Int) :=
 (aN v1).bind fun v8 =>
 if (decide (v8≠0))=true then
  (some (v8))
 else
  ((cL v2 v3).bind fun v9 =>
  if (decide (v9≠0))=true then
   (some (v9))
  else
   ((aQ v4 v5 v6).bind fun v10 =>
   if (decide (v10≠0))=true then
    (some (v10))
   else
    (some (0))))
noncomputable def qN(v1:Int)(v2:Int)(v3:(List Int)):Option (Int) :=
 (bF (IntKind.i64.wrap (v1-v2)) v3).bind fun v5 =>
 some (v5)
noncomputable def qD(v1:(List (Int×Int)))(v2:(List Int))(v6:Int):((List (Int×Int))×Int)→Option (((List (Int×Int))×Int) ⊕ (((List (Int×Int))))) := fun (v30, v31) =>
 if (decide (v31<(v1.length:Int)))=true then
  ((bN v1 v31).bind fun (v42, v43) =>
  (bN v30 v6).bind fun (v44, v45) =>
  (qN v6 v31 v2).bind fun v46 =>
  (dH v42 v43 v46).bind fun (v47, v48) =>
  (cH v44 v45 v47 v48).bind fun (v49, v50) =>
  some (.inl ((v30.set v6.toNat (v49, v50)), (IntKind.i64.wrap (v31+1)))))
 else
  (some (.inr v30))
noncomputable def qJ(v1:(List (Int×Int)))(v2:(List Int))(v4:(List (Int×Int))):((List (Int×Int))×Int)→Option (((List (Int×Int))×Int) ⊕ (((List (Int×Int))))) := fun (v5, v6) =>
 if (decide (v6<(v4.length:Int)))=true then
  ((run (qD v1 v2 v6) (v5, 0)).bind fun v51 =>
  some (.inl (v51, (IntKind.i64.wrap (v6+1)))))
 else
  (some (.inr v5))
noncomputable def tF(v1:(List (Int×Int)))(v2:(List Int)):Option ((List (Int×Int))) :=
 (mkI 16 (v1.length:Int) ((0, 0):(Int×Int))).bind fun v4 =>
 (run (qJ v1 v2 v4) (v4, 0)).bind fun v52 =>
 some (v52)
noncomputable def sS(v1:(List (Nat×Nat)))(v2:Int)(v3:(List Int))(v4:Int):Option ((List (Nat×Nat))×Int) :=
 (cT v1).bind fun v7 =>
 (bB v2 v3 v4).bind fun (v8, v9, v10) =>
 (qE v7 v2 v3 v8 v9 v10).bind fun v11 =>
 if (decide (v11≠0))=true then
  (some (([]:List (Nat×Nat)), v11))
 else
  ((aZ v1).bind fun v12 =>
  (aE v2 v3).bind fun v13 =>
  (kQ v12 v13).bind fun v14 =>
  (cC v2 v3 v4).bind fun v15 =>
  (bX v14).bind fun (v16, v17) =>
  if (decide (v17≠0))=true then
   (some (([]:List (Nat×Nat)), v17))
  else
   ((tF v14 v15).bind fun v18 =>
   (bX v18).bind fun (v19, v20) =>
   some (v19, v20)))
noncomputable def uG(v1:(List (Nat×Nat)))(v2:Int):Option ((List (Nat×Nat))×Int) :=
 (eC v1).bind fun v5 =>
 if (decide (v5≠0))=true then
  (some (([]:List (Nat×Nat)), v5))
 else
  ((eF v2 1 1024).bind fun v6 =>
  if v6=true then
   ((dU v1).bind fun v7 =>
   (fV v7 v2).bind fun v8 =>
   (fA v8).bind fun (v9, v10) =>
   some (v9, v10))
  else
   (some (([]:List (Nat×Nat)), 2)))
noncomputable def tC(v1:(List (Nat×Nat)))(v2:Int)(v3:(List Int))(v4:Int):Option ((List (Nat×Nat))×Int) :=
 (eC v1).bind fun v7 =>
 if (decide (v7≠0))=true then
  (some (([]:List (Nat×Nat)), v7))
 else
  ((eD v2 v3 v4).bind fun v8 =>
  if (decide (v8≠0))=true then
   (some (([]:List (Nat×Nat)), v8))
  else
   ((dU v1).bind fun v9 =>
   (gT v2 v3).bind fun v10 =>
   (fV v9 v10).bind fun v11 =>
   (fA v11).bind fun (v12, v13) =>
   if (decide (v13≠0))=true then
    (some (([]:List (Nat×Nat)), v13))
   else
    ((iX v2 v3 v4).bind fun v14 =>
    (gM v11 v14 false).bind fun v15 =>
    (fA v15).bind fun (v16, v17) =>
    some (v16, v17))))
noncomputable def Jj(v1:(List (Nat×Nat)))(v2:Int)(v3:(List Int))(v4:Int)(v5:Int):Option Bool :=
 (hU v1).bind fun v7 =>
 if v7=true then
  (if (decide ((v3.length:Int)>12))=true then
   (some (true))
  else
   (if (decide (v5>300))=true then
    (if (decide (v5≤1024))=true then
     (some (true))
    else
     ((aX v1).bind fun v8 =>
     (vL v8 v5).bind fun (v9, v10) =>
     (aX v1).bind fun v11 =>
     (jZ v2 v3).bind fun (v12, v13) =>
     (sS v11 v12 v13 v4).bind fun (v14, v15) =>
     (aX v1).bind fun v16 =>
     (uG v16 v5).bind fun (v17, v18) =>
     (aX v1).bind fun v19 =>
     (tC v19 v2 v3 v4).bind fun (v20, v21) =>
     if (decide (v10=v18))=true then
      ((aR v9 v17).bind fun v22 =>
      if v22=true then
       (if (decide (v15=v21))=true then
        ((aR v14 v20).bind fun v23 =>
        some (v23))
       else
        (some (false)))
      else
       (some (false)))
     else
      (some (false))))
   else
    ((aX v1).bind fun v24 =>
    (vL v24 v5).bind fun (v25, v26) =>
    (aX v1).bind fun v27 =>
    (jZ v2 v3).bind fun (v28, v29) =>
    (sS v27 v28 v29 v4).bind fun (v30, v31) =>
    (aX v1).bind fun v32 =>
    (uG v32 v5).bind fun (v33, v34) =>
    (aX v1).bind fun v35 =>
    (tC v35 v2 v3 v4).bind fun (v36, v37) =>
    if (decide (v26=v34))=true then
     ((aR v25 v33).bind fun v38 =>
     if v38=true then
      (if (decide (v31=v37))=true then
       ((aR v30 v36).bind fun v39 =>
       some (v39))
      else
       (some (false)))
     else
      (some (false)))
    else
     (some (false)))))
 else
  (some (true))
end Go.Rex
