/- The functions of the program and of the reference,as functions of lists and numbers. -/
import Derived.Test.YtecehdbekkllfaaGreatDoorRexG9
set_option linter.unusedSimpArgs false
set_option linter.unusedVariables false
set_option linter.defProp false
namespace Go.Rex
open Go Go.Rex
def e_i(x:Int):List TV:=[.v (.int .i64 x)]
def e_iLi_i(x:(Int×(List Int)×Int)):List TV:=[.v (.int .i64 x.1),.list 1 (x.2.1.map e_i),.v (.int .i64 x.2.2)]
noncomputable def dY(v1:(List Int)):Option (Bool):=
 some ((decide ((v1.length:Int)≤10)))
noncomputable def aS(v1:(List (Int×(List Int)×Int))):(Int)→Option ((Int) ⊕ ((Unit) ⊕ (Unit))):=fun v3 =>
 if (decide (v3<(v1.length:Int)))=true then
  ((cJ v1 v3).bind fun (v8,v9,v10) =>
  (dY v9).bind fun v11 =>
  if v11=true then
   (some (.inl (IntKind.i64.wrap (v3+1))))
  else
   (some (.inr (.inl ()))))
 else
  (some (.inr (.inr ())))
noncomputable def aR(v1:(List (Int×(List Int)×Int))):(Int)→Option ((Int) ⊕ ((Unit) ⊕ (Unit))):=fun v13 =>
 if (decide (v13<(v1.length:Int)))=true then
  ((cJ v1 v13).bind fun (v18,v19,v20) =>
  (dY v19).bind fun v21 =>
  if v21=true then
   (some (.inl (IntKind.i64.wrap (v13+1))))
  else
   (some (.inr (.inl ()))))
 else
  (some (.inr (.inr ())))
noncomputable def eJ(v1:(List (Int×(List Int)×Int))):Option (Bool):=
 if (decide ((v1.length:Int)>8))=true then
  (if (decide ((v1.length:Int)≤40))=true then
   (some (false))
  else
   (if (decide ((v1.length:Int)>42))=true then
    (some (false))
   else
    ((run (aS v1) 0).bind fun v12=>match v12 with
    | (.inl _) =>
     some (false)
    | (.inr _) =>
     some (true))))
 else
  (if (decide ((v1.length:Int)>42))=true then
   (some (false))
  else
   ((run (aR v1) 0).bind fun v22=>match v22 with
   | (.inl _) =>
    some (false)
   | (.inr _) =>
    some (true)))
noncomputable def dP(v1:Int)(v2:Int)(v3:Int):Option (Bool):=
 if (decide (v2≤v1))=true then
  (some ((decide (v1≤v3))))
 else
  (some (false))
noncomputable def bV(v1:(List Int)):(Int)→Option ((Int) ⊕ ((Unit) ⊕ (Unit))):=fun v4 =>
 if (decide (v4<(v1.length:Int)))=true then
  ((cJ v1 v4).bind fun v7 =>
  (dP v7 0 1000).bind fun v8 =>
  if v8=true then
   (some (.inl (IntKind.i64.wrap (v4+1))))
  else
   (some (.inr (.inl ()))))
 else
  (some (.inr (.inr ())))
noncomputable def cW(v1:(List Int)):Option (Int):=
 (dP (v1.length:Int) 1 8).bind fun v3 =>
 if v3=true then
  ((run (bV v1) 0).bind fun v9=>match v9 with
  | (.inl _) =>
   some (2)
  | (.inr _) =>
   some (0))
 else
  (some (10))
noncomputable def eW(v1:Int):Option (Bool):=
 (dP v1 0 1000).bind fun v3 =>
 some (v3)
noncomputable def bN(v1:(List (Int×(List Int)×Int))):(Int)→Option ((Int) ⊕ ((Int×Int) ⊕ (Unit))):=fun v4 =>
 if (decide (v4<(v1.length:Int)))=true then
  ((cJ v1 v4).bind fun (v24,v25,v26) =>
  (dP v24 0 100000000).bind fun v27 =>
  if v27=true then
   (if (decide (v4>0))=true then
    ((cJ v1 (IntKind.i64.wrap (v4-1))).bind fun (v28,v29,v30) =>
    if (decide (v24<v28))=true then
     (some (.inr (.inl (v4,9))))
    else
     ((cW v25).bind fun v31 =>
     if (decide (v31≠0))=true then
      (some (.inr (.inl (v4,v31))))
     else
      ((cJ v1 0).bind fun (v32,v33,v34) =>
      if (decide ((v25.length:Int)≠(v33.length:Int)))=true then
       (some (.inr (.inl (v4,13))))
      else
       ((eW v26).bind fun v35 =>
       if v35=true then
        (some (.inl (IntKind.i64.wrap (v4+1))))
       else
        (some (.inr (.inl (v4,2))))))))
   else
    ((cW v25).bind fun v36 =>
    if (decide (v36≠0))=true then
     (some (.inr (.inl (v4,v36))))
    else
     ((cJ v1 0).bind fun (v37,v38,v39) =>
     if (decide ((v25.length:Int)≠(v38.length:Int)))=true then
      (some (.inr (.inl (v4,13))))
     else
      ((eW v26).bind fun v40 =>
      if v40=true then
       (some (.inl (IntKind.i64.wrap (v4+1))))
      else
       (some (.inr (.inl (v4,2))))))))
  else
   (some (.inr (.inl (v4,2)))))
 else
  (some (.inr (.inr ())))
noncomputable def dK(v1:(List (Int×(List Int)×Int))):Option (Int×Int):=
 if (decide ((v1.length:Int)>40))=true then
  (some (0,8))
 else
  ((run (bN v1) 0).bind fun v41=>match v41 with
  | (.inl (v42,v43)) =>
   some (v42,v43)
  | (.inr _) =>
   some (0,0))
noncomputable def fZ(v1:(List Int)):Option ((List Int)):=
 (qP 8 ([]:List Int) v1).bind fun v3 =>
 some (v3)
noncomputable def bW(v1:(List (Int×(List Int)×Int))):((List (Int×(List Int)×Int))×Int)→Option (((List (Int×(List Int)×Int))×Int) ⊕ (((List (Int×(List Int)×Int))))):=fun (v3,v4) =>
 if (decide (v4<(v1.length:Int)))=true then
  ((cJ v1 v4).bind fun (v11,v12,v13) =>
  (fZ v12).bind fun v14 =>
  (qP 40 v3 ([(v11,v14,v13)]:List (Int×(List Int)×Int))).bind fun v15 =>
  some (.inl (v15,(IntKind.i64.wrap (v4+1)))))
 else
  (some (.inr v3))
noncomputable def aF(v1:(List (Int×(List Int)×Int))):Option ((List (Int×(List Int)×Int))):=
 (run (bW v1) (([]:List (Int×(List Int)×Int)),0)).bind fun v16 =>
 some (v16)
noncomputable def dZ(v1:Int)(v2:Int)(v3:Int):Option (Bool):=
 if (decide (v2≤v1))=true then
  (some ((decide (v1≤v3))))
 else
  (some (false))
noncomputable def bE(v1:Bool)(v2:Int):Option (Bool×Int):=
 some (v1,v2)
noncomputable def dQ(v1:Int)(v2:Int)(v3:Int):Option (Bool×Int):=
 (dZ v1 v2 v3).bind fun v6 =>
 (bE (!v6) 2).bind fun (v7,v8) =>
 some (v7,v8)
noncomputable def iF(v1:Int):Option (Bool×Int):=
 (dQ v1 0 100000000).bind fun (v4,v5) =>
 some (v4,v5)
noncomputable def fP(v1:(List Int)):Option ((List Int)):=
 some (v1)
noncomputable def fM(v1:Int):Option (Bool×Int):=
 (dQ v1 0 1000).bind fun (v4,v5) =>
 some (v4,v5)
noncomputable def aG(v1:Bool)(v2:Int):Option (Int):=
 if v1=true then
  (some (v2))
 else
  (some (0))
noncomputable def cK(v1:Int)(v2:(List Int)):Option (Int):=
 (cJ v2 v1).bind fun v4 =>
 (dQ v4 0 1000).bind fun (v5,v6) =>
 (aG v5 v6).bind fun v7 =>
 some (v7)
noncomputable def aY(v1:Int)(v2:(List Int)):(Int)→Option ((Int) ⊕ ((Int×Int) ⊕ (Unit))):=fun v5 =>
 if (decide (v5<v1))=true then
  ((cK v5 v2).bind fun v9 =>
  if (decide (v9≠0))=true then
   (some (.inr (.inl (v5,v9))))
  else
   (some (.inl (IntKind.i64.wrap (v5+1)))))
 else
  (some (.inr (.inr ())))
noncomputable def cG(v1:Int)(v2:(List Int)):Option (Int×Int):=
 (run (aY v1 v2) 0).bind fun v10=>match v10 with
 | (.inl (v11,v12)) =>
  some (v11,v12)
 | (.inr _) =>
  some (0,0)
noncomputable def bB(v1:Int)(v2:Int):Option (Int):=
 some (v2)
noncomputable def aX(v1:Int):Option (Int):=
 some (v1)
noncomputable def dB(v1:Bool)(v2:Int)(v3:Int):Option (Int):=
 (aG v1 v2).bind fun v5 =>
 if (decide (v5≠0))=true then
  (some (v5))
 else
  ((aX v3).bind fun v6 =>
  if (decide (v6≠0))=true then
   (some (v6))
  else
   (some (0)))
noncomputable def cH(v1:(List Int)):Option (Int):=
 (dZ (v1.length:Int) 1 8).bind fun v3 =>
 (bE (!v3) 10).bind fun (v4,v5) =>
 (cG (v1.length:Int) v1).bind fun (v6,v7) =>
 (bB v6 v7).bind fun v8 =>
 (dB v4 v5 v8).bind fun v9 =>
 some (v9)
noncomputable def bF(v1:Bool)(v2:Int)(v3:Bool)(v4:Int)(v5:(List Int))(v6:Bool)(v7:Int)(v8:Bool)(v9:Int):Option (Int):=
 (aG v1 v2).bind fun v11 =>
 if (decide (v11≠0))=true then
  (some (v11))
 else
  ((aG v3 v4).bind fun v12 =>
  if (decide (v12≠0))=true then
   (some (v12))
  else
   ((cH v5).bind fun v13 =>
   if (decide (v13≠0))=true then
    (some (v13))
   else
    ((aG v6 v7).bind fun v14 =>
    if (decide (v14≠0))=true then
     (some (v14))
    else
     ((aG v8 v9).bind fun v15 =>
     if (decide (v15≠0))=true then
      (some (v15))
     else
      (some (0))))))
noncomputable def bG(v1:Int)(v2:(List (Int×(List Int)×Int))):Option (Int):=
 (cJ v2 v1).bind fun (v4,v5,v6) =>
 (iF v4).bind fun (v7,v8) =>
 if (decide (v1>0))=true then
  ((cJ v2 (IntKind.i64.wrap (v1-1))).bind fun (v9,v10,v11) =>
  (bE (decide (v4<v9)) 9).bind fun (v12,v13) =>
  (fP v5).bind fun v14 =>
  (cJ v2 0).bind fun (v15,v16,v17) =>
  (bE (decide ((v5.length:Int)≠(v16.length:Int))) 13).bind fun (v18,v19) =>
  (fM v6).bind fun (v20,v21) =>
  (bF v7 v8 v12 v13 v14 v18 v19 v20 v21).bind fun v22 =>
  some (v22))
 else
  ((bE false 9).bind fun (v23,v24) =>
  (fP v5).bind fun v25 =>
  (cJ v2 0).bind fun (v26,v27,v28) =>
  (bE (decide ((v5.length:Int)≠(v27.length:Int))) 13).bind fun (v29,v30) =>
  (fM v6).bind fun (v31,v32) =>
  (bF v7 v8 v23 v24 v25 v29 v30 v31 v32).bind fun v33 =>
  some (v33))
noncomputable def aW(v1:Int)(v2:(List (Int×(List Int)×Int))):(Int)→Option ((Int) ⊕ ((Int×Int) ⊕ (Unit))):=fun v5 =>
 if (decide (v5<v1))=true then
  ((bG v5 v2).bind fun v9 =>
  if (decide (v9≠0))=true then
   (some (.inr (.inl (v5,v9))))
  else
   (some (.inl (IntKind.i64.wrap (v5+1)))))
 else
  (some (.inr (.inr ())))
noncomputable def cY(v1:Int)(v2:(List (Int×(List Int)×Int))):Option (Int×Int):=
 (run (aW v1 v2) 0).bind fun v10=>match v10 with
 | (.inl (v11,v12)) =>
  some (v11,v12)
 | (.inr _) =>
  some (0,0)
noncomputable def cX(v1:(List (Int×(List Int)×Int))):Option (Int×Int):=
 if (decide ((v1.length:Int)>40))=true then
  (some (0,8))
 else
  ((cY (v1.length:Int) v1).bind fun (v4,v5) =>
  some (v4,v5))
noncomputable def bH(v1:Int)(v2:Bool)(v3:Int):Option (Int):=
 (aX v1).bind fun v5 =>
 if (decide (v5≠0))=true then
  (some (v5))
 else
  ((aG v2 v3).bind fun v6 =>
  if (decide (v6≠0))=true then
   (some (v6))
  else
   (some (0)))
noncomputable def eF(v1:(List (Int×(List Int)×Int))):Option (Int×Int):=
 (cX v1).bind fun (v4,v5) =>
 (bB v4 v5).bind fun v6 =>
 (bE (decide ((v1.length:Int)=0)) 12).bind fun (v7,v8) =>
 (bH v6 v7 v8).bind fun v9 =>
 if (decide (v9≠0))=true then
  (some (0,v9))
 else
  ((cJ v1 (IntKind.i64.wrap ((v1.length:Int)-1))).bind fun (v10,v11,v12) =>
  some ((IntKind.i64.wrap (v10+v12)),0))
noncomputable def eE(v1:Int)(v2:Int):Option (Int):=
 if v2=0 then none else
 (if (decide ((v1.tmod v2)<0))=true then
  (some ((IntKind.i64.wrap ((v1.tmod v2)+v2))))
 else
  (some ((v1.tmod v2))))
noncomputable def cC(v1:(List Int)):Option ((List Int)):=
 nilq v1
  (some (([]:List Int)))
  ((qP 8 ([]:List Int) v1).bind fun v3 =>
  some (v3))
noncomputable def jE(v1:Int)(v2:Int):Option (Int):=
 if v2=0 then none else
 (some ((IntKind.i64.wrap ((IntKind.i64.wrap (v1-((IntKind.i64.wrap ((v1.tmod v2)+v2)).tmod v2))).tdiv v2))))
noncomputable def fN(v1:Int)(v2:Int):Option (Int):=
 (jE (IntKind.i64.wrap ((IntKind.i64.wrap (2*v1))+v2)) (IntKind.i64.wrap (2*v2))).bind fun v4 =>
 some (v4)
noncomputable def cP(v1:(List Int))(v2:(List Int))(v3:Int)(v4:Int):((List Int)×Int)→Option (((List Int)×Int) ⊕ (((List Int)))):=fun (v7,v8) =>
 if (decide (v8<(v1.length:Int)))=true then
  ((cJ v1 v8).bind fun v14 =>
  (cJ v2 v8).bind fun v15 =>
  (fN (IntKind.i64.wrap ((IntKind.i64.wrap (v15-v14))*v4)) v3).bind fun v16 =>
  (cJ v7 v8).bind fun v17 =>
  some (.inl ((v7.set v8.toNat (IntKind.i64.wrap (v14+v16))),(IntKind.i64.wrap (v8+1)))))
 else
  (some (.inr v7))
noncomputable def eA(v1:(List Int))(v2:(List Int))(v3:Int)(v4:Int):Option ((List Int)):=
 (cC v2).bind fun v6 =>
 if (decide (v4=v3))=true then
  (some (v6))
 else
  ((run (cP v1 v2 v3 v4) (v6,0)).bind fun v18 =>
  some (v18))
noncomputable def dG(v1:(List (Int×(List Int)×Int)))(v2:Int):((List Int)×Int)→Option (((List Int)×Int) ⊕ (((List Int)))):=fun (v8,v9) =>
 if (decide (v9<(v1.length:Int)))=true then
  ((cJ v1 v9).bind fun (v19,v20,v21) =>
  if (decide (v19>v2))=true then
   (some (.inr v8))
  else
   (if (decide ((IntKind.i64.wrap (v9+1))<(v1.length:Int)))=true then
    ((cJ v1 (IntKind.i64.wrap (v9+1))).bind fun (v22,v23,v24) =>
    (eA v8 v20 v21 (if v21<(IntKind.i64.wrap ((if v22<v2 then v22 else v2)-v19)) then v21 else (IntKind.i64.wrap ((if v22<v2 then v22 else v2)-v19)))).bind fun v25 =>
    some (.inl (v25,(IntKind.i64.wrap (v9+1)))))
   else
    ((eA v8 v20 v21 (if v21<(IntKind.i64.wrap (v2-v19)) then v21 else (IntKind.i64.wrap (v2-v19)))).bind fun v26 =>
    some (.inl (v26,(IntKind.i64.wrap (v9+1)))))))
 else
  (some (.inr v8))
noncomputable def eZ(v1:(List (Int×(List Int)×Int)))(v2:Int):Option ((List Int)):=
 if (decide ((v1.length:Int)=0))=true then
  (some (([]:List Int)))
 else
  ((cJ v1 0).bind fun (v4,v5,v6) =>
  (mkI 8 (v5.length:Int) (0:Int)).bind fun v7 =>
  (run (dG v1 v2) (v7,0)).bind fun v27 =>
  some (v27))
noncomputable def aE(v1:(List (Int×(List Int)×Int)))(v2:Int):Option ((List Int)×Int):=
 (cX v1).bind fun (v5,v6) =>
 (bB v5 v6).bind fun v7 =>
 (dQ v2 0 200000000).bind fun (v8,v9) =>
 (bH v7 v8 v9).bind fun v10 =>
 if (decide (v10≠0))=true then
  (some (([]:List Int),v10))
 else
  ((eZ v1 v2).bind fun v11 =>
  some (v11,0))
noncomputable def eP(v1:(List Int))(v2:(List Int)):(Int)→Option ((Int) ⊕ ((Unit) ⊕ (Unit))):=fun v4 =>
 if (decide (v4<(v1.length:Int)))=true then
  ((cJ v1 v4).bind fun v7 =>
  (cJ v2 v4).bind fun v8 =>
  if (decide (v7≠v8))=true then
   (some (.inr (.inl ())))
  else
   (some (.inl (IntKind.i64.wrap (v4+1)))))
 else
  (some (.inr (.inr ())))
noncomputable def fD(v1:(List Int))(v2:(List Int)):Option (Bool):=
 if (decide ((v1.length:Int)≠(v2.length:Int)))=true then
  (some (false))
 else
  ((run (eP v1 v2) 0).bind fun v9=>match v9 with
  | (.inl _) =>
   some (false)
  | (.inr _) =>
   some (true))
noncomputable def bS(v9:(List Int))(v24:(List Int))(v30:(List Int))(v33:(List Int)):(Int)→Option ((Int) ⊕ ((Unit) ⊕ (Unit))):=fun v35 =>
 if (decide (v35<(v24.length:Int)))=true then
  ((cJ v9 v35).bind fun v42 =>
  (cJ v24 v35).bind fun v43 =>
  if (decide (v42≥v43))=true then
   ((cJ v33 v35).bind fun v44 =>
   (cJ v30 v35).bind fun v45 =>
   if (decide (v44<v45))=true then
    (some (.inr (.inl ())))
   else
    (some (.inl (IntKind.i64.wrap (v35+1)))))
  else
   ((cJ v33 v35).bind fun v46 =>
   (cJ v30 v35).bind fun v47 =>
   if (decide (v46>v47))=true then
    (some (.inr (.inl ())))
   else
    (some (.inl (IntKind.i64.wrap (v35+1))))))
 else
  (some (.inr (.inr ())))
noncomputable def bX(v9:(List Int))(v24:(List Int))(v52:(List Int))(v55:(List Int)):(Int)→Option ((Int) ⊕ ((Unit) ⊕ (Unit))):=fun v57 =>
 if (decide (v57<(v24.length:Int)))=true then
  ((cJ v9 v57).bind fun v64 =>
  (cJ v24 v57).bind fun v65 =>
  if (decide (v64≥v65))=true then
   ((cJ v55 v57).bind fun v66 =>
   (cJ v52 v57).bind fun v67 =>
   if (decide (v66<v67))=true then
    (some (.inr (.inl ())))
   else
    (some (.inl (IntKind.i64.wrap (v57+1)))))
  else
   ((cJ v55 v57).bind fun v68 =>
   (cJ v52 v57).bind fun v69 =>
   if (decide (v68>v69))=true then
    (some (.inr (.inl ())))
   else
    (some (.inl (IntKind.i64.wrap (v57+1))))))
 else
  (some (.inr (.inr ())))
noncomputable def bR(v9:(List Int))(v24:(List Int))(v74:(List Int))(v77:(List Int)):(Int)→Option ((Int) ⊕ ((Unit) ⊕ (Unit))):=fun v79 =>
 if (decide (v79<(v24.length:Int)))=true then
  ((cJ v9 v79).bind fun v86 =>
  (cJ v24 v79).bind fun v87 =>
  if (decide (v86≥v87))=true then
   ((cJ v77 v79).bind fun v88 =>
   (cJ v74 v79).bind fun v89 =>
   if (decide (v88<v89))=true then
    (some (.inr (.inl ())))
   else
    (some (.inl (IntKind.i64.wrap (v79+1)))))
  else
   ((cJ v77 v79).bind fun v90 =>
   (cJ v74 v79).bind fun v91 =>
   if (decide (v90>v91))=true then
    (some (.inr (.inl ())))
   else
    (some (.inl (IntKind.i64.wrap (v79+1))))))
 else
  (some (.inr (.inr ())))
noncomputable def fB(v1:(List (Int×(List Int)×Int)))(v2:Int)(v3:Int):Option Bool:=
 (eJ v1).bind fun v5 =>
 if v5=true then
  (if (decide ((v1.length:Int)=0))=true then
   (some (true))
  else
   ((dK v1).bind fun (v6,v7) =>
   if (decide (v7≠0))=true then
    (some (true))
   else
    ((cJ v1 (IntKind.i64.wrap ((v1.length:Int)-1))).bind fun (v8,v9,v10) =>
    (aF v1).bind fun v11 =>
    (eF v11).bind fun (v12,v13) =>
    (aF v1).bind fun v14 =>
    (eE v2 1000).bind fun v15 =>
    (aE v14 (IntKind.i64.wrap ((IntKind.i64.wrap (v8+v10))+v15))).bind fun (v16,v17) =>
    if (decide (v13≠0))=true then
     (some (false))
    else
     (if (decide (v12≠(IntKind.i64.wrap (v8+v10))))=true then
      (some (false))
     else
      (if (decide (v17≠0))=true then
       (some (false))
      else
       ((fD v16 v9).bind fun v18 =>
       if v18=true then
        ((yH v1 0 (IntKind.i64.wrap ((v1.length:Int)-1))).bind fun v19 =>
        (aF v19).bind fun v20 =>
        (aE v20 v8).bind fun (v21,v22) =>
        (aF v1).bind fun v23 =>
        (aE v23 v8).bind fun (v24,v25) =>
        if (decide (v22≠0))=true then
         (some (false))
        else
         (if (decide (v25≠0))=true then
          (some (false))
         else
          (if (decide ((v24.length:Int)≠(v9.length:Int)))=true then
           (some (false))
          else
           (if (decide ((v1.length:Int)>1))=true then
            (if (decide (v10>0))=true then
             ((fD v24 v21).bind fun v26 =>
             if v26=true then
              ((eE v2 (IntKind.i64.wrap (v10+1))).bind fun v27 =>
              (eE v3 (IntKind.i64.wrap ((IntKind.i64.wrap (v10-v27))+1))).bind fun v28 =>
              (aF v1).bind fun v29 =>
              (aE v29 (IntKind.i64.wrap (v8+v27))).bind fun (v30,v31) =>
              (aF v1).bind fun v32 =>
              (aE v32 (IntKind.i64.wrap (v8+(IntKind.i64.wrap (v27+v28))))).bind fun (v33,v34) =>
              if (decide (v31≠0))=true then
               (some (false))
              else
               (if (decide (v34≠0))=true then
                (some (false))
               else
                (if (decide ((v30.length:Int)≠(v24.length:Int)))=true then
                 (some (false))
                else
                 (if (decide ((v33.length:Int)≠(v24.length:Int)))=true then
                  (some (false))
                 else
                  ((run (bS v9 v24 v30 v33) 0).bind fun v48=>match v48 with
                  | (.inl _) =>
                   some (false)
                  | (.inr _) =>
                   some (true))))))
             else
              (some (false)))
            else
             ((eE v2 (IntKind.i64.wrap (v10+1))).bind fun v49 =>
             (eE v3 (IntKind.i64.wrap ((IntKind.i64.wrap (v10-v49))+1))).bind fun v50 =>
             (aF v1).bind fun v51 =>
             (aE v51 (IntKind.i64.wrap (v8+v49))).bind fun (v52,v53) =>
             (aF v1).bind fun v54 =>
             (aE v54 (IntKind.i64.wrap (v8+(IntKind.i64.wrap (v49+v50))))).bind fun (v55,v56) =>
             if (decide (v53≠0))=true then
              (some (false))
             else
              (if (decide (v56≠0))=true then
               (some (false))
              else
               (if (decide ((v52.length:Int)≠(v24.length:Int)))=true then
                (some (false))
               else
                (if (decide ((v55.length:Int)≠(v24.length:Int)))=true then
                 (some (false))
                else
                 ((run (bX v9 v24 v52 v55) 0).bind fun v70=>match v70 with
                 | (.inl _) =>
                  some (false)
                 | (.inr _) =>
                  some (true)))))))
           else
            ((eE v2 (IntKind.i64.wrap (v10+1))).bind fun v71 =>
            (eE v3 (IntKind.i64.wrap ((IntKind.i64.wrap (v10-v71))+1))).bind fun v72 =>
            (aF v1).bind fun v73 =>
            (aE v73 (IntKind.i64.wrap (v8+v71))).bind fun (v74,v75) =>
            (aF v1).bind fun v76 =>
            (aE v76 (IntKind.i64.wrap (v8+(IntKind.i64.wrap (v71+v72))))).bind fun (v77,v78) =>
            if (decide (v75≠0))=true then
             (some (false))
            else
             (if (decide (v78≠0))=true then
              (some (false))
             else
              (if (decide ((v74.length:Int)≠(v24.length:Int)))=true then
               (some (false))
              else
               (if (decide ((v77.length:Int)≠(v24.length:Int)))=true then
                (some (false))
               else
                ((run (bR v9 v24 v74 v77) 0).bind fun v92=>match v92 with
                | (.inl _) =>
                 some (false)
                | (.inr _) =>
                 some (true))))))))))
       else
        (some (false))))))))
 else
  (some (true))
end Go.Rex
