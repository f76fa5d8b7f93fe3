/- The functions of the program and of the reference,as functions of lists and numbers. -/
import Derived.Test.YtdlghpacmamnfaaRexG10
set_option linter.unusedSimpArgs false
set_option linter.unusedVariables false
set_option linter.defProp false
namespace Go.Rex
open Go Go.Rex
def e_i(x:Int):List TV:=[.v (.int .i64 x)]
def Ai(x:(Int×Int)):TV:=.agg [.v (.int .i64 x.1),.v (.int .i64 x.2)]
def qG(x:(Int×Int)):Value:=.agg ⟨[(.int .i64 x.1),(.int .i64 x.2)]⟩
def k_i(x:Int):TV:=.v (.int .i64 x)
def Ce(x:Int):Value:=.int .i64 x
def e_ii(x:(Int×Int)):List TV:=[.v (.int .i64 x.1),.v (.int .i64 x.2)]
noncomputable def bY(v1:Int)(v2:Int)(v3:Int)(v4:Int)(v5:Int):Option (Int×Int×Int×Int×Int):=
 some (v1,v2,v3,v4,v5)
noncomputable def eC(v1:Int)(v2:Int):Option (Bool):=
 if (decide ((IntKind.i64.wrap (0-v2))≤v1))=true then
  (some ((decide (v1≤v2))))
 else
  (some (false))
noncomputable def bW(v1:(List Int))(v2:Int):(Int)→Option ((Int) ⊕ ((Unit) ⊕ (Unit))):=fun v4 =>
 if (decide (v4<(v1.length:Int)))=true then
  ((kB v1 v4).bind fun v7 =>
  (eC v7 v2).bind fun v8 =>
  if v8=true then
   (some (.inl (IntKind.i64.wrap (v4+1))))
  else
   (some (.inr (.inl ()))))
 else
  (some (.inr (.inr ())))
noncomputable def bZ(v1:(List Int))(v2:Int):Option (Int):=
 (run (bW v1 v2) 0).bind fun v9=>match v9 with
 | (.inl _) =>
  some (2)
 | (.inr _) =>
  some (0)
noncomputable def bM(v1:Int)(v2:Int)(v3:Int)(v4:Int)(v5:Int):Option (Int):=
 (bY v1 v2 v3 v4 v5).bind fun (v7,v8,v9,v10,v11) =>
 (bZ ([v7,v8,v9,v10,v11]:List Int) 32768).bind fun v12 =>
 some (v12)
noncomputable def bJ(v1:(List Int)):(Int)→Option ((Int) ⊕ ((Int) ⊕ (Unit))):=fun v3 =>
 if (decide (v3<(v1.length:Int)))=true then
  ((kB v1 v3).bind fun v6 =>
  if (decide (v6≠0))=true then
   (some (.inr (.inl v6)))
  else
   (some (.inl (IntKind.i64.wrap (v3+1)))))
 else
  (some (.inr (.inr ())))
noncomputable def cE(v1:(List Int)):Option (Int):=
 (run (bJ v1) 0).bind fun v7=>match v7 with
 | (.inl v8) =>
  some (v8)
 | (.inr _) =>
  some (0)
noncomputable def dW(v1:Int)(v2:Int):Option (Int):=
 if v2=0 then none else
 (some ((IntKind.i64.wrap ((IntKind.i64.wrap (v1-((IntKind.i64.wrap ((v1.tmod v2)+v2)).tmod v2))).tdiv v2))))
noncomputable def dX(v1:Int)(v2:Int):Option (Int):=
 (dW (IntKind.i64.wrap ((IntKind.i64.wrap (2*v1))+v2)) (IntKind.i64.wrap (2*v2))).bind fun v4 =>
 some (v4)
noncomputable def aX(v1:Int)(v2:Int)(v3:Int)(v4:Int)(v5:Int)(v6:Int)(v7:Int)(v8:Int)(v9:Int)(v10:Int):Option (Int×Bool×Int×Int×Int×Int×Int×Int×Int×Int×Int):=
 (dX (IntKind.i64.wrap ((IntKind.i64.wrap ((IntKind.i64.wrap ((IntKind.i64.wrap ((IntKind.i64.wrap (v1*v10))+(IntKind.i64.wrap (v2*v6))))+(IntKind.i64.wrap (v3*v7))))-(IntKind.i64.wrap (v4*v8))))-(IntKind.i64.wrap (v5*v9)))) 16384).bind fun v22 =>
 some ((if (if 32767<v22 then 32767 else v22)>(-32767) then (if 32767<v22 then 32767 else v22) else (-32767)),(decide ((if (if 32767<v22 then 32767 else v22)>(-32767) then (if 32767<v22 then 32767 else v22) else (-32767))≠v22)),v1,v2,v3,v4,v5,v10,v6,(if (if 32767<v22 then 32767 else v22)>(-32767) then (if 32767<v22 then 32767 else v22) else (-32767)),v8)
noncomputable def aM:(Int×Int×Int×Int×Int×Int×Int×Int×Int×(List ((Int×Int)×Int))×Int)→Option ((Int×Int×Int×Int×Int×Int×Int×Int×Int×(List ((Int×Int)×Int))×Int) ⊕ ((Int×Int) ⊕ (Unit))):=fun (v14,v15,v16,v17,v18,v19,v20,v21,v22,v23,v24) =>
 if (decide (v24<1001))=true then
  (((some ((mget v23 (v21,v22)).getD 0,(mget v23 (v21,v22)).isSome))).bind fun (v40,v41) =>
  if v41=true then
   (some (.inr (.inl (v40,(IntKind.i64.wrap (v24-v40))))))
  else
   ((aX v14 v15 v16 v17 v18 v19 v20 v21 v22 0).bind fun (v42,v43,v44,v45,v46,v47,v48,v49,v50,v51,v52) =>
   some (.inl (v44,v45,v46,v47,v48,v49,v50,v51,v52,(mset v23 (v21,v22) v24),(IntKind.i64.wrap (v24+1))))))
 else
  (some (.inr (.inr ())))
noncomputable def dD(v1:Int)(v2:Int)(v3:Int)(v4:Int)(v5:Int)(v6:Int)(v7:Int):Option (Int×Int×Int):=
 (bM v1 v2 v3 v4 v5).bind fun v11 =>
 (bZ ([v6,v7]:List Int) 32767).bind fun v12 =>
 (cE ([v11,v12]:List Int)).bind fun v13 =>
 if (decide (v13≠0))=true then
  (some (0,0,v13))
 else
  ((run (aM) (v1,v2,v3,v4,v5,0,0,v6,v7,([]:List ((Int×Int)×Int)),0)).bind fun v53=>match v53 with
  | (.inl (v54,v55)) =>
   some (v54,v55,0)
  | (.inr _) =>
   some (0,0,8))
noncomputable def dU(v1:Int)(v2:Int)(v3:Int):Option (Bool):=
 if (decide (v2≤v1))=true then
  (some ((decide (v1≤v3))))
 else
  (some (false))
noncomputable def bB(v1:Int)(v2:Int)(v3:Int)(v4:Int)(v5:Int):(Int)→Option ((Int) ⊕ ((Unit) ⊕ (Unit))):=fun v7 =>
 if (decide (v7<5))=true then
  ((kB ([v1,v2,v3,v4,v5]:List Int) v7).bind fun v10 =>
  (dU v10 (-32768) 32768).bind fun v11 =>
  if v11=true then
   (some (.inl (IntKind.i64.wrap (v7+1))))
  else
   (some (.inr (.inl ()))))
 else
  (some (.inr (.inr ())))
noncomputable def bV(v1:Int)(v2:Int)(v3:Int)(v4:Int)(v5:Int):Option (Int):=
 (run (bB v1 v2 v3 v4 v5) 0).bind fun v12=>match v12 with
 | (.inl _) =>
  some (2)
 | (.inr _) =>
  some (0)
noncomputable def bX(v1:Int):Option (Bool):=
 (dU v1 (-32767) 32767).bind fun v3 =>
 some (v3)
noncomputable def fM(v1:Int)(v2:Int):Option (Int):=
 if v2=0 then none else
 (if (decide ((v1.tmod v2)<0))=true then
  (some ((IntKind.i64.wrap ((IntKind.i64.wrap (v1.tdiv v2))-1))))
 else
  (some ((IntKind.i64.wrap (v1.tdiv v2)))))
noncomputable def bC(v1:Int)(v2:Int)(v3:Int)(v4:Int)(v5:Int)(v6:Int)(v7:Int)(v8:Int)(v9:Int)(v10:Int):Option (Int×Bool×Int×Int×Int×Int):=
 (fM (IntKind.i64.wrap ((IntKind.i64.wrap (2*(IntKind.i64.wrap ((IntKind.i64.wrap ((IntKind.i64.wrap ((IntKind.i64.wrap ((IntKind.i64.wrap (v1*v10))+(IntKind.i64.wrap (v2*v6))))+(IntKind.i64.wrap (v3*v7))))-(IntKind.i64.wrap (v4*v8))))-(IntKind.i64.wrap (v5*v9))))))+16384)) 32768).bind fun v17 =>
 (bX v17).bind fun v18 =>
 some ((if (if v17<32767 then v17 else 32767)>(-32767) then (if v17<32767 then v17 else 32767) else (-32767)),(!v18),v10,v6,(if (if v17<32767 then v17 else 32767)>(-32767) then (if v17<32767 then v17 else 32767) else (-32767)),v8)
noncomputable def bS(v17:(List (Int×Int)))(v18:Int)(v42:Int)(v43:Int):(Int)→Option ((Int) ⊕ ((Int×Int) ⊕ (Unit))):=fun v44 =>
 if (decide (v44<(v17.length:Int)))=true then
  ((kB v17 v44).bind fun (v49,v50) =>
  if ([v49==v42,v50==v43].all id)=true then
   (some (.inr (.inl (v44,(IntKind.i64.wrap (v18-v44))))))
  else
   (some (.inl (IntKind.i64.wrap (v44+1)))))
 else
  (some (.inr (.inr ())))
noncomputable def aQ(v1:Int)(v2:Int)(v3:Int)(v4:Int)(v5:Int):(Int×Int×Int×Int×(List (Int×Int))×Int)→Option ((Int×Int×Int×Int×(List (Int×Int))×Int) ⊕ ((Int×Int) ⊕ (Unit))):=fun (v13,v14,v15,v16,v17,v18) =>
 if (decide (v18≤1000))=true then
  ((bC v1 v2 v3 v4 v5 v13 v14 v15 v16 0).bind fun (v38,v39,v40,v41,v42,v43) =>
  (run (bS v17 v18 v42 v43) 0).bind fun v51=>match v51 with
  | (.inl (v52,v53)) =>
   some (.inr (.inl (v52,v53)))
  | (.inr _) =>
   (wM 16 v17 ([(v42,v43)]:List (Int×Int))).bind fun v54 =>
   some (.inl (v40,v41,v42,v43,v54,(IntKind.i64.wrap (v18+1)))))
 else
  (some (.inr (.inr ())))
noncomputable def dR(v1:Int)(v2:Int)(v3:Int)(v4:Int)(v5:Int)(v6:Int)(v7:Int):Option (Int×Int×Int):=
 (bX v6).bind fun v11 =>
 if v11=true then
  ((bX v7).bind fun v12 =>
  if v12=true then
   ((run (aQ v1 v2 v3 v4 v5) (0,0,v6,v7,([(v6,v7)]:List (Int×Int)),1)).bind fun v55=>match v55 with
   | (.inl (v56,v57)) =>
    some (v56,v57,0)
   | (.inr _) =>
    some (0,0,8))
  else
   (some (0,0,2)))
 else
  (some (0,0,2))
noncomputable def aH(v1:Int)(v2:Int)(v3:Int)(v4:Int)(v5:Int)(v9:Int)(v10:Int):(Int×Int×Int×Int×Int×Int×Int)→Option ((Int×Int×Int×Int×Int×Int×Int) ⊕ ((Unit) ⊕ (Unit))):=fun (v16,v17,v18,v19,v20,v21,v22) =>
 if (decide (v22≤(IntKind.i64.wrap (v9+v10))))=true then
  (if (decide (v22=v9))=true then
   (if (decide (v22=(IntKind.i64.wrap (v9+v10))))=true then
    (if ([v18==v18,v19==v19].all id)=true then
     ((bC v1 v2 v3 v4 v5 v16 v17 v18 v19 0).bind fun (v47,v48,v49,v50,v51,v52) =>
     some (.inl (v49,v50,v51,v52,v18,v19,(IntKind.i64.wrap (v22+1)))))
    else
     (some (.inr (.inl ()))))
   else
    ((bC v1 v2 v3 v4 v5 v16 v17 v18 v19 0).bind fun (v53,v54,v55,v56,v57,v58) =>
    some (.inl (v55,v56,v57,v58,v18,v19,(IntKind.i64.wrap (v22+1))))))
  else
   (if (decide (v22=(IntKind.i64.wrap (v9+v10))))=true then
    (if ([v18==v20,v19==v21].all id)=true then
     ((bC v1 v2 v3 v4 v5 v16 v17 v18 v19 0).bind fun (v59,v60,v61,v62,v63,v64) =>
     some (.inl (v61,v62,v63,v64,v20,v21,(IntKind.i64.wrap (v22+1)))))
    else
     (some (.inr (.inl ()))))
   else
    ((bC v1 v2 v3 v4 v5 v16 v17 v18 v19 0).bind fun (v65,v66,v67,v68,v69,v70) =>
    some (.inl (v67,v68,v69,v70,v20,v21,(IntKind.i64.wrap (v22+1)))))))
 else
  (some (.inr (.inr ())))
noncomputable def cZ(v1:Int)(v2:Int)(v3:Int)(v4:Int)(v5:Int)(v9:Int)(v10:Int):(Int×Int×Int×Int×Int×Int×Int)→Option ((Int×Int×Int×Int×Int×Int×Int) ⊕ ((Unit) ⊕ (Unit))):=fun (v72,v73,v74,v75,v76,v77,v78) =>
 if (decide (v78≤(IntKind.i64.wrap (v9+v10))))=true then
  (if (decide (v78=v9))=true then
   (if (decide (v78=(IntKind.i64.wrap (v9+v10))))=true then
    (if ([v74==v74,v75==v75].all id)=true then
     ((bC v1 v2 v3 v4 v5 v72 v73 v74 v75 0).bind fun (v103,v104,v105,v106,v107,v108) =>
     some (.inl (v105,v106,v107,v108,v74,v75,(IntKind.i64.wrap (v78+1)))))
    else
     (some (.inr (.inl ()))))
   else
    ((bC v1 v2 v3 v4 v5 v72 v73 v74 v75 0).bind fun (v109,v110,v111,v112,v113,v114) =>
    some (.inl (v111,v112,v113,v114,v74,v75,(IntKind.i64.wrap (v78+1))))))
  else
   (if (decide (v78=(IntKind.i64.wrap (v9+v10))))=true then
    (if ([v74==v76,v75==v77].all id)=true then
     ((bC v1 v2 v3 v4 v5 v72 v73 v74 v75 0).bind fun (v115,v116,v117,v118,v119,v120) =>
     some (.inl (v117,v118,v119,v120,v76,v77,(IntKind.i64.wrap (v78+1)))))
    else
     (some (.inr (.inl ()))))
   else
    ((bC v1 v2 v3 v4 v5 v72 v73 v74 v75 0).bind fun (v121,v122,v123,v124,v125,v126) =>
    some (.inl (v123,v124,v125,v126,v76,v77,(IntKind.i64.wrap (v78+1)))))))
 else
  (some (.inr (.inr ())))
noncomputable def cT(v1:Int)(v2:Int)(v3:Int)(v4:Int)(v5:Int)(v6:Int)(v7:Int):Option Bool:=
 (dD v1 v2 v3 v4 v5 v6 v7).bind fun (v9,v10,v11) =>
 (bV v1 v2 v3 v4 v5).bind fun v12 =>
 if (decide (v12=0))=true then
  ((dR v1 v2 v3 v4 v5 v6 v7).bind fun (v13,v14,v15) =>
  if (decide (v11≠v15))=true then
   (some (false))
  else
   (if ([v9==v13,v10==v14].all id)=true then
    (if (decide (v15≠0))=true then
     (some (true))
    else
     (if (decide ((IntKind.i64.wrap (v9+v10))>200))=true then
      (some (true))
     else
      ((run (aH v1 v2 v3 v4 v5 v9 v10) (0,0,v6,v7,0,0,0)).bind fun v71=>match v71 with
      | (.inl _) =>
       some (false)
      | (.inr _) =>
       if ([v4==0,v5==0].all id)=true then
        (some (([v9==v9,v10==1].all id)))
       else
        (some (true)))))
   else
    (some (false))))
 else
  (if (decide (v11≠v12))=true then
   (some (false))
  else
   (if ([v9==0,v10==0].all id)=true then
    (if (decide (v12≠0))=true then
     (some (true))
    else
     (if (decide ((IntKind.i64.wrap (v9+v10))>200))=true then
      (some (true))
     else
      ((run (cZ v1 v2 v3 v4 v5 v9 v10) (0,0,v6,v7,0,0,0)).bind fun v127=>match v127 with
      | (.inl _) =>
       some (false)
      | (.inr _) =>
       if ([v4==0,v5==0].all id)=true then
        (some (([v9==v9,v10==1].all id)))
       else
        (some (true)))))
   else
    (some (false))))
end Go.Rex
