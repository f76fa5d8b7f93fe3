/- Facts on types and functions of the program. -/
import Derived.Test.YtecehdbekkllfaaGreatDoorS
import Derived.Test.YtecehdbekkllfaaGreatDoorRexG10
import Derived.Test.YtecehdbekkllfaaGreatDoorProg
set_option linter.unusedSimpArgs false
set_option linter.unusedVariables false
set_option linter.defProp false
namespace Go.Rex
open Go.Proofs
open Go Go.Rex Go.RowKit
set_option maxRecDepth 100000
theorem ag22:nG Tryz.prog 22=some false:=by kernel_rfl
theorem ag28:nG Tryz.prog 28=some false:=by kernel_rfl
theorem ag3:nG Tryz.prog 3=some false:=by kernel_rfl
theorem ag30:nG Tryz.prog 30=some true:=by kernel_rfl
theorem ag31:nG Tryz.prog 31=some false:=by kernel_rfl
theorem ag4:nG Tryz.prog 4=some false:=by kernel_rfl
theorem ag69:nG Tryz.prog 69=some false:=by kernel_rfl
theorem ar23:jL Tryz.prog 23=some (2,3):=by kernel_rfl
theorem by3:fU Tryz.prog 3=8:=by kernel_rfl
theorem by30:fU Tryz.prog 30=40:=by kernel_rfl
theorem cs3:Tryz.prog.cellsOf 3=1:=by kernel_rfl
theorem cs30:Tryz.prog.cellsOf 30=3:=by kernel_rfl
theorem cs69:Tryz.prog.cellsOf 69=1:=by kernel_rfl
theorem nV:gU Tryz.prog 30 0=some (0,3):=by kernel_rfl
theorem nY:gU Tryz.prog 30 1=some (1,28):=by kernel_rfl
theorem nL:gU Tryz.prog 30 2=some (2,3):=by kernel_rfl
theorem Dq:gU Tryz.prog 42 0=some (0,28):=by kernel_rfl
theorem Db:gU Tryz.prog 42 1=some (1,28):=by kernel_rfl
theorem Cz:gU Tryz.prog 42 2=some (2,3):=by kernel_rfl
theorem Do:gU Tryz.prog 42 3=some (3,3):=by kernel_rfl
theorem ni22:fV Tryz.prog (some 22)=true:=by kernel_rfl
theorem ni28:fV Tryz.prog (some 28)=true:=by kernel_rfl
theorem ok3:okT Tryz.prog 3=true:=by kernel_rfl
theorem ok30:okT Tryz.prog 30=true:=by kernel_rfl
theorem ok69:okT Tryz.prog 69=true:=by kernel_rfl
theorem so22:bA Tryz.prog 22=some 30:=by kernel_rfl
theorem so23:bA Tryz.prog 23=none:=by kernel_rfl
theorem so28:bA Tryz.prog 28=some 3:=by kernel_rfl
theorem so93:bA Tryz.prog 93=some 69:=by kernel_rfl
theorem st30:pB Tryz.prog 30=some [(0,1),(1,1),(2,1)]:=by kernel_rfl
theorem st42:pB Tryz.prog 42=some [(0,1),(1,1),(2,1),(3,1)]:=by kernel_rfl
theorem dJ:IntKind.i64.wrap (0+1)=1:=by decide
theorem qR:IntKind.i64.wrap (1+1)=2:=by decide
theorem Au:IntKind.i64.wrap (2+1)=3:=by decide
theorem Av:IntKind.i64.wrap (3+1)=4:=by decide
theorem zB:IntKind.i64.wrap (4+1)=5:=by decide
theorem zc3:fK Tryz.prog 3=some [.int .i64 0]:=by kernel_rfl
theorem zc30:fK Tryz.prog 30=some [.int .i64 0,.slice none 0 0,.int .i64 0]:=by kernel_rfl
theorem zc42:fK Tryz.prog 42=some [.slice none 0 0,.slice none 0 0,.int .i64 0,.int .i64 0]:=by kernel_rfl
theorem zc69:fK Tryz.prog 69=some [.nilFunc]:=by kernel_rfl
theorem Ep:cM Tryz.prog 4=true:=by kernel_rfl
theorem Ei:cM Tryz.prog 5=true:=by kernel_rfl
theorem Eo:cM Tryz.prog 6=true:=by kernel_rfl
theorem En:cM Tryz.prog 7=true:=by kernel_rfl
theorem lF:cM Tryz.prog 8=true:=by kernel_rfl
theorem mC:cM Tryz.prog 9=true:=by kernel_rfl
theorem lW:cM Tryz.prog 10=true:=by kernel_rfl
theorem yV:cM Tryz.prog 11=true:=by kernel_rfl
theorem zA:cM Tryz.prog 19=true:=by kernel_rfl
theorem sU:cM Tryz.prog 20=true:=by kernel_rfl
theorem zF:cM Tryz.prog 21=true:=by kernel_rfl
theorem zL:cM Tryz.prog 22=true:=by kernel_rfl
theorem qF:cM Tryz.prog 23=true:=by kernel_rfl
theorem vN:cM Tryz.prog 24=true:=by kernel_rfl
theorem Aw:cM Tryz.prog 25=true:=by kernel_rfl
theorem lV:cM Tryz.prog 26=true:=by kernel_rfl
theorem De:cM Tryz.prog 27=true:=by kernel_rfl
theorem uA:cM Tryz.prog 28=true:=by kernel_rfl
theorem Cp:cM Tryz.prog 29=true:=by kernel_rfl
theorem yT:cM Tryz.prog 30=true:=by kernel_rfl
theorem Ao:cM Tryz.prog 31=true:=by kernel_rfl
theorem Ac:cM Tryz.prog 32=true:=by kernel_rfl
theorem Az:cM Tryz.prog 44=true:=by kernel_rfl
theorem zS:cM Tryz.prog 45=true:=by kernel_rfl
theorem Du:cM Tryz.prog 46=true:=by kernel_rfl
theorem Ea:cM Tryz.prog 47=true:=by kernel_rfl
theorem lS:cM Tryz.prog 48=true:=by kernel_rfl
theorem zJ:cM Tryz.prog 49=true:=by kernel_rfl
theorem Dz:cM Tryz.prog 50=true:=by kernel_rfl
theorem Dd:cM Tryz.prog 51=true:=by kernel_rfl
theorem Dj:cM Tryz.prog 52=true:=by kernel_rfl
theorem Cw:cM Tryz.prog 53=true:=by kernel_rfl
theorem Da:cM Tryz.prog 71=true:=by kernel_rfl
def zn:=And.intro Bool.not_true k9
def zp.{u}:=@List.getElem?_toArray.{u}
def zs.{u,v}:=@Option.bind_some.{u,v}
def zl.{u}:=@List.toList_toArray.{u}
end Go.Rex
