/- Calls of the closed examples,each known by what it can reach. -/
import Derived.Test.YtecehdbekkllfaaGreatDoorRexG10
import Derived.Test.YtecehdbekkllfaaGreatDoorProg
set_option linter.unusedSimpArgs false
set_option linter.unusedVariables false
set_option linter.defProp false
open Go Go.Rex
namespace Go.Rex
set_option maxRecDepth 100000
abbrev J(n:Int):Value:=.int .i64 n
abbrev Sl(n l c:Nat):Value:=.slice (some ⟨n,0,none⟩) l c
abbrev Pt(n:Nat):Value:=.pointer (some ⟨n,0,none⟩)
abbrev Hg(l:List Blk):List Blk:=List.append GH l
def q1:Blk:=.cells 4 [J 0,.string ⟨⟨[97,110,110]⟩⟩,J 0,.string ⟨⟨[97,110,110,32,100,105,114,101,99,116,111,114]⟩⟩,J 1,.string ⟨⟨[97,110,110]⟩⟩,J 1,.string ⟨⟨[97,32,49,48,48]⟩⟩,J 2,.string ⟨⟨[97,110,110]⟩⟩,J 2,.string ⟨⟨[49,32,97,32,52]⟩⟩,J 3,.string ⟨⟨[97,110,110]⟩⟩,J 6,.string ⟨⟨[111,112,101,110,32,49,53,48,48]⟩⟩,J 4,.string ⟨⟨[97,110,110]⟩⟩,J 3,.string ⟨⟨[49]⟩⟩]
def q2:Blk:=.cells 2 [.string ⟨⟨[97,110,110]⟩⟩,J 0]
def q3:Blk:=.cells 1 [J 100]
def q4:Blk:=.cells 3 [J 1,.string ⟨⟨[97]⟩⟩,J 4]
def q5:Blk:=.cells 0 [.bool false]
def q6:Blk:=.cells 3 [J 10,Sl 13 1 1,J 4,J 12,Sl 14 1 1,J 2]
def pc0:PieceN:=⟨⟨23,[Sl 11 5 5],(Hg [.cells 1 [.func (.func 50) ⟨[]⟩ ⟨[Pt 12]⟩,.func (.func 50) ⟨[]⟩ ⟨[Pt 13]⟩,.func (.func 48) ⟨[]⟩ ⟨[Pt 14,Pt 15]⟩,.func (.func 48) ⟨[]⟩ ⟨[Pt 16,Pt 17]⟩,.func (.func 48) ⟨[]⟩ ⟨[Pt 18,Pt 19]⟩],.cells 0 [Sl 20 2 2],.cells 0 [Sl 21 2 2],q5,.cells 0 [J 13],q5,.cells 0 [J 2],q5,.cells 0 [J 2],.cells 1 [J 0,J 100],.cells 1 [J 100,J 99]]),J 0⟩,[]⟩
def pc1:PieceN:=⟨⟨12,[.agg ⟨[Sl 11 2 2,Sl 12 2 2,J 3,J 2]⟩],(Hg [.cells 1 [J 0,J 100],.cells 1 [J 100,J 99]]),.tuple ⟨[Sl 25 2 2,J 0]⟩⟩,[.dead,.dead,.dead,.dead,.dead,.dead,.dead,.dead,.dead,.dead,.dead,.dead,.cells 1 [J 67,J 99]]⟩
def pc2:PieceN:=⟨⟨46,[J 0,Pt 11],(Hg [.cells 0 [Sl 12 2 2],q6,q3,.cells 1 [J 0]]),J 0⟩,[]⟩
def pc3:PieceN:=⟨⟨46,[J 1,Pt 11],(Hg [.cells 0 [Sl 12 2 2],q6,q3,.cells 1 [J 0]]),J 0⟩,[]⟩
def pc4:PieceN:=⟨⟨9,[Sl 11 2 2,J 13],(Hg [.cells 3 [J 10,Sl 12 1 1,J 4,J 12,Sl 13 1 1,J 2],q3,.cells 1 [J 0]]),.tuple ⟨[Sl 26 1 1,J 0]⟩⟩,[.dead,.dead,.dead,.dead,.dead,.dead,.dead,.dead,.dead,.dead,.dead,.dead,.cells 1 [J 25]]⟩
def pc5:PieceN:=⟨⟨124,[.string ⟨⟨[97,110,110,32,100,105,114,101,99,116,111,114]⟩⟩,.int .u8 32],(Hg []),J 3⟩,[]⟩
def pc6:PieceN:=⟨⟨58,[.agg ⟨[J 0,.string ⟨⟨[97,110,110]⟩⟩,J 0,.string ⟨⟨[97,110,110,32,100,105,114,101,99,116,111,114]⟩⟩]⟩],(Hg []),.tuple ⟨[.agg ⟨[J 0,.string ⟨⟨[97,110,110]⟩⟩,J 0,.string ⟨⟨[97,110,110,32,100,105,114,101,99,116,111,114]⟩⟩,.string ⟨⟨[97,110,110]⟩⟩,J 0,.string ⟨⟨[]⟩⟩,.slice none 0 0,J 0,.string ⟨⟨[]⟩⟩,J 0,J 0,J 0]⟩,J 0]⟩⟩,[]⟩
def pc7:PieceN:=⟨⟨56,[.string ⟨⟨[49,48,48]⟩⟩,J 6],(Hg []),.tuple ⟨[J 100,.bool true]⟩⟩,[]⟩
def pc8:PieceN:=⟨⟨58,[.agg ⟨[J 1,.string ⟨⟨[97,110,110]⟩⟩,J 1,.string ⟨⟨[97,32,49,48,48]⟩⟩]⟩],(Hg []),.tuple ⟨[.agg ⟨[J 1,.string ⟨⟨[97,110,110]⟩⟩,J 1,.string ⟨⟨[97,32,49,48,48]⟩⟩,.string ⟨⟨[]⟩⟩,J 0,.string ⟨⟨[97]⟩⟩,Sl 25 1 1,J 0,.string ⟨⟨[]⟩⟩,J 0,J 0,J 0]⟩,J 0]⟩⟩,[.dead,.dead,.dead,.dead,.dead,.dead,.dead,.dead,.dead,.dead,.dead,.dead,.dead,.dead,q3,.dead]⟩
def pc9:PieceN:=⟨⟨58,[.agg ⟨[J 2,.string ⟨⟨[97,110,110]⟩⟩,J 2,.string ⟨⟨[49,32,97,32,52]⟩⟩]⟩],(Hg []),.tuple ⟨[.agg ⟨[J 2,.string ⟨⟨[97,110,110]⟩⟩,J 2,.string ⟨⟨[49,32,97,32,52]⟩⟩,.string ⟨⟨[]⟩⟩,J 0,.string ⟨⟨[]⟩⟩,.slice none 0 0,J 1,.string ⟨⟨[97]⟩⟩,J 4,J 0,J 0]⟩,J 0]⟩⟩,[]⟩
def pc10:PieceN:=⟨⟨23,[Sl 11 3 3],(Hg [.cells 1 [.func (.func 48) ⟨[]⟩ ⟨[Pt 12,Pt 13]⟩,.func (.func 68) ⟨[]⟩ ⟨[Pt 14,Pt 15]⟩,.func (.func 70) ⟨[]⟩ ⟨[Pt 16,Pt 14,Pt 15]⟩],q5,.cells 0 [J 9],.cells 0 [Pt 17],.cells 0 [J 2,.string ⟨⟨[97,110,110]⟩⟩,J 2,.string ⟨⟨[49,32,97,32,52]⟩⟩,.string ⟨⟨[]⟩⟩,J 0,.string ⟨⟨[]⟩⟩,.slice none 0 0,J 1,.string ⟨⟨[97]⟩⟩,J 4,J 0,J 0],.cells 0 [.func (.func 89) ⟨[]⟩ ⟨[]⟩,.func (.func 90) ⟨[]⟩ ⟨[]⟩,.func (.func 91) ⟨[]⟩ ⟨[]⟩],.cells 0 [J 2,J 0,J 1,Sl 18 1 1,Sl 19 1 1,.slice none 0 0,.slice none 0 0,.string ⟨⟨[]⟩⟩,.string ⟨⟨[]⟩⟩,J (-1),.slice none 0 0],q2,.cells 2 [.string ⟨⟨[97]⟩⟩,Sl 20 1 1],q3]),J 0⟩,[]⟩
def pc11:PieceN:=⟨⟨195,[.string ⟨⟨[49,53,48,48]⟩⟩],(Hg []),.tuple ⟨[J 1500,.bool true]⟩⟩,[]⟩
def pc12:PieceN:=⟨⟨58,[.agg ⟨[J 3,.string ⟨⟨[97,110,110]⟩⟩,J 6,.string ⟨⟨[111,112,101,110,32,49,53,48,48]⟩⟩]⟩],(Hg []),.tuple ⟨[.agg ⟨[J 3,.string ⟨⟨[97,110,110]⟩⟩,J 6,.string ⟨⟨[111,112,101,110,32,49,53,48,48]⟩⟩,.string ⟨⟨[]⟩⟩,J 0,.string ⟨⟨[]⟩⟩,.slice none 0 0,J 0,.string ⟨⟨[]⟩⟩,J 0,J 0,J 1500]⟩,J 0]⟩⟩,[]⟩
def pc13:PieceN:=⟨⟨58,[.agg ⟨[J 4,.string ⟨⟨[97,110,110]⟩⟩,J 3,.string ⟨⟨[49]⟩⟩]⟩],(Hg []),.tuple ⟨[.agg ⟨[J 4,.string ⟨⟨[97,110,110]⟩⟩,J 3,.string ⟨⟨[49]⟩⟩,.string ⟨⟨[]⟩⟩,J 0,.string ⟨⟨[]⟩⟩,.slice none 0 0,J 0,.string ⟨⟨[]⟩⟩,J 0,J 1,J 0]⟩,J 0]⟩⟩,[]⟩
def pc14:PieceN:=⟨⟨93,[Pt 11,.agg ⟨[J 4,.string ⟨⟨[97,110,110]⟩⟩,J 3,.string ⟨⟨[49]⟩⟩,.string ⟨⟨[]⟩⟩,J 0,.string ⟨⟨[]⟩⟩,.slice none 0 0,J 0,.string ⟨⟨[]⟩⟩,J 0,J 1,J 0]⟩],(Hg [.cells 0 [J 4,J 0,J 3,Sl 12 1 1,Sl 13 1 1,Sl 14 1 1,.slice none 0 0,.string ⟨⟨[]⟩⟩,.string ⟨⟨[]⟩⟩,J 1500,.slice none 0 0],q2,.cells 2 [.string ⟨⟨[97]⟩⟩,Sl 15 1 1],q4,q3]),J 0⟩,[]⟩
def pc15:PieceN:=⟨⟨184,[Sl 11 1 1,.func (.func 185) ⟨[]⟩ ⟨[Pt 12]⟩],(Hg [q4,.cells 0 [J 1]]),J 0⟩,[]⟩
def pc16:PieceN:=⟨⟨33,[Sl 11 5 5],(Hg [q1]),.tuple ⟨[Pt 13,J 0,J 0]⟩⟩,(List.append [.dead,.cells 0 [J 5,J 0,J 4,Sl 24 1 1,Sl 51 1 1,Sl 62 1 1,Sl 87 1 1,.string ⟨⟨[]⟩⟩,.string ⟨⟨[]⟩⟩,J 1500,.slice none 0 0],.dead,.dead,.dead,.dead,.dead,.dead,.dead,.dead,.dead,.dead,q2,.dead,.dead,.dead,.dead,.dead,.dead,.dead,.dead,.dead,.dead,.dead,.dead,.dead,.dead,.dead,.dead,q3,.dead,.dead,.dead,.dead,.dead,.dead,.dead,.dead,.dead,.cells 2 [.string ⟨⟨[97]⟩⟩,Sl 41 1 1]] [.dead,.dead,.dead,.dead,.dead,.dead,.dead,.dead,.dead,.dead,q4,.dead,.dead,.dead,.dead,.dead,.dead,.dead,.dead,.dead,.dead,.dead,.dead,.dead,.dead,.dead,.dead,.dead,.dead,.dead,.dead,.dead,q3,.dead,.dead,.cells 3 [J 4,Sl 84 1 1,J 4]])⟩
def pc17:PieceN:=⟨⟨34,[.string ⟨⟨[53,32,97,110,110,32,115,101,116,116,105,110,103,32,45,32,45]⟩⟩],(Hg []),.tuple ⟨[.agg ⟨[J 5,.string ⟨⟨[97,110,110]⟩⟩,J 4,.string ⟨⟨[45,32,45]⟩⟩]⟩,.bool true]⟩⟩,[]⟩
def pc18:PieceN:=⟨⟨58,[.agg ⟨[J 5,.string ⟨⟨[97,110,110]⟩⟩,J 4,.string ⟨⟨[45,32,45]⟩⟩]⟩],(Hg []),.tuple ⟨[.agg ⟨[J 5,.string ⟨⟨[97,110,110]⟩⟩,J 4,.string ⟨⟨[45,32,45]⟩⟩,.string ⟨⟨[]⟩⟩,J 0,.string ⟨⟨[]⟩⟩,.slice none 0 0,J 0,.string ⟨⟨[]⟩⟩,J 0,J 0,J 0]⟩,J 0]⟩⟩,[]⟩
def pc19:PieceN:=⟨⟨33,[Sl 11 1 5],(Hg [q1]),.tuple ⟨[Pt 13,J 0,J 0]⟩⟩,[.dead,.cells 0 [J 1,J 0,J 0,Sl 24 1 1,.slice none 0 0,.slice none 0 0,.slice none 0 0,.string ⟨⟨[]⟩⟩,.string ⟨⟨[]⟩⟩,J (-1),.slice none 0 0],.dead,.dead,.dead,.dead,.dead,.dead,.dead,.dead,.dead,.dead,q2]⟩
def pc20:PieceN:=⟨⟨81,[Sl 11 4 4,.string ⟨⟨[32]⟩⟩],(Hg [.cells 1 [.string ⟨⟨[48]⟩⟩,.string ⟨⟨[97,110,110]⟩⟩,.string ⟨⟨[112,101,114,115,111,110]⟩⟩,.string ⟨⟨[97,110,110,32,100,105,114,101,99,116,111,114]⟩⟩]]),.string ⟨⟨[48,32,97,110,110,32,112,101,114,115,111,110,32,97,110,110,32,100,105,114,101,99,116,111,114]⟩⟩⟩,[]⟩
def pc21:PieceN:=⟨⟨42,[.agg ⟨[J 0,.string ⟨⟨[97,110,110]⟩⟩,J 0,.string ⟨⟨[97,110,110,32,100,105,114,101,99,116,111,114]⟩⟩]⟩,J 1],(Hg []),.tuple ⟨[.string ⟨⟨[48,32,97,110,110,32,112,101,114,115,111,110,32,97,110,110,32,100,105,114,101,99,116,111,114,32,53,48,51,57,56]⟩⟩,J 50398]⟩⟩,[]⟩
def pc22:PieceN:=⟨⟨34,[.string ⟨⟨[48,32,97,110,110,32,112,101,114,115,111,110,32,97,110,110,32,100,105,114,101,99,116,111,114]⟩⟩],(Hg []),.tuple ⟨[.agg ⟨[J 0,.string ⟨⟨[97,110,110]⟩⟩,J 0,.string ⟨⟨[97,110,110,32,100,105,114,101,99,116,111,114]⟩⟩]⟩,.bool true]⟩⟩,[]⟩
def pc23:PieceN:=⟨⟨81,[Sl 11 3 3,.string ⟨⟨[32]⟩⟩],(Hg [.cells 1 [.string ⟨⟨[48]⟩⟩,.string ⟨⟨[]⟩⟩,.string ⟨⟨[112,101,114,115,111,110]⟩⟩]]),.string ⟨⟨[48,32,32,112,101,114,115,111,110]⟩⟩⟩,[]⟩
def pc24:PieceN:=⟨⟨42,[.agg ⟨[J 0,.string ⟨⟨[]⟩⟩,J 0,.string ⟨⟨[]⟩⟩]⟩,J 50398],(Hg []),.tuple ⟨[.string ⟨⟨[48,32,32,112,101,114,115,111,110,32,50,48,50,48,55]⟩⟩,J 20207]⟩⟩,[]⟩
def pc25:PieceN:=⟨⟨17,[.string ⟨⟨[48,32,97,110,110,32,112,101,114,115,111,110,32,97,110,110,32,100,105,114,101,99,116,111,114,32,53,48,51,57,56,10]⟩⟩],(Hg []),.tuple ⟨[Sl 24 1 1,J 32,J 0]⟩⟩,[.dead,.dead,.dead,.dead,.dead,.dead,.dead,.dead,.dead,.dead,.dead,.dead,.dead,.cells 4 [J 0,.string ⟨⟨[97,110,110]⟩⟩,J 0,.string ⟨⟨[97,110,110,32,100,105,114,101,99,116,111,114]⟩⟩],.dead]⟩
def pc26:PieceN:=⟨⟨38,[Sl 11 1 5],(Hg [q1]),.string ⟨⟨[48,32,97,110,110,32,112,101,114,115,111,110,32,97,110,110,32,100,105,114,101,99,116,111,114,32,53,48,51,57,56,10]⟩⟩⟩,[]⟩
end Go.Rex
open Go.Proofs
open Go Go.Rex Go.RowKit
namespace Go.Rex
theorem follows:Tryz.prog.follows .mixedOrders=true:=by decide +kernel
end Go.Rex
