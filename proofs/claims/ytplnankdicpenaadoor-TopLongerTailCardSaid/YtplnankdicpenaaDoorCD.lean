/- Calls of the closed examples, each known by what it can reach. -/
import Derived.Test.YtplnankdicpenaaDoorRexG10
import Derived.Test.YtplnankdicpenaaDoorProg
set_option linter.unusedSimpArgs false
set_option linter.unusedVariables false
set_option linter.defProp false
open Go Go.Rex
namespace Go.Rex
set_option maxRecDepth 100000
abbrev J (n : Int) : Value := .int .i64 n
abbrev Sl (n l c : Nat) : Value := .slice (some ⟨n, 0, none⟩) l c
abbrev Pt (n : Nat) : Value := .pointer (some ⟨n, 0, none⟩)
abbrev Hg (l : List Blk) : List Blk := List.append GH l
def q1 : Blk := .cells 1 [.float .f32 1090519040, .float .f32 1082130432, .float .f32 1073741824, .float .f32 1065353216, .float .f32 0]
def q2 : Blk := .cells 2 [J 85, J 85, J 21, J 21, J 5, J 5, J 1, J 1, J 0, J 0, J 0, J 0]
def q3 : Blk := .cells 0 [Sl 9 6 6]
def pc0 : PieceN := ⟨⟨87, [.float .f64 4620693217682128896], (Hg []), .float .f64 4620693217682128896⟩, []⟩
def pc1 : PieceN := ⟨⟨46, [.agg ⟨[J 8000, Sl 9 5 5]⟩], (Hg [q1]), .tuple ⟨[J 0, J 0]⟩⟩, []⟩
def pc2 : PieceN := ⟨⟨15, [.agg ⟨[J 8000, Sl 9 5 5, J 0, J 0]⟩], (Hg [q1]), Sl 11 6 6⟩, [.dead, q2]⟩
def pc3 : PieceN := ⟨⟨47, [Sl 9 6 6, .func (.func 48) ⟨[]⟩ ⟨[Pt 10, Pt 11]⟩], (Hg [q2, q3, .cells 0 [J 2]]), J 2⟩, []⟩
def pc4 : PieceN := ⟨⟨47, [Sl 9 6 6, .func (.func 50) ⟨[]⟩ ⟨[Pt 10, Pt 11]⟩], (Hg [q2, q3, .cells 0 [J 2]]), J 2⟩, []⟩
def pc5 : PieceN := ⟨⟨54, [.agg ⟨[J 8000, Sl 9 5 5, J 0, J 0]⟩, Pt 10], (Hg [q1, .cells 0 [J 0]]), .tuple ⟨[.agg ⟨[J 750, J 1500]⟩, J 0]⟩⟩, []⟩
def pc6 : PieceN := ⟨⟨47, [Sl 9 6 6, .func (.func 48) ⟨[]⟩ ⟨[Pt 10, Pt 11]⟩], (Hg [q2, q3, .cells 0 [J 1]]), J 1⟩, []⟩
def pc7 : PieceN := ⟨⟨47, [Sl 9 6 6, .func (.func 50) ⟨[]⟩ ⟨[Pt 10, Pt 11]⟩], (Hg [q2, q3, .cells 0 [J 1]]), J 1⟩, []⟩
def pc8 : PieceN := ⟨⟨47, [Sl 9 6 6, .func (.func 48) ⟨[]⟩ ⟨[Pt 10, Pt 11]⟩], (Hg [q2, q3, .cells 0 [J 5]]), J 4⟩, []⟩
def pc9 : PieceN := ⟨⟨47, [Sl 9 6 6, .func (.func 50) ⟨[]⟩ ⟨[Pt 10, Pt 11]⟩], (Hg [q2, q3, .cells 0 [J 5]]), J 4⟩, []⟩
def pc10 : PieceN := ⟨⟨19, [.agg ⟨[J 8000, Sl 9 5 5, J 0, J 0]⟩, J 1], (Hg [q1]), .tuple ⟨[.agg ⟨[J 750, J 1500]⟩, J 0]⟩⟩, []⟩
def pc11 : PieceN := ⟨⟨47, [Sl 9 6 6, .func (.func 48) ⟨[]⟩ ⟨[Pt 10, Pt 11]⟩], (Hg [q2, q3, .cells 0 [J 7]]), J 4⟩, []⟩
def pc12 : PieceN := ⟨⟨47, [Sl 9 6 6, .func (.func 50) ⟨[]⟩ ⟨[Pt 10, Pt 11]⟩], (Hg [q2, q3, .cells 0 [J 7]]), J 4⟩, []⟩
def pc13 : PieceN := ⟨⟨19, [.agg ⟨[J 8000, Sl 9 5 5, J 0, J 0]⟩, J 2], (Hg [q1]), .tuple ⟨[.agg ⟨[J 500, J 1000]⟩, J 0]⟩⟩, []⟩
def pc14 : PieceN := ⟨⟨51, [.agg ⟨[J 8000, Sl 9 5 5, J 0, J 0]⟩, J 0, J 5], (Hg [q1]), .agg ⟨[J 85, J 85]⟩⟩, []⟩
def pc15 : PieceN := ⟨⟨56, [.agg ⟨[J 8000, Sl 9 5 5, J 0, J 0]⟩, J 80000], (Hg [q1]), .tuple ⟨[.agg ⟨[J 0, J 0]⟩, J 12]⟩⟩, []⟩
def pc16 : PieceN := ⟨⟨21, [.agg ⟨[J 8000, Sl 9 5 5, J 0, J 0]⟩, J 50000], (Hg [q1]), .tuple ⟨[.agg ⟨[J 1000, J 1000]⟩, J 0]⟩⟩, []⟩
def pc17 : PieceN := ⟨⟨69, [.agg ⟨[J 8000, Sl 9 5 5, J 0, J 0]⟩], (Hg [q1]), .agg ⟨[J 27, J 27]⟩⟩, []⟩
def pc18 : PieceN := ⟨⟨58, [.agg ⟨[J 8000, Sl 9 5 5, J 0, J 0]⟩], (Hg [q1]), .tuple ⟨[.agg ⟨[J 39, J 40]⟩, J 0]⟩⟩, []⟩
def pc19 : PieceN := ⟨⟨22, [.agg ⟨[J 8000, Sl 9 5 5, J 0, J 0]⟩], (Hg [q1]), .agg ⟨[.bool true, .bool true, .bool true, .bool false, .bool true, .bool true, J 750, J 1500, J 750, J 1500, J 500, J 1000, J 0, J 0, J 1000, J 1000, J 39, J 40]⟩⟩, []⟩
def pc20 : PieceN := ⟨⟨23, [J 1500], (Hg []), .string ⟨⟨[49, 53, 48, 48]⟩⟩⟩, []⟩
def pc21 : PieceN := ⟨⟨24, [Sl 9 11 11, .string ⟨⟨[32]⟩⟩], (Hg [.cells 1 [.string ⟨⟨[55, 53, 48]⟩⟩, .string ⟨⟨[49, 53, 48, 48]⟩⟩, .string ⟨⟨[55, 53, 48]⟩⟩, .string ⟨⟨[49, 53, 48, 48]⟩⟩, .string ⟨⟨[53, 48, 48]⟩⟩, .string ⟨⟨[49, 48, 48, 48]⟩⟩, .string ⟨⟨[45]⟩⟩, .string ⟨⟨[49, 48, 48, 48]⟩⟩, .string ⟨⟨[49, 48, 48, 48]⟩⟩, .string ⟨⟨[51, 57]⟩⟩, .string ⟨⟨[52, 48]⟩⟩]]), .string ⟨⟨(List.append [55, 53, 48, 32, 49, 53, 48, 48, 32, 55, 53, 48, 32, 49, 53, 48, 48, 32, 53, 48, 48, 32, 49, 48, 48, 48, 32, 45, 32, 49, 48, 48, 48, 32, 49, 48, 48, 48, 32, 51] [57, 32, 52, 48])⟩⟩⟩, []⟩
def pc22 : PieceN := ⟨⟨13, [.agg ⟨[.bool true, .bool true, .bool true, .bool false, .bool true, .bool true, J 750, J 1500, J 750, J 1500, J 500, J 1000, J 0, J 0, J 1000, J 1000, J 39, J 40]⟩], (Hg []), .string ⟨⟨(List.append [55, 53, 48, 32, 49, 53, 48, 48, 32, 55, 53, 48, 32, 49, 53, 48, 48, 32, 53, 48, 48, 32, 49, 48, 48, 48, 32, 45, 32, 49, 48, 48, 48, 32, 49, 48, 48, 48, 32, 51] [57, 32, 52, 48])⟩⟩⟩, []⟩
end Go.Rex

open Go Go.Rex Go.Proofs
namespace Go.Rex
theorem follows : Tryd.prog.follows .mixedOrders = true := by decide +kernel
end Go.Rex
