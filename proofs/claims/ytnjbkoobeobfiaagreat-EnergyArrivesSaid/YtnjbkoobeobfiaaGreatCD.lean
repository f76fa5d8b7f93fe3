/- Calls of the closed examples, each known by what it can reach. -/
import Derived.Test.YtnjbkoobeobfiaaGreatRexG10
import Derived.Test.YtnjbkoobeobfiaaGreatProg
set_option linter.unusedSimpArgs false
set_option linter.unusedVariables false
set_option linter.defProp false
open Go Go.Rex
namespace Go.Rex
set_option maxRecDepth 100000
-- shoebox/hall.CheckHall
def pc0 : Piece := ⟨122, [.agg ⟨[.string ⟨⟨[104]⟩⟩, .int .i64 600, .string ⟨⟨[119]⟩⟩, .string ⟨⟨[119]⟩⟩, .slice (some ⟨0, 0, none⟩) 1 1, .slice (some ⟨1, 0, none⟩) 4 4, .slice (some ⟨2, 0, none⟩) 4 4, .slice none 0 0, .slice none 0 0]⟩], [.cells 6 [.string ⟨⟨[119]⟩⟩, .int .i64 100, .int .i64 100, .int .i64 100, .int .i64 100, .int .i64 0], .cells 2 [.int .i64 0, .int .i64 0, .int .i64 1000, .int .i64 0, .int .i64 1000, .int .i64 2000, .int .i64 0, .int .i64 2000], .cells 3 [.string ⟨⟨[97]⟩⟩, .string ⟨⟨[119]⟩⟩, .string ⟨⟨[]⟩⟩, .string ⟨⟨[98]⟩⟩, .string ⟨⟨[119]⟩⟩, .string ⟨⟨[]⟩⟩, .string ⟨⟨[99]⟩⟩, .string ⟨⟨[119]⟩⟩, .string ⟨⟨[]⟩⟩, .string ⟨⟨[100]⟩⟩, .string ⟨⟨[119]⟩⟩, .string ⟨⟨[]⟩⟩]], .tuple ⟨[.agg ⟨[.int .i64 0, .int .i64 0]⟩, .int .i64 0]⟩⟩
-- shoebox/image.FormatWalk
def pc1 : Piece := ⟨95, [.agg ⟨[.string ⟨⟨[104]⟩⟩, .int .i64 600, .string ⟨⟨[119]⟩⟩, .string ⟨⟨[119]⟩⟩, .slice (some ⟨0, 0, none⟩) 1 1, .slice (some ⟨1, 0, none⟩) 4 4, .slice (some ⟨2, 0, none⟩) 4 4, .slice none 0 0, .slice none 0 0]⟩, .slice (some ⟨3, 0, none⟩) 1 1], [.cells 6 [.string ⟨⟨[119]⟩⟩, .int .i64 100, .int .i64 100, .int .i64 100, .int .i64 100, .int .i64 0], .cells 2 [.int .i64 0, .int .i64 0, .int .i64 1000, .int .i64 0, .int .i64 1000, .int .i64 2000, .int .i64 0, .int .i64 2000], .cells 3 [.string ⟨⟨[97]⟩⟩, .string ⟨⟨[119]⟩⟩, .string ⟨⟨[]⟩⟩, .string ⟨⟨[98]⟩⟩, .string ⟨⟨[119]⟩⟩, .string ⟨⟨[]⟩⟩, .string ⟨⟨[99]⟩⟩, .string ⟨⟨[119]⟩⟩, .string ⟨⟨[]⟩⟩, .string ⟨⟨[100]⟩⟩, .string ⟨⟨[119]⟩⟩, .string ⟨⟨[]⟩⟩], .cells 1 [.int .i64 4]], .tuple ⟨[.string ⟨⟨[102, 108, 111, 111, 114]⟩⟩, .int .i64 0]⟩⟩
-- shoebox/energy.EnergyOf
def pc2 : Piece := ⟨41, [.agg ⟨[.string ⟨⟨[104]⟩⟩, .int .i64 600, .string ⟨⟨[119]⟩⟩, .string ⟨⟨[119]⟩⟩, .slice (some ⟨0, 0, none⟩) 1 1, .slice (some ⟨1, 0, none⟩) 4 4, .slice (some ⟨2, 0, none⟩) 4 4, .slice none 0 0, .slice none 0 0]⟩, .agg ⟨[.slice none 0 0, .slice none 0 0]⟩, .agg ⟨[.slice (some ⟨3, 0, none⟩) 1 1, .slice (some ⟨4, 0, none⟩) 1 1, .int .i64 50000]⟩, .agg ⟨[.int .i64 0, .int .i64 1000, .int .i64 34000]⟩], [.cells 6 [.string ⟨⟨[119]⟩⟩, .int .i64 100, .int .i64 100, .int .i64 100, .int .i64 100, .int .i64 0], .cells 2 [.int .i64 0, .int .i64 0, .int .i64 1000, .int .i64 0, .int .i64 1000, .int .i64 2000, .int .i64 0, .int .i64 2000], .cells 3 [.string ⟨⟨[97]⟩⟩, .string ⟨⟨[119]⟩⟩, .string ⟨⟨[]⟩⟩, .string ⟨⟨[98]⟩⟩, .string ⟨⟨[119]⟩⟩, .string ⟨⟨[]⟩⟩, .string ⟨⟨[99]⟩⟩, .string ⟨⟨[119]⟩⟩, .string ⟨⟨[]⟩⟩, .string ⟨⟨[100]⟩⟩, .string ⟨⟨[119]⟩⟩, .string ⟨⟨[]⟩⟩], .cells 1 [.int .i64 4], .cells 4 [.int .i64 0, .int .i64 0, .int .i64 0, .int .i64 0]], .tuple ⟨[.agg ⟨[.int .i64 17946053, .int .i64 17964018]⟩, .int .i64 0]⟩⟩
-- shoebox/hall.AbsorptionArea
def pc3 : Piece := ⟨101, [.agg ⟨[.string ⟨⟨[104]⟩⟩, .int .i64 600, .string ⟨⟨[119]⟩⟩, .string ⟨⟨[119]⟩⟩, .slice (some ⟨0, 0, none⟩) 1 1, .slice (some ⟨1, 0, none⟩) 4 4, .slice (some ⟨2, 0, none⟩) 4 4, .slice none 0 0, .slice none 0 0]⟩, .agg ⟨[.slice none 0 0, .slice none 0 0]⟩, .int .i64 0], [.cells 6 [.string ⟨⟨[119]⟩⟩, .int .i64 100, .int .i64 100, .int .i64 100, .int .i64 100, .int .i64 0], .cells 2 [.int .i64 0, .int .i64 0, .int .i64 1000, .int .i64 0, .int .i64 1000, .int .i64 2000, .int .i64 0, .int .i64 2000], .cells 3 [.string ⟨⟨[97]⟩⟩, .string ⟨⟨[119]⟩⟩, .string ⟨⟨[]⟩⟩, .string ⟨⟨[98]⟩⟩, .string ⟨⟨[119]⟩⟩, .string ⟨⟨[]⟩⟩, .string ⟨⟨[99]⟩⟩, .string ⟨⟨[119]⟩⟩, .string ⟨⟨[]⟩⟩, .string ⟨⟨[100]⟩⟩, .string ⟨⟨[119]⟩⟩, .string ⟨⟨[]⟩⟩]], .tuple ⟨[.agg ⟨[.int .i64 760000, .int .i64 760000]⟩, .int .i64 0]⟩⟩
-- (*shoebox/energy.room).surface
def pc4 : Piece := ⟨102, [.pointer (some ⟨0, 0, none⟩)], [.cells 0 [.string ⟨⟨[104]⟩⟩, .int .i64 600, .string ⟨⟨[119]⟩⟩, .string ⟨⟨[119]⟩⟩, .slice (some ⟨1, 0, none⟩) 1 1, .slice (some ⟨2, 0, none⟩) 4 4, .slice (some ⟨3, 0, none⟩) 4 4, .slice none 0 0, .slice none 0 0, .slice none 0 0, .slice none 0 0, .int .i64 6], .cells 6 [.string ⟨⟨[119]⟩⟩, .int .i64 100, .int .i64 100, .int .i64 100, .int .i64 100, .int .i64 0], .cells 2 [.int .i64 0, .int .i64 0, .int .i64 1000, .int .i64 0, .int .i64 1000, .int .i64 2000, .int .i64 0, .int .i64 2000], .cells 3 [.string ⟨⟨[97]⟩⟩, .string ⟨⟨[119]⟩⟩, .string ⟨⟨[]⟩⟩, .string ⟨⟨[98]⟩⟩, .string ⟨⟨[119]⟩⟩, .string ⟨⟨[]⟩⟩, .string ⟨⟨[99]⟩⟩, .string ⟨⟨[119]⟩⟩, .string ⟨⟨[]⟩⟩, .string ⟨⟨[100]⟩⟩, .string ⟨⟨[119]⟩⟩, .string ⟨⟨[]⟩⟩]], .agg ⟨[.int .i64 7600000, .int .i64 7600000]⟩⟩
end Go.Rex

open Go Go.Rex Go.Proofs
namespace Go.Rex
theorem follows : Tryz.prog.follows .mixedOrders = true := by decide +kernel
end Go.Rex
