/- Calls of the closed examples are as told. -/
import Derived.Test.YtecehdbekkllfaaGreatDoorCD
set_option linter.unusedSimpArgs false
set_option linter.unusedVariables false
set_option linter.defProp false
open Go Go.Rex Go.Proofs
namespace Go.Rex
set_option maxRecDepth 100000
theorem pok0:bY Tryz.prog pc0:=aL follows (tab:=[]) (aP) (k:=100000) (d:=100) (by decide +kernel)
end Go.Rex
open Go Go.Rex Go.Proofs
namespace Go.Rex
set_option maxRecDepth 100000
theorem pok1:bY Tryz.prog pc1:=aL follows (tab:=[pc0]) (aD pok0 (aP)) (k:=100000) (d:=100) (by decide +kernel)
end Go.Rex
open Go Go.Rex Go.Proofs
namespace Go.Rex
set_option maxRecDepth 100000
theorem pok2:bY Tryz.prog pc2:=aL follows (tab:=[]) (aP) (k:=100000) (d:=100) (by decide +kernel)
end Go.Rex
open Go Go.Rex Go.Proofs
namespace Go.Rex
set_option maxRecDepth 100000
theorem pok3:bY Tryz.prog pc3:=aL follows (tab:=[]) (aP) (k:=100000) (d:=100) (by decide +kernel)
end Go.Rex
open Go Go.Rex Go.Proofs
namespace Go.Rex
set_option maxRecDepth 100000
theorem pok4:bY Tryz.prog pc4:=aL follows (tab:=[pc2,pc3]) (aD pok2 (aD pok3 (aP))) (k:=100000) (d:=100) (by decide +kernel)
end Go.Rex
open Go Go.Rex Go.Proofs
namespace Go.Rex
set_option maxRecDepth 100000
theorem pok5:bY Tryz.prog pc5:=aL follows (tab:=[]) (aP) (k:=100000) (d:=100) (by decide +kernel)
end Go.Rex
open Go Go.Rex Go.Proofs
namespace Go.Rex
set_option maxRecDepth 100000
theorem pok6:bY Tryz.prog pc6:=aL follows (tab:=[pc5]) (aD pok5 (aP)) (k:=100000) (d:=100) (by decide +kernel)
end Go.Rex
open Go Go.Rex Go.Proofs
namespace Go.Rex
set_option maxRecDepth 100000
theorem pok7:bY Tryz.prog pc7:=aL follows (tab:=[]) (aP) (k:=100000) (d:=100) (by decide +kernel)
end Go.Rex
open Go Go.Rex Go.Proofs
namespace Go.Rex
set_option maxRecDepth 100000
theorem pok8:bY Tryz.prog pc8:=aL follows (tab:=[pc7]) (aD pok7 (aP)) (k:=100000) (d:=100) (by decide +kernel)
end Go.Rex
open Go Go.Rex Go.Proofs
namespace Go.Rex
set_option maxRecDepth 100000
theorem pok9:bY Tryz.prog pc9:=aL follows (tab:=[]) (aP) (k:=100000) (d:=100) (by decide +kernel)
end Go.Rex
open Go Go.Rex Go.Proofs
namespace Go.Rex
set_option maxRecDepth 100000
theorem pok10:bY Tryz.prog pc10:=aL follows (tab:=[]) (aP) (k:=100000) (d:=100) (by decide +kernel)
end Go.Rex
open Go Go.Rex Go.Proofs
namespace Go.Rex
set_option maxRecDepth 100000
theorem pok11:bY Tryz.prog pc11:=aL follows (tab:=[]) (aP) (k:=100000) (d:=100) (by decide +kernel)
end Go.Rex
open Go Go.Rex Go.Proofs
namespace Go.Rex
set_option maxRecDepth 100000
theorem pok12:bY Tryz.prog pc12:=aL follows (tab:=[pc11]) (aD pok11 (aP)) (k:=100000) (d:=100) (by decide +kernel)
end Go.Rex
open Go Go.Rex Go.Proofs
namespace Go.Rex
set_option maxRecDepth 100000
theorem pok13:bY Tryz.prog pc13:=aL follows (tab:=[]) (aP) (k:=100000) (d:=100) (by decide +kernel)
end Go.Rex
open Go Go.Rex Go.Proofs
namespace Go.Rex
set_option maxRecDepth 100000
theorem pok14:bY Tryz.prog pc14:=aL follows (tab:=[]) (aP) (k:=100000) (d:=100) (by decide +kernel)
end Go.Rex
open Go Go.Rex Go.Proofs
namespace Go.Rex
set_option maxRecDepth 100000
theorem pok15:bY Tryz.prog pc15:=aL follows (tab:=[]) (aP) (k:=100000) (d:=100) (by decide +kernel)
end Go.Rex
open Go Go.Rex Go.Proofs
namespace Go.Rex
set_option maxRecDepth 100000
theorem pok16:bY Tryz.prog pc16:=aL follows (tab:=[pc6,pc8,pc9,pc10,pc12,pc13,pc14,pc15]) (aD pok6 (aD pok8 (aD pok9 (aD pok10 (aD pok12 (aD pok13 (aD pok14 (aD pok15 (aP))))))))) (k:=100000) (d:=100) (by decide +kernel)
end Go.Rex
open Go Go.Rex Go.Proofs
namespace Go.Rex
set_option maxRecDepth 100000
theorem pok17:bY Tryz.prog pc17:=aL follows (tab:=[]) (aP) (k:=100000) (d:=100) (by decide +kernel)
end Go.Rex
open Go Go.Rex Go.Proofs
namespace Go.Rex
set_option maxRecDepth 100000
theorem pok18:bY Tryz.prog pc18:=aL follows (tab:=[]) (aP) (k:=100000) (d:=100) (by decide +kernel)
end Go.Rex
open Go Go.Rex Go.Proofs
namespace Go.Rex
set_option maxRecDepth 100000
theorem pok19:bY Tryz.prog pc19:=aL follows (tab:=[pc6]) (aD pok6 (aP)) (k:=100000) (d:=100) (by decide +kernel)
end Go.Rex
open Go Go.Rex Go.Proofs
namespace Go.Rex
set_option maxRecDepth 100000
theorem pok20:bY Tryz.prog pc20:=aL follows (tab:=[]) (aP) (k:=100000) (d:=100) (by decide +kernel)
end Go.Rex
open Go Go.Rex Go.Proofs
namespace Go.Rex
set_option maxRecDepth 100000
theorem pok21:bY Tryz.prog pc21:=aL follows (tab:=[pc20]) (aD pok20 (aP)) (k:=100000) (d:=100) (by decide +kernel)
end Go.Rex
open Go Go.Rex Go.Proofs
namespace Go.Rex
set_option maxRecDepth 100000
theorem pok26:bY Tryz.prog pc26:=aL follows (tab:=[pc21]) (aD pok21 (aP)) (k:=100000) (d:=100) (by decide +kernel)
end Go.Rex
open Go Go.Rex Go.Proofs
namespace Go.Rex
set_option maxRecDepth 100000
theorem pok22:bY Tryz.prog pc22:=aL follows (tab:=[]) (aP) (k:=100000) (d:=100) (by decide +kernel)
end Go.Rex
open Go Go.Rex Go.Proofs
namespace Go.Rex
set_option maxRecDepth 100000
theorem pok23:bY Tryz.prog pc23:=aL follows (tab:=[]) (aP) (k:=100000) (d:=100) (by decide +kernel)
end Go.Rex
open Go Go.Rex Go.Proofs
namespace Go.Rex
set_option maxRecDepth 100000
theorem pok24:bY Tryz.prog pc24:=aL follows (tab:=[pc23]) (aD pok23 (aP)) (k:=100000) (d:=100) (by decide +kernel)
end Go.Rex
open Go Go.Rex Go.Proofs
namespace Go.Rex
set_option maxRecDepth 100000
theorem pok25:bY Tryz.prog pc25:=aL follows (tab:=[pc22,pc6,pc21,pc24]) (aD pok22 (aD pok6 (aD pok21 (aD pok24 (aP))))) (k:=100000) (d:=100) (by decide +kernel)
end Go.Rex
