/- Calls of the closed examples are as told. -/
import Derived.Test.YtjhneebncpmneaaGreatDoorCD
set_option linter.unusedSimpArgs false
set_option linter.unusedVariables false
set_option linter.defProp false
open Go Go.Rex Go.Proofs
namespace Go.Rex
set_option maxRecDepth 100000
theorem pok0:aD Tryz.prog pc0 := aB follows (tab := []) (aC) (k := 100000) (d := 100) (by decide +kernel)
end Go.Rex
open Go Go.Rex Go.Proofs
namespace Go.Rex
set_option maxRecDepth 100000
theorem pok1:aD Tryz.prog pc1 := aB follows (tab := [pc0]) (aA pok0 (aC)) (k := 100000) (d := 100) (by decide +kernel)
end Go.Rex
open Go Go.Rex Go.Proofs
namespace Go.Rex
set_option maxRecDepth 100000
theorem pok2:aD Tryz.prog pc2 := aB follows (tab := []) (aC) (k := 100000) (d := 100) (by decide +kernel)
end Go.Rex
open Go Go.Rex Go.Proofs
namespace Go.Rex
set_option maxRecDepth 100000
theorem pok3:aD Tryz.prog pc3 := aB follows (tab := [pc1, pc2]) (aA pok1 (aA pok2 (aC))) (k := 100000) (d := 100) (by decide +kernel)
end Go.Rex
open Go Go.Rex Go.Proofs
namespace Go.Rex
set_option maxRecDepth 100000
theorem pok4:aD Tryz.prog pc4 := aB follows (tab := []) (aC) (k := 100000) (d := 100) (by decide +kernel)
end Go.Rex
open Go Go.Rex Go.Proofs
namespace Go.Rex
set_option maxRecDepth 100000
theorem pok5:aD Tryz.prog pc5 := aB follows (tab := []) (aC) (k := 100000) (d := 100) (by decide +kernel)
end Go.Rex
open Go Go.Rex Go.Proofs
namespace Go.Rex
set_option maxRecDepth 100000
theorem pok6:aD Tryz.prog pc6 := aB follows (tab := []) (aC) (k := 100000) (d := 100) (by decide +kernel)
end Go.Rex
open Go Go.Rex Go.Proofs
namespace Go.Rex
set_option maxRecDepth 100000
theorem pok7:aD Tryz.prog pc7 := aB follows (tab := []) (aC) (k := 100000) (d := 100) (by decide +kernel)
end Go.Rex
open Go Go.Rex Go.Proofs
namespace Go.Rex
set_option maxRecDepth 100000
theorem pok8:aD Tryz.prog pc8 := aB follows (tab := [pc2, pc4, pc5, pc6, pc7]) (aA pok2 (aA pok4 (aA pok5 (aA pok6 (aA pok7 (aC)))))) (k := 100000) (d := 100) (by decide +kernel)
end Go.Rex
open Go Go.Rex Go.Proofs
namespace Go.Rex
set_option maxRecDepth 100000
theorem pok215:aD Tryz.prog pc215 := aB follows (tab := [pc1, pc8]) (aA pok1 (aA pok8 (aC))) (k := 100000) (d := 100) (by decide +kernel)
end Go.Rex
open Go Go.Rex Go.Proofs
namespace Go.Rex
set_option maxRecDepth 100000
theorem pok9:aD Tryz.prog pc9 := aB follows (tab := []) (aC) (k := 100000) (d := 100) (by decide +kernel)
end Go.Rex
open Go Go.Rex Go.Proofs
namespace Go.Rex
set_option maxRecDepth 100000
theorem pok10:aD Tryz.prog pc10 := aB follows (tab := []) (aC) (k := 100000) (d := 100) (by decide +kernel)
end Go.Rex
open Go Go.Rex Go.Proofs
namespace Go.Rex
set_option maxRecDepth 100000
theorem pok11:aD Tryz.prog pc11 := aB follows (tab := []) (aC) (k := 100000) (d := 100) (by decide +kernel)
end Go.Rex
open Go Go.Rex Go.Proofs
namespace Go.Rex
set_option maxRecDepth 100000
theorem pok12:aD Tryz.prog pc12 := aB follows (tab := []) (aC) (k := 100000) (d := 100) (by decide +kernel)
end Go.Rex
open Go Go.Rex Go.Proofs
namespace Go.Rex
set_option maxRecDepth 100000
theorem pok13:aD Tryz.prog pc13 := aB follows (tab := []) (aC) (k := 100000) (d := 100) (by decide +kernel)
end Go.Rex
open Go Go.Rex Go.Proofs
namespace Go.Rex
set_option maxRecDepth 100000
theorem pok14:aD Tryz.prog pc14 := aB follows (tab := []) (aC) (k := 100000) (d := 100) (by decide +kernel)
end Go.Rex
open Go Go.Rex Go.Proofs
namespace Go.Rex
set_option maxRecDepth 100000
theorem pok15:aD Tryz.prog pc15 := aB follows (tab := [pc14]) (aA pok14 (aC)) (k := 100000) (d := 100) (by decide +kernel)
end Go.Rex
open Go Go.Rex Go.Proofs
namespace Go.Rex
set_option maxRecDepth 100000
theorem pok16:aD Tryz.prog pc16 := aB follows (tab := []) (aC) (k := 100000) (d := 100) (by decide +kernel)
end Go.Rex
open Go Go.Rex Go.Proofs
namespace Go.Rex
set_option maxRecDepth 100000
theorem pok17:aD Tryz.prog pc17 := aB follows (tab := []) (aC) (k := 100000) (d := 100) (by decide +kernel)
end Go.Rex
open Go Go.Rex Go.Proofs
namespace Go.Rex
set_option maxRecDepth 100000
theorem pok18:aD Tryz.prog pc18 := aB follows (tab := []) (aC) (k := 100000) (d := 100) (by decide +kernel)
end Go.Rex
open Go Go.Rex Go.Proofs
namespace Go.Rex
set_option maxRecDepth 100000
theorem pok19:aD Tryz.prog pc19 := aB follows (tab := []) (aC) (k := 100000) (d := 100) (by decide +kernel)
end Go.Rex
open Go Go.Rex Go.Proofs
namespace Go.Rex
set_option maxRecDepth 100000
theorem pok20:aD Tryz.prog pc20 := aB follows (tab := []) (aC) (k := 100000) (d := 100) (by decide +kernel)
end Go.Rex
open Go Go.Rex Go.Proofs
namespace Go.Rex
set_option maxRecDepth 100000
theorem pok21:aD Tryz.prog pc21 := aB follows (tab := []) (aC) (k := 100000) (d := 100) (by decide +kernel)
end Go.Rex
open Go Go.Rex Go.Proofs
namespace Go.Rex
set_option maxRecDepth 100000
theorem pok22:aD Tryz.prog pc22 := aB follows (tab := []) (aC) (k := 100000) (d := 100) (by decide +kernel)
end Go.Rex
open Go Go.Rex Go.Proofs
namespace Go.Rex
set_option maxRecDepth 100000
theorem pok23:aD Tryz.prog pc23 := aB follows (tab := []) (aC) (k := 100000) (d := 100) (by decide +kernel)
end Go.Rex
open Go Go.Rex Go.Proofs
namespace Go.Rex
set_option maxRecDepth 100000
theorem pok24:aD Tryz.prog pc24 := aB follows (tab := []) (aC) (k := 100000) (d := 100) (by decide +kernel)
end Go.Rex
open Go Go.Rex Go.Proofs
namespace Go.Rex
set_option maxRecDepth 100000
theorem pok25:aD Tryz.prog pc25 := aB follows (tab := []) (aC) (k := 100000) (d := 100) (by decide +kernel)
end Go.Rex
open Go Go.Rex Go.Proofs
namespace Go.Rex
set_option maxRecDepth 100000
theorem pok26:aD Tryz.prog pc26 := aB follows (tab := []) (aC) (k := 100000) (d := 100) (by decide +kernel)
end Go.Rex
open Go Go.Rex Go.Proofs
namespace Go.Rex
set_option maxRecDepth 100000
theorem pok27:aD Tryz.prog pc27 := aB follows (tab := []) (aC) (k := 100000) (d := 100) (by decide +kernel)
end Go.Rex
open Go Go.Rex Go.Proofs
namespace Go.Rex
set_option maxRecDepth 100000
theorem pok28:aD Tryz.prog pc28 := aB follows (tab := []) (aC) (k := 100000) (d := 100) (by decide +kernel)
end Go.Rex
open Go Go.Rex Go.Proofs
namespace Go.Rex
set_option maxRecDepth 100000
theorem pok29:aD Tryz.prog pc29 := aB follows (tab := []) (aC) (k := 100000) (d := 100) (by decide +kernel)
end Go.Rex
open Go Go.Rex Go.Proofs
namespace Go.Rex
set_option maxRecDepth 100000
theorem pok30:aD Tryz.prog pc30 := aB follows (tab := []) (aC) (k := 100000) (d := 100) (by decide +kernel)
end Go.Rex
open Go Go.Rex Go.Proofs
namespace Go.Rex
set_option maxRecDepth 100000
theorem pok31:aD Tryz.prog pc31 := aB follows (tab := []) (aC) (k := 100000) (d := 100) (by decide +kernel)
end Go.Rex
open Go Go.Rex Go.Proofs
namespace Go.Rex
set_option maxRecDepth 100000
theorem pok32:aD Tryz.prog pc32 := aB follows (tab := []) (aC) (k := 100000) (d := 100) (by decide +kernel)
end Go.Rex
open Go Go.Rex Go.Proofs
namespace Go.Rex
set_option maxRecDepth 100000
theorem pok33:aD Tryz.prog pc33 := aB follows (tab := []) (aC) (k := 100000) (d := 100) (by decide +kernel)
end Go.Rex
open Go Go.Rex Go.Proofs
namespace Go.Rex
set_option maxRecDepth 100000
theorem pok34:aD Tryz.prog pc34 := aB follows (tab := []) (aC) (k := 100000) (d := 100) (by decide +kernel)
end Go.Rex
open Go Go.Rex Go.Proofs
namespace Go.Rex
set_option maxRecDepth 100000
theorem pok35:aD Tryz.prog pc35 := aB follows (tab := []) (aC) (k := 100000) (d := 100) (by decide +kernel)
end Go.Rex
open Go Go.Rex Go.Proofs
namespace Go.Rex
set_option maxRecDepth 100000
theorem pok36:aD Tryz.prog pc36 := aB follows (tab := []) (aC) (k := 100000) (d := 100) (by decide +kernel)
end Go.Rex
open Go Go.Rex Go.Proofs
namespace Go.Rex
set_option maxRecDepth 100000
theorem pok37:aD Tryz.prog pc37 := aB follows (tab := []) (aC) (k := 100000) (d := 100) (by decide +kernel)
end Go.Rex
open Go Go.Rex Go.Proofs
namespace Go.Rex
set_option maxRecDepth 100000
theorem pok38:aD Tryz.prog pc38 := aB follows (tab := []) (aC) (k := 100000) (d := 100) (by decide +kernel)
end Go.Rex
