/- Calls of the closed examples are as told. -/
import Derived.Test.YtjhneebncpmneaaGreatDoorCD
set_option linter.unusedSimpArgs false
set_option linter.unusedVariables false
set_option linter.defProp false
open Go Go.Rex Go.Proofs
namespace Go.Rex
set_option maxRecDepth 100000
theorem pok39:aD Tryz.prog pc39 := aB follows (tab := []) (aC) (k := 100000) (d := 100) (by decide +kernel)
end Go.Rex
open Go Go.Rex Go.Proofs
namespace Go.Rex
set_option maxRecDepth 100000
theorem pok40:aD Tryz.prog pc40 := aB follows (tab := []) (aC) (k := 100000) (d := 100) (by decide +kernel)
end Go.Rex
open Go Go.Rex Go.Proofs
namespace Go.Rex
set_option maxRecDepth 100000
theorem pok41:aD Tryz.prog pc41 := aB follows (tab := []) (aC) (k := 100000) (d := 100) (by decide +kernel)
end Go.Rex
open Go Go.Rex Go.Proofs
namespace Go.Rex
set_option maxRecDepth 100000
theorem pok42:aD Tryz.prog pc42 := aB follows (tab := []) (aC) (k := 100000) (d := 100) (by decide +kernel)
end Go.Rex
open Go Go.Rex Go.Proofs
namespace Go.Rex
set_option maxRecDepth 100000
theorem pok43:aD Tryz.prog pc43 := aB follows (tab := []) (aC) (k := 100000) (d := 100) (by decide +kernel)
end Go.Rex
open Go Go.Rex Go.Proofs
namespace Go.Rex
set_option maxRecDepth 100000
theorem pok44:aD Tryz.prog pc44 := aB follows (tab := []) (aC) (k := 100000) (d := 100) (by decide +kernel)
end Go.Rex
open Go Go.Rex Go.Proofs
namespace Go.Rex
set_option maxRecDepth 100000
theorem pok45:aD Tryz.prog pc45 := aB follows (tab := []) (aC) (k := 100000) (d := 100) (by decide +kernel)
end Go.Rex
open Go Go.Rex Go.Proofs
namespace Go.Rex
set_option maxRecDepth 100000
theorem pok46:aD Tryz.prog pc46 := aB follows (tab := []) (aC) (k := 100000) (d := 100) (by decide +kernel)
end Go.Rex
open Go Go.Rex Go.Proofs
namespace Go.Rex
set_option maxRecDepth 100000
theorem pok47:aD Tryz.prog pc47 := aB follows (tab := []) (aC) (k := 100000) (d := 100) (by decide +kernel)
end Go.Rex
open Go Go.Rex Go.Proofs
namespace Go.Rex
set_option maxRecDepth 100000
theorem pok48:aD Tryz.prog pc48 := aB follows (tab := []) (aC) (k := 100000) (d := 100) (by decide +kernel)
end Go.Rex
open Go Go.Rex Go.Proofs
namespace Go.Rex
set_option maxRecDepth 100000
theorem pok49:aD Tryz.prog pc49 := aB follows (tab := []) (aC) (k := 100000) (d := 100) (by decide +kernel)
end Go.Rex
open Go Go.Rex Go.Proofs
namespace Go.Rex
set_option maxRecDepth 100000
theorem pok50:aD Tryz.prog pc50 := aB follows (tab := []) (aC) (k := 100000) (d := 100) (by decide +kernel)
end Go.Rex
open Go Go.Rex Go.Proofs
namespace Go.Rex
set_option maxRecDepth 100000
theorem pok51:aD Tryz.prog pc51 := aB follows (tab := []) (aC) (k := 100000) (d := 100) (by decide +kernel)
end Go.Rex
open Go Go.Rex Go.Proofs
namespace Go.Rex
set_option maxRecDepth 100000
theorem pok52:aD Tryz.prog pc52 := aB follows (tab := []) (aC) (k := 100000) (d := 100) (by decide +kernel)
end Go.Rex
open Go Go.Rex Go.Proofs
namespace Go.Rex
set_option maxRecDepth 100000
theorem pok53:aD Tryz.prog pc53 := aB follows (tab := []) (aC) (k := 100000) (d := 100) (by decide +kernel)
end Go.Rex
open Go Go.Rex Go.Proofs
namespace Go.Rex
set_option maxRecDepth 100000
theorem pok54:aD Tryz.prog pc54 := aB follows (tab := []) (aC) (k := 100000) (d := 100) (by decide +kernel)
end Go.Rex
open Go Go.Rex Go.Proofs
namespace Go.Rex
set_option maxRecDepth 100000
theorem pok55:aD Tryz.prog pc55 := aB follows (tab := []) (aC) (k := 100000) (d := 100) (by decide +kernel)
end Go.Rex
open Go Go.Rex Go.Proofs
namespace Go.Rex
set_option maxRecDepth 100000
theorem pok56:aD Tryz.prog pc56 := aB follows (tab := []) (aC) (k := 100000) (d := 100) (by decide +kernel)
end Go.Rex
open Go Go.Rex Go.Proofs
namespace Go.Rex
set_option maxRecDepth 100000
theorem pok57:aD Tryz.prog pc57 := aB follows (tab := []) (aC) (k := 100000) (d := 100) (by decide +kernel)
end Go.Rex
open Go Go.Rex Go.Proofs
namespace Go.Rex
set_option maxRecDepth 100000
theorem pok58:aD Tryz.prog pc58 := aB follows (tab := []) (aC) (k := 100000) (d := 100) (by decide +kernel)
end Go.Rex
open Go Go.Rex Go.Proofs
namespace Go.Rex
set_option maxRecDepth 100000
theorem pok59:aD Tryz.prog pc59 := aB follows (tab := []) (aC) (k := 100000) (d := 100) (by decide +kernel)
end Go.Rex
open Go Go.Rex Go.Proofs
namespace Go.Rex
set_option maxRecDepth 100000
theorem pok60:aD Tryz.prog pc60 := aB follows (tab := []) (aC) (k := 100000) (d := 100) (by decide +kernel)
end Go.Rex
open Go Go.Rex Go.Proofs
namespace Go.Rex
set_option maxRecDepth 100000
theorem pok61:aD Tryz.prog pc61 := aB follows (tab := []) (aC) (k := 100000) (d := 100) (by decide +kernel)
end Go.Rex
open Go Go.Rex Go.Proofs
namespace Go.Rex
set_option maxRecDepth 100000
theorem pok62:aD Tryz.prog pc62 := aB follows (tab := []) (aC) (k := 100000) (d := 100) (by decide +kernel)
end Go.Rex
open Go Go.Rex Go.Proofs
namespace Go.Rex
set_option maxRecDepth 100000
theorem pok63:aD Tryz.prog pc63 := aB follows (tab := []) (aC) (k := 100000) (d := 100) (by decide +kernel)
end Go.Rex
open Go Go.Rex Go.Proofs
namespace Go.Rex
set_option maxRecDepth 100000
theorem pok64:aD Tryz.prog pc64 := aB follows (tab := []) (aC) (k := 100000) (d := 100) (by decide +kernel)
end Go.Rex
open Go Go.Rex Go.Proofs
namespace Go.Rex
set_option maxRecDepth 100000
theorem pok65:aD Tryz.prog pc65 := aB follows (tab := []) (aC) (k := 100000) (d := 100) (by decide +kernel)
end Go.Rex
open Go Go.Rex Go.Proofs
namespace Go.Rex
set_option maxRecDepth 100000
theorem pok66:aD Tryz.prog pc66 := aB follows (tab := []) (aC) (k := 100000) (d := 100) (by decide +kernel)
end Go.Rex
open Go Go.Rex Go.Proofs
namespace Go.Rex
set_option maxRecDepth 100000
theorem pok67:aD Tryz.prog pc67 := aB follows (tab := []) (aC) (k := 100000) (d := 100) (by decide +kernel)
end Go.Rex
open Go Go.Rex Go.Proofs
namespace Go.Rex
set_option maxRecDepth 100000
theorem pok68:aD Tryz.prog pc68 := aB follows (tab := []) (aC) (k := 100000) (d := 100) (by decide +kernel)
end Go.Rex
open Go Go.Rex Go.Proofs
namespace Go.Rex
set_option maxRecDepth 100000
theorem pok69:aD Tryz.prog pc69 := aB follows (tab := []) (aC) (k := 100000) (d := 100) (by decide +kernel)
end Go.Rex
open Go Go.Rex Go.Proofs
namespace Go.Rex
set_option maxRecDepth 100000
theorem pok70:aD Tryz.prog pc70 := aB follows (tab := []) (aC) (k := 100000) (d := 100) (by decide +kernel)
end Go.Rex
open Go Go.Rex Go.Proofs
namespace Go.Rex
set_option maxRecDepth 100000
theorem pok71:aD Tryz.prog pc71 := aB follows (tab := []) (aC) (k := 100000) (d := 100) (by decide +kernel)
end Go.Rex
open Go Go.Rex Go.Proofs
namespace Go.Rex
set_option maxRecDepth 100000
theorem pok72:aD Tryz.prog pc72 := aB follows (tab := []) (aC) (k := 100000) (d := 100) (by decide +kernel)
end Go.Rex
open Go Go.Rex Go.Proofs
namespace Go.Rex
set_option maxRecDepth 100000
theorem pok73:aD Tryz.prog pc73 := aB follows (tab := []) (aC) (k := 100000) (d := 100) (by decide +kernel)
end Go.Rex
open Go Go.Rex Go.Proofs
namespace Go.Rex
set_option maxRecDepth 100000
theorem pok74:aD Tryz.prog pc74 := aB follows (tab := []) (aC) (k := 100000) (d := 100) (by decide +kernel)
end Go.Rex
open Go Go.Rex Go.Proofs
namespace Go.Rex
set_option maxRecDepth 100000
theorem pok75:aD Tryz.prog pc75 := aB follows (tab := []) (aC) (k := 100000) (d := 100) (by decide +kernel)
end Go.Rex
open Go Go.Rex Go.Proofs
namespace Go.Rex
set_option maxRecDepth 100000
theorem pok76:aD Tryz.prog pc76 := aB follows (tab := []) (aC) (k := 100000) (d := 100) (by decide +kernel)
end Go.Rex
open Go Go.Rex Go.Proofs
namespace Go.Rex
set_option maxRecDepth 100000
theorem pok77:aD Tryz.prog pc77 := aB follows (tab := []) (aC) (k := 100000) (d := 100) (by decide +kernel)
end Go.Rex
open Go Go.Rex Go.Proofs
namespace Go.Rex
set_option maxRecDepth 100000
theorem pok78:aD Tryz.prog pc78 := aB follows (tab := []) (aC) (k := 100000) (d := 100) (by decide +kernel)
end Go.Rex
