/- Calls of the closed examples are as told. -/
import Derived.Test.YtjhneebncpmneaaGreatDoorCD
import Derived.Test.YtjhneebncpmneaaGreatDoorC1
import Derived.Test.YtjhneebncpmneaaGreatDoorC5
set_option linter.unusedSimpArgs false
set_option linter.unusedVariables false
set_option linter.defProp false
open Go Go.Rex Go.Proofs
namespace Go.Rex
set_option maxRecDepth 100000
theorem pok199:aD Tryz.prog pc199 := aB follows (tab := []) (aC) (k := 100000) (d := 100) (by decide +kernel)
end Go.Rex
open Go Go.Rex Go.Proofs
namespace Go.Rex
set_option maxRecDepth 100000
theorem pok200:aD Tryz.prog pc200 := aB follows (tab := [pc2, pc198, pc199]) (aA pok2 (aA pok198 (aA pok199 (aC)))) (k := 100000) (d := 100) (by decide +kernel)
end Go.Rex
open Go Go.Rex Go.Proofs
namespace Go.Rex
set_option maxRecDepth 100000
theorem pok201:aD Tryz.prog pc201 := aB follows (tab := []) (aC) (k := 100000) (d := 100) (by decide +kernel)
end Go.Rex
open Go Go.Rex Go.Proofs
namespace Go.Rex
set_option maxRecDepth 100000
theorem pok202:aD Tryz.prog pc202 := aB follows (tab := []) (aC) (k := 100000) (d := 100) (by decide +kernel)
end Go.Rex
open Go Go.Rex Go.Proofs
namespace Go.Rex
set_option maxRecDepth 100000
theorem pok203:aD Tryz.prog pc203 := aB follows (tab := [pc2, pc4, pc5, pc201, pc202]) (aA pok2 (aA pok4 (aA pok5 (aA pok201 (aA pok202 (aC)))))) (k := 100000) (d := 100) (by decide +kernel)
end Go.Rex
open Go Go.Rex Go.Proofs
namespace Go.Rex
set_option maxRecDepth 100000
theorem pok204:aD Tryz.prog pc204 := aB follows (tab := []) (aC) (k := 100000) (d := 100) (by decide +kernel)
end Go.Rex
open Go Go.Rex Go.Proofs
namespace Go.Rex
set_option maxRecDepth 100000
theorem pok205:aD Tryz.prog pc205 := aB follows (tab := [pc204, pc2]) (aA pok204 (aA pok2 (aC))) (k := 100000) (d := 100) (by decide +kernel)
end Go.Rex
open Go Go.Rex Go.Proofs
namespace Go.Rex
set_option maxRecDepth 100000
theorem pok206:aD Tryz.prog pc206 := aB follows (tab := [pc204, pc2]) (aA pok204 (aA pok2 (aC))) (k := 100000) (d := 100) (by decide +kernel)
end Go.Rex
open Go Go.Rex Go.Proofs
namespace Go.Rex
set_option maxRecDepth 100000
theorem pok207:aD Tryz.prog pc207 := aB follows (tab := []) (aC) (k := 100000) (d := 100) (by decide +kernel)
end Go.Rex
open Go Go.Rex Go.Proofs
namespace Go.Rex
set_option maxRecDepth 100000
theorem pok208:aD Tryz.prog pc208 := aB follows (tab := [pc2, pc207]) (aA pok2 (aA pok207 (aC))) (k := 100000) (d := 100) (by decide +kernel)
end Go.Rex
open Go Go.Rex Go.Proofs
namespace Go.Rex
set_option maxRecDepth 100000
theorem pok209:aD Tryz.prog pc209 := aB follows (tab := [pc200, pc8, pc203, pc205, pc206, pc208]) (aA pok200 (aA pok8 (aA pok203 (aA pok205 (aA pok206 (aA pok208 (aC))))))) (k := 100000) (d := 100) (by decide +kernel)
end Go.Rex
open Go Go.Rex Go.Proofs
namespace Go.Rex
set_option maxRecDepth 100000
theorem pok210:aD Tryz.prog pc210 := aB follows (tab := []) (aC) (k := 100000) (d := 100) (by decide +kernel)
end Go.Rex
open Go Go.Rex Go.Proofs
namespace Go.Rex
set_option maxRecDepth 100000
theorem pok211:aD Tryz.prog pc211 := aB follows (tab := []) (aC) (k := 100000) (d := 100) (by decide +kernel)
end Go.Rex
open Go Go.Rex Go.Proofs
namespace Go.Rex
set_option maxRecDepth 100000
theorem pok212:aD Tryz.prog pc212 := aB follows (tab := []) (aC) (k := 100000) (d := 100) (by decide +kernel)
end Go.Rex
open Go Go.Rex Go.Proofs
namespace Go.Rex
set_option maxRecDepth 100000
theorem pok213:aD Tryz.prog pc213 := aB follows (tab := []) (aC) (k := 100000) (d := 100) (by decide +kernel)
end Go.Rex
open Go Go.Rex Go.Proofs
namespace Go.Rex
set_option maxRecDepth 100000
theorem pok214:aD Tryz.prog pc214 := aB follows (tab := [pc210, pc211, pc212, pc213]) (aA pok210 (aA pok211 (aA pok212 (aA pok213 (aC))))) (k := 100000) (d := 100) (by decide +kernel)
end Go.Rex
