/- Calls of the closed examples are as told. -/
import Derived.Test.YtjhneebncpmneaaGreatDoorCD
import Derived.Test.YtjhneebncpmneaaGreatDoorC1
import Derived.Test.YtjhneebncpmneaaGreatDoorC5
set_option linter.unusedSimpArgs false
set_option linter.unusedVariables false
set_option linter.defProp false

open Go Go.Rex Go.Proofs
namespace Go.Rex
set_option maxRecDepth 100000
theorem pok199 : CallN Tryz.prog pc199 := piece_okN follows (tab := []) (tabN_nil) (k := 100000) (d := 100) (by decide +kernel)
end Go.Rex

open Go Go.Rex Go.Proofs
namespace Go.Rex
set_option maxRecDepth 100000
theorem pok200 : CallN Tryz.prog pc200 := piece_okN follows (tab := [pc2, pc198, pc199]) (tabN_cons pok2 (tabN_cons pok198 (tabN_cons pok199 (tabN_nil)))) (k := 100000) (d := 100) (by decide +kernel)
end Go.Rex


open Go Go.Rex Go.Proofs
namespace Go.Rex
set_option maxRecDepth 100000
theorem pok201 : CallN Tryz.prog pc201 := piece_okN follows (tab := []) (tabN_nil) (k := 100000) (d := 100) (by decide +kernel)
end Go.Rex


open Go Go.Rex Go.Proofs
namespace Go.Rex
set_option maxRecDepth 100000
theorem pok202 : CallN Tryz.prog pc202 := piece_okN follows (tab := []) (tabN_nil) (k := 100000) (d := 100) (by decide +kernel)
end Go.Rex

open Go Go.Rex Go.Proofs
namespace Go.Rex
set_option maxRecDepth 100000
theorem pok203 : CallN Tryz.prog pc203 := piece_okN follows (tab := [pc2, pc4, pc5, pc201, pc202]) (tabN_cons pok2 (tabN_cons pok4 (tabN_cons pok5 (tabN_cons pok201 (tabN_cons pok202 (tabN_nil)))))) (k := 100000) (d := 100) (by decide +kernel)
end Go.Rex


open Go Go.Rex Go.Proofs
namespace Go.Rex
set_option maxRecDepth 100000
theorem pok204 : CallN Tryz.prog pc204 := piece_okN follows (tab := []) (tabN_nil) (k := 100000) (d := 100) (by decide +kernel)
end Go.Rex

open Go Go.Rex Go.Proofs
namespace Go.Rex
set_option maxRecDepth 100000
theorem pok205 : CallN Tryz.prog pc205 := piece_okN follows (tab := [pc204, pc2]) (tabN_cons pok204 (tabN_cons pok2 (tabN_nil))) (k := 100000) (d := 100) (by decide +kernel)
end Go.Rex

open Go Go.Rex Go.Proofs
namespace Go.Rex
set_option maxRecDepth 100000
theorem pok206 : CallN Tryz.prog pc206 := piece_okN follows (tab := [pc204, pc2]) (tabN_cons pok204 (tabN_cons pok2 (tabN_nil))) (k := 100000) (d := 100) (by decide +kernel)
end Go.Rex


open Go Go.Rex Go.Proofs
namespace Go.Rex
set_option maxRecDepth 100000
theorem pok207 : CallN Tryz.prog pc207 := piece_okN follows (tab := []) (tabN_nil) (k := 100000) (d := 100) (by decide +kernel)
end Go.Rex

open Go Go.Rex Go.Proofs
namespace Go.Rex
set_option maxRecDepth 100000
theorem pok208 : CallN Tryz.prog pc208 := piece_okN follows (tab := [pc2, pc207]) (tabN_cons pok2 (tabN_cons pok207 (tabN_nil))) (k := 100000) (d := 100) (by decide +kernel)
end Go.Rex

open Go Go.Rex Go.Proofs
namespace Go.Rex
set_option maxRecDepth 100000
theorem pok209 : CallN Tryz.prog pc209 := piece_okN follows (tab := [pc200, pc8, pc203, pc205, pc206, pc208]) (tabN_cons pok200 (tabN_cons pok8 (tabN_cons pok203 (tabN_cons pok205 (tabN_cons pok206 (tabN_cons pok208 (tabN_nil))))))) (k := 100000) (d := 100) (by decide +kernel)
end Go.Rex


open Go Go.Rex Go.Proofs
namespace Go.Rex
set_option maxRecDepth 100000
theorem pok210 : CallN Tryz.prog pc210 := piece_okN follows (tab := []) (tabN_nil) (k := 100000) (d := 100) (by decide +kernel)
end Go.Rex


open Go Go.Rex Go.Proofs
namespace Go.Rex
set_option maxRecDepth 100000
theorem pok211 : CallN Tryz.prog pc211 := piece_okN follows (tab := []) (tabN_nil) (k := 100000) (d := 100) (by decide +kernel)
end Go.Rex


open Go Go.Rex Go.Proofs
namespace Go.Rex
set_option maxRecDepth 100000
theorem pok212 : CallN Tryz.prog pc212 := piece_okN follows (tab := []) (tabN_nil) (k := 100000) (d := 100) (by decide +kernel)
end Go.Rex


open Go Go.Rex Go.Proofs
namespace Go.Rex
set_option maxRecDepth 100000
theorem pok213 : CallN Tryz.prog pc213 := piece_okN follows (tab := []) (tabN_nil) (k := 100000) (d := 100) (by decide +kernel)
end Go.Rex

open Go Go.Rex Go.Proofs
namespace Go.Rex
set_option maxRecDepth 100000
theorem pok214 : CallN Tryz.prog pc214 := piece_okN follows (tab := [pc210, pc211, pc212, pc213]) (tabN_cons pok210 (tabN_cons pok211 (tabN_cons pok212 (tabN_cons pok213 (tabN_nil))))) (k := 100000) (d := 100) (by decide +kernel)
end Go.Rex
