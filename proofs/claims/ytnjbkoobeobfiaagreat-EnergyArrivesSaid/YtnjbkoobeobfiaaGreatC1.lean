/- Calls of the closed examples are as told. -/
import Derived.Test.YtnjbkoobeobfiaaGreatCD
set_option linter.unusedSimpArgs false
set_option linter.unusedVariables false
set_option linter.defProp false

open Go Go.Rex Go.Proofs
namespace Go.Rex
set_option maxRecDepth 100000
theorem pok0 : CallOk Tryz.prog pc0 := piece_ok follows (tab := []) (tab_nil) (k := 100000) (d := 100) (by decide +kernel)
end Go.Rex

open Go Go.Rex Go.Proofs
namespace Go.Rex
set_option maxRecDepth 100000
theorem pok1 : CallOk Tryz.prog pc1 := piece_ok follows (tab := [pc0]) (tab_cons pok0 (tab_nil)) (k := 100000) (d := 100) (by decide +kernel)
end Go.Rex

open Go Go.Rex Go.Proofs
namespace Go.Rex
set_option maxRecDepth 100000
theorem pok2 : CallOk Tryz.prog pc2 := piece_ok follows (tab := [pc0, pc1]) (tab_cons pok0 (tab_cons pok1 (tab_nil))) (k := 100000) (d := 100) (by decide +kernel)
end Go.Rex

open Go Go.Rex Go.Proofs
namespace Go.Rex
set_option maxRecDepth 100000
theorem pok3 : CallOk Tryz.prog pc3 := piece_ok follows (tab := [pc0]) (tab_cons pok0 (tab_nil)) (k := 100000) (d := 100) (by decide +kernel)
end Go.Rex

open Go Go.Rex Go.Proofs
namespace Go.Rex
set_option maxRecDepth 100000
theorem pok4 : CallOk Tryz.prog pc4 := piece_ok follows (tab := [pc0]) (tab_cons pok0 (tab_nil)) (k := 100000) (d := 100) (by decide +kernel)
end Go.Rex
