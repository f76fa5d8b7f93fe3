/- Calls of the closed examples are as told. -/
import Derived.Test.YtkdhkfaakklhaaaGreatCD
import Derived.Test.YtkdhkfaakklhaaaGreatC1
set_option linter.unusedSimpArgs false
set_option linter.unusedVariables false
set_option linter.defProp false

open Go Go.Rex Go.Proofs
namespace Go.Rex
set_option maxRecDepth 100000
theorem pok37 : CallN Tryz.prog pc37 := piece_okN follows (tab := []) (tabN_nil) (k := 100000) (d := 100) (by decide +kernel)
end Go.Rex

open Go Go.Rex Go.Proofs
namespace Go.Rex
set_option maxRecDepth 100000
theorem pok38 : CallN Tryz.prog pc38 := piece_okN follows (tab := [pc36, pc37]) (tabN_cons pok36 (tabN_cons pok37 (tabN_nil))) (k := 100000) (d := 100) (by decide +kernel)
end Go.Rex

open Go Go.Rex Go.Proofs
namespace Go.Rex
set_option maxRecDepth 100000
theorem pok39 : CallN Tryz.prog pc39 := piece_okN follows (tab := [pc29, pc32, pc35, pc38]) (tabN_cons pok29 (tabN_cons pok32 (tabN_cons pok35 (tabN_cons pok38 (tabN_nil))))) (k := 100000) (d := 100) (by decide +kernel)
end Go.Rex


open Go Go.Rex Go.Proofs
namespace Go.Rex
set_option maxRecDepth 100000
theorem pok40 : CallN Tryz.prog pc40 := piece_okN follows (tab := []) (tabN_nil) (k := 100000) (d := 100) (by decide +kernel)
end Go.Rex


open Go Go.Rex Go.Proofs
namespace Go.Rex
set_option maxRecDepth 100000
theorem pok41 : CallN Tryz.prog pc41 := piece_okN follows (tab := []) (tabN_nil) (k := 100000) (d := 100) (by decide +kernel)
end Go.Rex

open Go Go.Rex Go.Proofs
namespace Go.Rex
set_option maxRecDepth 100000
theorem pok42 : CallN Tryz.prog pc42 := piece_okN follows (tab := [pc41]) (tabN_cons pok41 (tabN_nil)) (k := 100000) (d := 100) (by decide +kernel)
end Go.Rex


open Go Go.Rex Go.Proofs
namespace Go.Rex
set_option maxRecDepth 100000
theorem pok43 : CallN Tryz.prog pc43 := piece_okN follows (tab := []) (tabN_nil) (k := 100000) (d := 100) (by decide +kernel)
end Go.Rex

open Go Go.Rex Go.Proofs
namespace Go.Rex
set_option maxRecDepth 100000
theorem pok44 : CallN Tryz.prog pc44 := piece_okN follows (tab := [pc43]) (tabN_cons pok43 (tabN_nil)) (k := 100000) (d := 100) (by decide +kernel)
end Go.Rex


open Go Go.Rex Go.Proofs
namespace Go.Rex
set_option maxRecDepth 100000
theorem pok45 : CallN Tryz.prog pc45 := piece_okN follows (tab := []) (tabN_nil) (k := 100000) (d := 100) (by decide +kernel)
end Go.Rex

open Go Go.Rex Go.Proofs
namespace Go.Rex
set_option maxRecDepth 100000
theorem pok46 : CallN Tryz.prog pc46 := piece_okN follows (tab := [pc45]) (tabN_cons pok45 (tabN_nil)) (k := 100000) (d := 100) (by decide +kernel)
end Go.Rex


open Go Go.Rex Go.Proofs
namespace Go.Rex
set_option maxRecDepth 100000
theorem pok47 : CallN Tryz.prog pc47 := piece_okN follows (tab := []) (tabN_nil) (k := 100000) (d := 100) (by decide +kernel)
end Go.Rex

open Go Go.Rex Go.Proofs
namespace Go.Rex
set_option maxRecDepth 100000
theorem pok48 : CallN Tryz.prog pc48 := piece_okN follows (tab := [pc47]) (tabN_cons pok47 (tabN_nil)) (k := 100000) (d := 100) (by decide +kernel)
end Go.Rex

open Go Go.Rex Go.Proofs
namespace Go.Rex
set_option maxRecDepth 100000
theorem pok49 : CallN Tryz.prog pc49 := piece_okN follows (tab := [pc42, pc44, pc46, pc48]) (tabN_cons pok42 (tabN_cons pok44 (tabN_cons pok46 (tabN_cons pok48 (tabN_nil))))) (k := 100000) (d := 100) (by decide +kernel)
end Go.Rex

open Go Go.Rex Go.Proofs
namespace Go.Rex
set_option maxRecDepth 100000
theorem pok50 : CallN Tryz.prog pc50 := piece_okN follows (tab := [pc39, pc40, pc49]) (tabN_cons pok39 (tabN_cons pok40 (tabN_cons pok49 (tabN_nil)))) (k := 100000) (d := 100) (by decide +kernel)
end Go.Rex

open Go Go.Rex Go.Proofs
namespace Go.Rex
set_option maxRecDepth 100000
theorem pok51 : CallN Tryz.prog pc51 := piece_okN follows (tab := [pc25, pc0, pc26, pc50]) (tabN_cons pok25 (tabN_cons pok0 (tabN_cons pok26 (tabN_cons pok50 (tabN_nil))))) (k := 100000) (d := 100) (by decide +kernel)
end Go.Rex

open Go Go.Rex Go.Proofs
namespace Go.Rex
set_option maxRecDepth 100000
theorem pok52 : CallN Tryz.prog pc52 := piece_okN follows (tab := [pc0, pc26]) (tabN_cons pok0 (tabN_cons pok26 (tabN_nil))) (k := 100000) (d := 100) (by decide +kernel)
end Go.Rex


open Go Go.Rex Go.Proofs
namespace Go.Rex
set_option maxRecDepth 100000
theorem pok53 : CallN Tryz.prog pc53 := piece_okN follows (tab := []) (tabN_nil) (k := 100000) (d := 100) (by decide +kernel)
end Go.Rex

open Go Go.Rex Go.Proofs
namespace Go.Rex
set_option maxRecDepth 100000
theorem pok54 : CallN Tryz.prog pc54 := piece_okN follows (tab := [pc53]) (tabN_cons pok53 (tabN_nil)) (k := 100000) (d := 100) (by decide +kernel)
end Go.Rex


open Go Go.Rex Go.Proofs
namespace Go.Rex
set_option maxRecDepth 100000
theorem pok55 : CallN Tryz.prog pc55 := piece_okN follows (tab := []) (tabN_nil) (k := 100000) (d := 100) (by decide +kernel)
end Go.Rex


open Go Go.Rex Go.Proofs
namespace Go.Rex
set_option maxRecDepth 100000
theorem pok56 : CallN Tryz.prog pc56 := piece_okN follows (tab := []) (tabN_nil) (k := 100000) (d := 100) (by decide +kernel)
end Go.Rex

open Go Go.Rex Go.Proofs
namespace Go.Rex
set_option maxRecDepth 100000
theorem pok57 : CallN Tryz.prog pc57 := piece_okN follows (tab := [pc55, pc56]) (tabN_cons pok55 (tabN_cons pok56 (tabN_nil))) (k := 100000) (d := 100) (by decide +kernel)
end Go.Rex


open Go Go.Rex Go.Proofs
namespace Go.Rex
set_option maxRecDepth 100000
theorem pok58 : CallN Tryz.prog pc58 := piece_okN follows (tab := []) (tabN_nil) (k := 100000) (d := 100) (by decide +kernel)
end Go.Rex


open Go Go.Rex Go.Proofs
namespace Go.Rex
set_option maxRecDepth 100000
theorem pok59 : CallN Tryz.prog pc59 := piece_okN follows (tab := []) (tabN_nil) (k := 100000) (d := 100) (by decide +kernel)
end Go.Rex

open Go Go.Rex Go.Proofs
namespace Go.Rex
set_option maxRecDepth 100000
theorem pok60 : CallN Tryz.prog pc60 := piece_okN follows (tab := [pc58, pc59]) (tabN_cons pok58 (tabN_cons pok59 (tabN_nil))) (k := 100000) (d := 100) (by decide +kernel)
end Go.Rex

open Go Go.Rex Go.Proofs
namespace Go.Rex
set_option maxRecDepth 100000
theorem pok61 : CallN Tryz.prog pc61 := piece_okN follows (tab := [pc25, pc52, pc54, pc57, pc60]) (tabN_cons pok25 (tabN_cons pok52 (tabN_cons pok54 (tabN_cons pok57 (tabN_cons pok60 (tabN_nil)))))) (k := 100000) (d := 100) (by decide +kernel)
end Go.Rex
