/- Calls of the closed examples are as told. -/
import Derived.Test.YthjoipggampleaaGreatCD
set_option linter.unusedSimpArgs false
set_option linter.unusedVariables false
set_option linter.defProp false

open Go Go.Rex Go.Proofs
namespace Go.Rex
set_option maxRecDepth 100000
theorem pok0 : CallOk Tryz.prog pc0 := piece_ok follows (tab := []) (tab_nil) (k := 100000) (d := 100) (by decide +kernel)
end Go.Rex

open Go Go.Rex Go.Proofs
namespace Go.Rex
set_option maxRecDepth 100000
theorem pok37 : CallOk Tryz.prog pc37 := piece_ok follows (tab := [pc0]) (tab_cons pok0 (tab_nil)) (k := 100000) (d := 100) (by decide +kernel)
end Go.Rex

open Go Go.Rex Go.Proofs
namespace Go.Rex
set_option maxRecDepth 100000
theorem pok38 : CallOk Tryz.prog pc38 := piece_ok follows (tab := [pc0]) (tab_cons pok0 (tab_nil)) (k := 100000) (d := 100) (by decide +kernel)
end Go.Rex

open Go Go.Rex Go.Proofs
namespace Go.Rex
set_option maxRecDepth 100000
theorem pok39 : CallOk Tryz.prog pc39 := piece_ok follows (tab := [pc0]) (tab_cons pok0 (tab_nil)) (k := 100000) (d := 100) (by decide +kernel)
end Go.Rex

open Go Go.Rex Go.Proofs
namespace Go.Rex
set_option maxRecDepth 100000
theorem pok40 : CallOk Tryz.prog pc40 := piece_ok follows (tab := [pc0]) (tab_cons pok0 (tab_nil)) (k := 100000) (d := 100) (by decide +kernel)
end Go.Rex

open Go Go.Rex Go.Proofs
namespace Go.Rex
set_option maxRecDepth 100000
theorem pok1 : CallOk Tryz.prog pc1 := piece_ok follows (tab := [pc0]) (tab_cons pok0 (tab_nil)) (k := 100000) (d := 100) (by decide +kernel)
end Go.Rex

open Go Go.Rex Go.Proofs
namespace Go.Rex
set_option maxRecDepth 100000
theorem pok2 : CallOk Tryz.prog pc2 := piece_ok follows (tab := [pc0]) (tab_cons pok0 (tab_nil)) (k := 100000) (d := 100) (by decide +kernel)
end Go.Rex


open Go Go.Rex Go.Proofs
namespace Go.Rex
set_option maxRecDepth 100000
theorem pok3 : CallOk Tryz.prog pc3 := piece_ok follows (tab := []) (tab_nil) (k := 100000) (d := 100) (by decide +kernel)
end Go.Rex

open Go Go.Rex Go.Proofs
namespace Go.Rex
set_option maxRecDepth 100000
theorem pok41 : CallOk Tryz.prog pc41 := piece_ok follows (tab := [pc0, pc3]) (tab_cons pok0 (tab_cons pok3 (tab_nil))) (k := 100000) (d := 100) (by decide +kernel)
end Go.Rex


open Go Go.Rex Go.Proofs
namespace Go.Rex
set_option maxRecDepth 100000
theorem pok4 : CallOk Tryz.prog pc4 := piece_ok follows (tab := []) (tab_nil) (k := 100000) (d := 100) (by decide +kernel)
end Go.Rex

open Go Go.Rex Go.Proofs
namespace Go.Rex
set_option maxRecDepth 100000
theorem pok42 : CallOk Tryz.prog pc42 := piece_ok follows (tab := [pc0, pc4]) (tab_cons pok0 (tab_cons pok4 (tab_nil))) (k := 100000) (d := 100) (by decide +kernel)
end Go.Rex


open Go Go.Rex Go.Proofs
namespace Go.Rex
set_option maxRecDepth 100000
theorem pok5 : CallOk Tryz.prog pc5 := piece_ok follows (tab := []) (tab_nil) (k := 100000) (d := 100) (by decide +kernel)
end Go.Rex

open Go Go.Rex Go.Proofs
namespace Go.Rex
set_option maxRecDepth 100000
theorem pok6 : CallOk Tryz.prog pc6 := piece_ok follows (tab := [pc5]) (tab_cons pok5 (tab_nil)) (k := 100000) (d := 100) (by decide +kernel)
end Go.Rex

open Go Go.Rex Go.Proofs
namespace Go.Rex
set_option maxRecDepth 100000
theorem pok7 : CallOk Tryz.prog pc7 := piece_ok follows (tab := [pc0]) (tab_cons pok0 (tab_nil)) (k := 100000) (d := 100) (by decide +kernel)
end Go.Rex


open Go Go.Rex Go.Proofs
namespace Go.Rex
set_option maxRecDepth 100000
theorem pok8 : CallOk Tryz.prog pc8 := piece_ok follows (tab := []) (tab_nil) (k := 100000) (d := 100) (by decide +kernel)
end Go.Rex

open Go Go.Rex Go.Proofs
namespace Go.Rex
set_option maxRecDepth 100000
theorem pok9 : CallOk Tryz.prog pc9 := piece_ok follows (tab := [pc8]) (tab_cons pok8 (tab_nil)) (k := 100000) (d := 100) (by decide +kernel)
end Go.Rex

open Go Go.Rex Go.Proofs
namespace Go.Rex
set_option maxRecDepth 100000
theorem pok43 : CallOk Tryz.prog pc43 := piece_ok follows (tab := [pc0, pc9]) (tab_cons pok0 (tab_cons pok9 (tab_nil))) (k := 100000) (d := 100) (by decide +kernel)
end Go.Rex


open Go Go.Rex Go.Proofs
namespace Go.Rex
set_option maxRecDepth 100000
theorem pok10 : CallOk Tryz.prog pc10 := piece_ok follows (tab := []) (tab_nil) (k := 100000) (d := 100) (by decide +kernel)
end Go.Rex

open Go Go.Rex Go.Proofs
namespace Go.Rex
set_option maxRecDepth 100000
theorem pok11 : CallOk Tryz.prog pc11 := piece_ok follows (tab := [pc10]) (tab_cons pok10 (tab_nil)) (k := 100000) (d := 100) (by decide +kernel)
end Go.Rex

open Go Go.Rex Go.Proofs
namespace Go.Rex
set_option maxRecDepth 100000
theorem pok44 : CallOk Tryz.prog pc44 := piece_ok follows (tab := [pc0, pc11]) (tab_cons pok0 (tab_cons pok11 (tab_nil))) (k := 100000) (d := 100) (by decide +kernel)
end Go.Rex


open Go Go.Rex Go.Proofs
namespace Go.Rex
set_option maxRecDepth 100000
theorem pok12 : CallOk Tryz.prog pc12 := piece_ok follows (tab := []) (tab_nil) (k := 100000) (d := 100) (by decide +kernel)
end Go.Rex

open Go Go.Rex Go.Proofs
namespace Go.Rex
set_option maxRecDepth 100000
theorem pok45 : CallOk Tryz.prog pc45 := piece_ok follows (tab := [pc12]) (tab_cons pok12 (tab_nil)) (k := 100000) (d := 100) (by decide +kernel)
end Go.Rex

open Go Go.Rex Go.Proofs
namespace Go.Rex
set_option maxRecDepth 100000
theorem pok46 : CallOk Tryz.prog pc46 := piece_ok follows (tab := [pc0]) (tab_cons pok0 (tab_nil)) (k := 100000) (d := 100) (by decide +kernel)
end Go.Rex

open Go Go.Rex Go.Proofs
namespace Go.Rex
set_option maxRecDepth 100000
theorem pok47 : CallOk Tryz.prog pc47 := piece_ok follows (tab := [pc0]) (tab_cons pok0 (tab_nil)) (k := 100000) (d := 100) (by decide +kernel)
end Go.Rex

open Go Go.Rex Go.Proofs
namespace Go.Rex
set_option maxRecDepth 100000
theorem pok48 : CallOk Tryz.prog pc48 := piece_ok follows (tab := [pc0]) (tab_cons pok0 (tab_nil)) (k := 100000) (d := 100) (by decide +kernel)
end Go.Rex
