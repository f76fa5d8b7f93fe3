/- Calls of the closed examples are as told. -/
import Derived.Test.YthjoipggampleaaGreatCD
import Derived.Test.YthjoipggampleaaGreatC1
set_option linter.unusedSimpArgs false
set_option linter.unusedVariables false
set_option linter.defProp false
open Go Go.Rex Go.Proofs
namespace Go.Rex
set_option maxRecDepth 100000
theorem pok25 : CallOk Tryz.prog pc25 := piece_ok follows (tab := [pc13, pc23, pc24]) (tab_cons pok13 (tab_cons pok23 (tab_cons pok24 (tab_nil)))) (k := 100000) (d := 100) (by decide +kernel)
end Go.Rex

open Go Go.Rex Go.Proofs
namespace Go.Rex
set_option maxRecDepth 100000
theorem pok26 : CallOk Tryz.prog pc26 := piece_ok follows (tab := [pc14, pc17, pc20, pc23]) (tab_cons pok14 (tab_cons pok17 (tab_cons pok20 (tab_cons pok23 (tab_nil))))) (k := 100000) (d := 100) (by decide +kernel)
end Go.Rex

open Go Go.Rex Go.Proofs
namespace Go.Rex
set_option maxRecDepth 100000
theorem pok27 : CallOk Tryz.prog pc27 := piece_ok follows (tab := [pc13, pc26]) (tab_cons pok13 (tab_cons pok26 (tab_nil))) (k := 100000) (d := 100) (by decide +kernel)
end Go.Rex

open Go Go.Rex Go.Proofs
namespace Go.Rex
set_option maxRecDepth 100000
theorem pok28 : CallOk Tryz.prog pc28 := piece_ok follows (tab := [pc13, pc26]) (tab_cons pok13 (tab_cons pok26 (tab_nil))) (k := 100000) (d := 100) (by decide +kernel)
end Go.Rex

open Go Go.Rex Go.Proofs
namespace Go.Rex
set_option maxRecDepth 100000
theorem pok29 : CallOk Tryz.prog pc29 := piece_ok follows (tab := [pc14]) (tab_cons pok14 (tab_nil)) (k := 100000) (d := 100) (by decide +kernel)
end Go.Rex

open Go Go.Rex Go.Proofs
namespace Go.Rex
set_option maxRecDepth 100000
theorem pok30 : CallOk Tryz.prog pc30 := piece_ok follows (tab := [pc13, pc29]) (tab_cons pok13 (tab_cons pok29 (tab_nil))) (k := 100000) (d := 100) (by decide +kernel)
end Go.Rex


open Go Go.Rex Go.Proofs
namespace Go.Rex
set_option maxRecDepth 100000
theorem pok31 : CallOk Tryz.prog pc31 := piece_ok follows (tab := []) (tab_nil) (k := 100000) (d := 100) (by decide +kernel)
end Go.Rex

open Go Go.Rex Go.Proofs
namespace Go.Rex
set_option maxRecDepth 100000
theorem pok32 : CallOk Tryz.prog pc32 := piece_ok follows (tab := [pc14, pc17, pc20, pc23]) (tab_cons pok14 (tab_cons pok17 (tab_cons pok20 (tab_cons pok23 (tab_nil))))) (k := 100000) (d := 100) (by decide +kernel)
end Go.Rex

open Go Go.Rex Go.Proofs
namespace Go.Rex
set_option maxRecDepth 100000
theorem pok33 : CallOk Tryz.prog pc33 := piece_ok follows (tab := [pc13, pc31, pc32]) (tab_cons pok13 (tab_cons pok31 (tab_cons pok32 (tab_nil)))) (k := 100000) (d := 100) (by decide +kernel)
end Go.Rex

open Go Go.Rex Go.Proofs
namespace Go.Rex
set_option maxRecDepth 100000
theorem pok34 : CallOk Tryz.prog pc34 := piece_ok follows (tab := [pc30, pc33]) (tab_cons pok30 (tab_cons pok33 (tab_nil))) (k := 100000) (d := 100) (by decide +kernel)
end Go.Rex


open Go Go.Rex Go.Proofs
namespace Go.Rex
set_option maxRecDepth 100000
theorem pok35 : CallOk Tryz.prog pc35 := piece_ok follows (tab := []) (tab_nil) (k := 100000) (d := 100) (by decide +kernel)
end Go.Rex


open Go Go.Rex Go.Proofs
namespace Go.Rex
set_option maxRecDepth 100000
theorem pok36 : CallOk Tryz.prog pc36 := piece_ok follows (tab := []) (tab_nil) (k := 100000) (d := 100) (by decide +kernel)
end Go.Rex


open Go Go.Rex Go.Proofs
namespace Go.Rex
set_option maxRecDepth 100000
theorem pok37 : CallOk Tryz.prog pc37 := piece_ok follows (tab := []) (tab_nil) (k := 100000) (d := 100) (by decide +kernel)
end Go.Rex


open Go Go.Rex Go.Proofs
namespace Go.Rex
set_option maxRecDepth 100000
theorem pok38 : CallOk Tryz.prog pc38 := piece_ok follows (tab := []) (tab_nil) (k := 100000) (d := 100) (by decide +kernel)
end Go.Rex

open Go Go.Rex Go.Proofs
namespace Go.Rex
set_option maxRecDepth 100000
theorem pok39 : CallOk Tryz.prog pc39 := piece_ok follows (tab := [pc38]) (tab_cons pok38 (tab_nil)) (k := 100000) (d := 100) (by decide +kernel)
end Go.Rex

open Go Go.Rex Go.Proofs
namespace Go.Rex
set_option maxRecDepth 100000
theorem pok40 : CallOk Tryz.prog pc40 := piece_ok follows (tab := [pc37, pc39]) (tab_cons pok37 (tab_cons pok39 (tab_nil))) (k := 100000) (d := 100) (by decide +kernel)
end Go.Rex

open Go Go.Rex Go.Proofs
namespace Go.Rex
set_option maxRecDepth 100000
theorem pok41 : CallOk Tryz.prog pc41 := piece_ok follows (tab := [pc35, pc36, pc40]) (tab_cons pok35 (tab_cons pok36 (tab_cons pok40 (tab_nil)))) (k := 100000) (d := 100) (by decide +kernel)
end Go.Rex


open Go Go.Rex Go.Proofs
namespace Go.Rex
set_option maxRecDepth 100000
theorem pok42 : CallOk Tryz.prog pc42 := piece_ok follows (tab := []) (tab_nil) (k := 100000) (d := 100) (by decide +kernel)
end Go.Rex


open Go Go.Rex Go.Proofs
namespace Go.Rex
set_option maxRecDepth 100000
theorem pok43 : CallOk Tryz.prog pc43 := piece_ok follows (tab := []) (tab_nil) (k := 100000) (d := 100) (by decide +kernel)
end Go.Rex


open Go Go.Rex Go.Proofs
namespace Go.Rex
set_option maxRecDepth 100000
theorem pok44 : CallOk Tryz.prog pc44 := piece_ok follows (tab := []) (tab_nil) (k := 100000) (d := 100) (by decide +kernel)
end Go.Rex

open Go Go.Rex Go.Proofs
namespace Go.Rex
set_option maxRecDepth 100000
theorem pok45 : CallOk Tryz.prog pc45 := piece_ok follows (tab := [pc13, pc17, pc42, pc43, pc44]) (tab_cons pok13 (tab_cons pok17 (tab_cons pok42 (tab_cons pok43 (tab_cons pok44 (tab_nil)))))) (k := 100000) (d := 100) (by decide +kernel)
end Go.Rex

open Go Go.Rex Go.Proofs
namespace Go.Rex
set_option maxRecDepth 100000
theorem pok46 : CallOk Tryz.prog pc46 := piece_ok follows (tab := [pc14, pc17, pc20, pc23]) (tab_cons pok14 (tab_cons pok17 (tab_cons pok20 (tab_cons pok23 (tab_nil))))) (k := 100000) (d := 100) (by decide +kernel)
end Go.Rex


open Go Go.Rex Go.Proofs
namespace Go.Rex
set_option maxRecDepth 100000
theorem pok47 : CallOk Tryz.prog pc47 := piece_ok follows (tab := []) (tab_nil) (k := 100000) (d := 100) (by decide +kernel)
end Go.Rex


open Go Go.Rex Go.Proofs
namespace Go.Rex
set_option maxRecDepth 100000
theorem pok48 : CallOk Tryz.prog pc48 := piece_ok follows (tab := []) (tab_nil) (k := 100000) (d := 100) (by decide +kernel)
end Go.Rex


open Go Go.Rex Go.Proofs
namespace Go.Rex
set_option maxRecDepth 100000
theorem pok49 : CallOk Tryz.prog pc49 := piece_ok follows (tab := []) (tab_nil) (k := 100000) (d := 100) (by decide +kernel)
end Go.Rex
