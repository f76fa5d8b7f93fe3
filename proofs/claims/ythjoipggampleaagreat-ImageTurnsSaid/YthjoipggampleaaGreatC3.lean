/- Calls of the closed examples are as told. -/
import Derived.Test.YthjoipggampleaaGreatCD
import Derived.Test.YthjoipggampleaaGreatC2
import Derived.Test.YthjoipggampleaaGreatC1
set_option linter.unusedSimpArgs false
set_option linter.unusedVariables false
set_option linter.defProp false

open Go Go.Rex Go.Proofs
namespace Go.Rex
set_option maxRecDepth 100000
theorem pok50 : CallOk Tryz.prog pc50 := piece_ok follows (tab := []) (tab_nil) (k := 100000) (d := 100) (by decide +kernel)
end Go.Rex

open Go Go.Rex Go.Proofs
namespace Go.Rex
set_option maxRecDepth 100000
theorem pok51 : CallOk Tryz.prog pc51 := piece_ok follows (tab := [pc46, pc14, pc47, pc48, pc49, pc50]) (tab_cons pok46 (tab_cons pok14 (tab_cons pok47 (tab_cons pok48 (tab_cons pok49 (tab_cons pok50 (tab_nil))))))) (k := 100000) (d := 100) (by decide +kernel)
end Go.Rex

open Go Go.Rex Go.Proofs
namespace Go.Rex
set_option maxRecDepth 100000
theorem pok52 : CallOk Tryz.prog pc52 := piece_ok follows (tab := [pc13, pc51]) (tab_cons pok13 (tab_cons pok51 (tab_nil))) (k := 100000) (d := 100) (by decide +kernel)
end Go.Rex

open Go Go.Rex Go.Proofs
namespace Go.Rex
set_option maxRecDepth 100000
theorem pok53 : CallOk Tryz.prog pc53 := piece_ok follows (tab := [pc14, pc17, pc20]) (tab_cons pok14 (tab_cons pok17 (tab_cons pok20 (tab_nil)))) (k := 100000) (d := 100) (by decide +kernel)
end Go.Rex


open Go Go.Rex Go.Proofs
namespace Go.Rex
set_option maxRecDepth 100000
theorem pok54 : CallOk Tryz.prog pc54 := piece_ok follows (tab := []) (tab_nil) (k := 100000) (d := 100) (by decide +kernel)
end Go.Rex


open Go Go.Rex Go.Proofs
namespace Go.Rex
set_option maxRecDepth 100000
theorem pok55 : CallOk Tryz.prog pc55 := piece_ok follows (tab := []) (tab_nil) (k := 100000) (d := 100) (by decide +kernel)
end Go.Rex


open Go Go.Rex Go.Proofs
namespace Go.Rex
set_option maxRecDepth 100000
theorem pok56 : CallOk Tryz.prog pc56 := piece_ok follows (tab := []) (tab_nil) (k := 100000) (d := 100) (by decide +kernel)
end Go.Rex


open Go Go.Rex Go.Proofs
namespace Go.Rex
set_option maxRecDepth 100000
theorem pok57 : CallOk Tryz.prog pc57 := piece_ok follows (tab := []) (tab_nil) (k := 100000) (d := 100) (by decide +kernel)
end Go.Rex

open Go Go.Rex Go.Proofs
namespace Go.Rex
set_option maxRecDepth 100000
theorem pok58 : CallOk Tryz.prog pc58 := piece_ok follows (tab := [pc53, pc14, pc54, pc17, pc55, pc20, pc56, pc23, pc57]) (tab_cons pok53 (tab_cons pok14 (tab_cons pok54 (tab_cons pok17 (tab_cons pok55 (tab_cons pok20 (tab_cons pok56 (tab_cons pok23 (tab_cons pok57 (tab_nil)))))))))) (k := 100000) (d := 100) (by decide +kernel)
end Go.Rex

open Go Go.Rex Go.Proofs
namespace Go.Rex
set_option maxRecDepth 100000
theorem pok59 : CallOk Tryz.prog pc59 := piece_ok follows (tab := [pc13, pc58]) (tab_cons pok13 (tab_cons pok58 (tab_nil))) (k := 100000) (d := 100) (by decide +kernel)
end Go.Rex


open Go Go.Rex Go.Proofs
namespace Go.Rex
set_option maxRecDepth 100000
theorem pok60 : CallOk Tryz.prog pc60 := piece_ok follows (tab := []) (tab_nil) (k := 100000) (d := 100) (by decide +kernel)
end Go.Rex


open Go Go.Rex Go.Proofs
namespace Go.Rex
set_option maxRecDepth 100000
theorem pok61 : CallOk Tryz.prog pc61 := piece_ok follows (tab := []) (tab_nil) (k := 100000) (d := 100) (by decide +kernel)
end Go.Rex

open Go Go.Rex Go.Proofs
namespace Go.Rex
set_option maxRecDepth 100000
theorem pok62 : CallOk Tryz.prog pc62 := piece_ok follows (tab := [pc61]) (tab_cons pok61 (tab_nil)) (k := 100000) (d := 100) (by decide +kernel)
end Go.Rex

open Go Go.Rex Go.Proofs
namespace Go.Rex
set_option maxRecDepth 100000
theorem pok63 : CallOk Tryz.prog pc63 := piece_ok follows (tab := [pc13]) (tab_cons pok13 (tab_nil)) (k := 100000) (d := 100) (by decide +kernel)
end Go.Rex

open Go Go.Rex Go.Proofs
namespace Go.Rex
set_option maxRecDepth 100000
theorem pok64 : CallOk Tryz.prog pc64 := piece_ok follows (tab := [pc13]) (tab_cons pok13 (tab_nil)) (k := 100000) (d := 100) (by decide +kernel)
end Go.Rex

open Go Go.Rex Go.Proofs
namespace Go.Rex
set_option maxRecDepth 100000
theorem pok65 : CallOk Tryz.prog pc65 := piece_ok follows (tab := [pc13]) (tab_cons pok13 (tab_nil)) (k := 100000) (d := 100) (by decide +kernel)
end Go.Rex

open Go Go.Rex Go.Proofs
namespace Go.Rex
set_option maxRecDepth 100000
theorem pok66 : CallOk Tryz.prog pc66 := piece_ok follows (tab := [pc13]) (tab_cons pok13 (tab_nil)) (k := 100000) (d := 100) (by decide +kernel)
end Go.Rex


open Go Go.Rex Go.Proofs
namespace Go.Rex
set_option maxRecDepth 100000
theorem pok67 : CallOk Tryz.prog pc67 := piece_ok follows (tab := []) (tab_nil) (k := 100000) (d := 100) (by decide +kernel)
end Go.Rex

open Go Go.Rex Go.Proofs
namespace Go.Rex
set_option maxRecDepth 100000
theorem pok68 : CallOk Tryz.prog pc68 := piece_ok follows (tab := [pc13, pc67]) (tab_cons pok13 (tab_cons pok67 (tab_nil))) (k := 100000) (d := 100) (by decide +kernel)
end Go.Rex

open Go Go.Rex Go.Proofs
namespace Go.Rex
set_option maxRecDepth 100000
theorem pok69 : CallOk Tryz.prog pc69 := piece_ok follows (tab := [pc13, pc67]) (tab_cons pok13 (tab_cons pok67 (tab_nil))) (k := 100000) (d := 100) (by decide +kernel)
end Go.Rex


open Go Go.Rex Go.Proofs
namespace Go.Rex
set_option maxRecDepth 100000
theorem pok70 : CallOk Tryz.prog pc70 := piece_ok follows (tab := []) (tab_nil) (k := 100000) (d := 100) (by decide +kernel)
end Go.Rex

open Go Go.Rex Go.Proofs
namespace Go.Rex
set_option maxRecDepth 100000
theorem pok71 : CallOk Tryz.prog pc71 := piece_ok follows (tab := [pc13, pc70]) (tab_cons pok13 (tab_cons pok70 (tab_nil))) (k := 100000) (d := 100) (by decide +kernel)
end Go.Rex


open Go Go.Rex Go.Proofs
namespace Go.Rex
set_option maxRecDepth 100000
theorem pok72 : CallOk Tryz.prog pc72 := piece_ok follows (tab := []) (tab_nil) (k := 100000) (d := 100) (by decide +kernel)
end Go.Rex


open Go Go.Rex Go.Proofs
namespace Go.Rex
set_option maxRecDepth 100000
theorem pok73 : CallOk Tryz.prog pc73 := piece_ok follows (tab := []) (tab_nil) (k := 100000) (d := 100) (by decide +kernel)
end Go.Rex

open Go Go.Rex Go.Proofs
namespace Go.Rex
set_option maxRecDepth 100000
theorem pok74 : CallOk Tryz.prog pc74 := piece_ok follows (tab := [pc73]) (tab_cons pok73 (tab_nil)) (k := 100000) (d := 100) (by decide +kernel)
end Go.Rex
