/- Calls of the closed examples are as told. -/
import Derived.Test.YthjoipggampleaaGreatCD
set_option linter.unusedSimpArgs false
set_option linter.unusedVariables false
set_option linter.defProp false

open Go Go.Rex Go.Proofs
namespace Go.Rex
set_option maxRecDepth 100000
theorem pok0 : CallOk Tryz.prog pc0 := piece_ok follows (tab := []) (tab_nil) (k := 100000) (d := 100) (by decide +kernel)
end Go.Rex


open Go Go.Rex Go.Proofs
namespace Go.Rex
set_option maxRecDepth 100000
theorem pok1 : CallOk Tryz.prog pc1 := piece_ok follows (tab := []) (tab_nil) (k := 100000) (d := 100) (by decide +kernel)
end Go.Rex


open Go Go.Rex Go.Proofs
namespace Go.Rex
set_option maxRecDepth 100000
theorem pok2 : CallOk Tryz.prog pc2 := piece_ok follows (tab := []) (tab_nil) (k := 100000) (d := 100) (by decide +kernel)
end Go.Rex


open Go Go.Rex Go.Proofs
namespace Go.Rex
set_option maxRecDepth 100000
theorem pok3 : CallOk Tryz.prog pc3 := piece_ok follows (tab := []) (tab_nil) (k := 100000) (d := 100) (by decide +kernel)
end Go.Rex


open Go Go.Rex Go.Proofs
namespace Go.Rex
set_option maxRecDepth 100000
theorem pok4 : CallOk Tryz.prog pc4 := piece_ok follows (tab := []) (tab_nil) (k := 100000) (d := 100) (by decide +kernel)
end Go.Rex


open Go Go.Rex Go.Proofs
namespace Go.Rex
set_option maxRecDepth 100000
theorem pok5 : CallOk Tryz.prog pc5 := piece_ok follows (tab := []) (tab_nil) (k := 100000) (d := 100) (by decide +kernel)
end Go.Rex


open Go Go.Rex Go.Proofs
namespace Go.Rex
set_option maxRecDepth 100000
theorem pok6 : CallOk Tryz.prog pc6 := piece_ok follows (tab := []) (tab_nil) (k := 100000) (d := 100) (by decide +kernel)
end Go.Rex


open Go Go.Rex Go.Proofs
namespace Go.Rex
set_option maxRecDepth 100000
theorem pok7 : CallOk Tryz.prog pc7 := piece_ok follows (tab := []) (tab_nil) (k := 100000) (d := 100) (by decide +kernel)
end Go.Rex


open Go Go.Rex Go.Proofs
namespace Go.Rex
set_option maxRecDepth 100000
theorem pok8 : CallOk Tryz.prog pc8 := piece_ok follows (tab := []) (tab_nil) (k := 100000) (d := 100) (by decide +kernel)
end Go.Rex


open Go Go.Rex Go.Proofs
namespace Go.Rex
set_option maxRecDepth 100000
theorem pok9 : CallOk Tryz.prog pc9 := piece_ok follows (tab := []) (tab_nil) (k := 100000) (d := 100) (by decide +kernel)
end Go.Rex


open Go Go.Rex Go.Proofs
namespace Go.Rex
set_option maxRecDepth 100000
theorem pok10 : CallOk Tryz.prog pc10 := piece_ok follows (tab := []) (tab_nil) (k := 100000) (d := 100) (by decide +kernel)
end Go.Rex


open Go Go.Rex Go.Proofs
namespace Go.Rex
set_option maxRecDepth 100000
theorem pok11 : CallOk Tryz.prog pc11 := piece_ok follows (tab := []) (tab_nil) (k := 100000) (d := 100) (by decide +kernel)
end Go.Rex


open Go Go.Rex Go.Proofs
namespace Go.Rex
set_option maxRecDepth 100000
theorem pok12 : CallOk Tryz.prog pc12 := piece_ok follows (tab := []) (tab_nil) (k := 100000) (d := 100) (by decide +kernel)
end Go.Rex

open Go Go.Rex Go.Proofs
namespace Go.Rex
set_option maxRecDepth 100000
theorem pok13 : CallOk Tryz.prog pc13 := piece_ok follows (tab := [pc0, pc1, pc2, pc3, pc4, pc5, pc6, pc7, pc8, pc9, pc10, pc11, pc12]) (tab_cons pok0 (tab_cons pok1 (tab_cons pok2 (tab_cons pok3 (tab_cons pok4 (tab_cons pok5 (tab_cons pok6 (tab_cons pok7 (tab_cons pok8 (tab_cons pok9 (tab_cons pok10 (tab_cons pok11 (tab_cons pok12 (tab_nil)))))))))))))) (k := 100000) (d := 100) (by decide +kernel)
end Go.Rex


open Go Go.Rex Go.Proofs
namespace Go.Rex
set_option maxRecDepth 100000
theorem pok14 : CallOk Tryz.prog pc14 := piece_ok follows (tab := []) (tab_nil) (k := 100000) (d := 100) (by decide +kernel)
end Go.Rex


open Go Go.Rex Go.Proofs
namespace Go.Rex
set_option maxRecDepth 100000
theorem pok15 : CallOk Tryz.prog pc15 := piece_ok follows (tab := []) (tab_nil) (k := 100000) (d := 100) (by decide +kernel)
end Go.Rex

open Go Go.Rex Go.Proofs
namespace Go.Rex
set_option maxRecDepth 100000
theorem pok16 : CallOk Tryz.prog pc16 := piece_ok follows (tab := [pc13, pc14, pc15]) (tab_cons pok13 (tab_cons pok14 (tab_cons pok15 (tab_nil)))) (k := 100000) (d := 100) (by decide +kernel)
end Go.Rex


open Go Go.Rex Go.Proofs
namespace Go.Rex
set_option maxRecDepth 100000
theorem pok17 : CallOk Tryz.prog pc17 := piece_ok follows (tab := []) (tab_nil) (k := 100000) (d := 100) (by decide +kernel)
end Go.Rex


open Go Go.Rex Go.Proofs
namespace Go.Rex
set_option maxRecDepth 100000
theorem pok18 : CallOk Tryz.prog pc18 := piece_ok follows (tab := []) (tab_nil) (k := 100000) (d := 100) (by decide +kernel)
end Go.Rex

open Go Go.Rex Go.Proofs
namespace Go.Rex
set_option maxRecDepth 100000
theorem pok19 : CallOk Tryz.prog pc19 := piece_ok follows (tab := [pc13, pc17, pc18]) (tab_cons pok13 (tab_cons pok17 (tab_cons pok18 (tab_nil)))) (k := 100000) (d := 100) (by decide +kernel)
end Go.Rex


open Go Go.Rex Go.Proofs
namespace Go.Rex
set_option maxRecDepth 100000
theorem pok20 : CallOk Tryz.prog pc20 := piece_ok follows (tab := []) (tab_nil) (k := 100000) (d := 100) (by decide +kernel)
end Go.Rex


open Go Go.Rex Go.Proofs
namespace Go.Rex
set_option maxRecDepth 100000
theorem pok21 : CallOk Tryz.prog pc21 := piece_ok follows (tab := []) (tab_nil) (k := 100000) (d := 100) (by decide +kernel)
end Go.Rex

open Go Go.Rex Go.Proofs
namespace Go.Rex
set_option maxRecDepth 100000
theorem pok22 : CallOk Tryz.prog pc22 := piece_ok follows (tab := [pc13, pc20, pc21]) (tab_cons pok13 (tab_cons pok20 (tab_cons pok21 (tab_nil)))) (k := 100000) (d := 100) (by decide +kernel)
end Go.Rex


open Go Go.Rex Go.Proofs
namespace Go.Rex
set_option maxRecDepth 100000
theorem pok23 : CallOk Tryz.prog pc23 := piece_ok follows (tab := []) (tab_nil) (k := 100000) (d := 100) (by decide +kernel)
end Go.Rex


open Go Go.Rex Go.Proofs
namespace Go.Rex
set_option maxRecDepth 100000
theorem pok24 : CallOk Tryz.prog pc24 := piece_ok follows (tab := []) (tab_nil) (k := 100000) (d := 100) (by decide +kernel)
end Go.Rex
