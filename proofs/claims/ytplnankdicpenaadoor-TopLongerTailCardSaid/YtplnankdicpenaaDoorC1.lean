/- Calls of the closed examples are as told. -/
import Derived.Test.YtplnankdicpenaaDoorCD
set_option linter.unusedSimpArgs false
set_option linter.unusedVariables false
set_option linter.defProp false

open Go Go.Rex Go.Proofs
namespace Go.Rex
set_option maxRecDepth 100000
theorem pok0 : CallN Tryd.prog pc0 := piece_okN follows (tab := []) (tabN_nil) (k := 100000) (d := 100) (by decide +kernel)
end Go.Rex

open Go Go.Rex Go.Proofs
namespace Go.Rex
set_option maxRecDepth 100000
theorem pok1 : CallN Tryd.prog pc1 := piece_okN follows (tab := [pc0]) (tabN_cons pok0 (tabN_nil)) (k := 100000) (d := 100) (by decide +kernel)
end Go.Rex


open Go Go.Rex Go.Proofs
namespace Go.Rex
set_option maxRecDepth 100000
theorem pok2 : CallN Tryd.prog pc2 := piece_okN follows (tab := []) (tabN_nil) (k := 100000) (d := 100) (by decide +kernel)
end Go.Rex


open Go Go.Rex Go.Proofs
namespace Go.Rex
set_option maxRecDepth 100000
theorem pok3 : CallN Tryd.prog pc3 := piece_okN follows (tab := []) (tabN_nil) (k := 100000) (d := 100) (by decide +kernel)
end Go.Rex


open Go Go.Rex Go.Proofs
namespace Go.Rex
set_option maxRecDepth 100000
theorem pok4 : CallN Tryd.prog pc4 := piece_okN follows (tab := []) (tabN_nil) (k := 100000) (d := 100) (by decide +kernel)
end Go.Rex

open Go Go.Rex Go.Proofs
namespace Go.Rex
set_option maxRecDepth 100000
theorem pok5 : CallN Tryd.prog pc5 := piece_okN follows (tab := [pc2, pc3, pc4]) (tabN_cons pok2 (tabN_cons pok3 (tabN_cons pok4 (tabN_nil)))) (k := 100000) (d := 100) (by decide +kernel)
end Go.Rex


open Go Go.Rex Go.Proofs
namespace Go.Rex
set_option maxRecDepth 100000
theorem pok6 : CallN Tryd.prog pc6 := piece_okN follows (tab := []) (tabN_nil) (k := 100000) (d := 100) (by decide +kernel)
end Go.Rex


open Go Go.Rex Go.Proofs
namespace Go.Rex
set_option maxRecDepth 100000
theorem pok7 : CallN Tryd.prog pc7 := piece_okN follows (tab := []) (tabN_nil) (k := 100000) (d := 100) (by decide +kernel)
end Go.Rex


open Go Go.Rex Go.Proofs
namespace Go.Rex
set_option maxRecDepth 100000
theorem pok8 : CallN Tryd.prog pc8 := piece_okN follows (tab := []) (tabN_nil) (k := 100000) (d := 100) (by decide +kernel)
end Go.Rex


open Go Go.Rex Go.Proofs
namespace Go.Rex
set_option maxRecDepth 100000
theorem pok9 : CallN Tryd.prog pc9 := piece_okN follows (tab := []) (tabN_nil) (k := 100000) (d := 100) (by decide +kernel)
end Go.Rex

open Go Go.Rex Go.Proofs
namespace Go.Rex
set_option maxRecDepth 100000
theorem pok10 : CallN Tryd.prog pc10 := piece_okN follows (tab := [pc2, pc6, pc7, pc8, pc9]) (tabN_cons pok2 (tabN_cons pok6 (tabN_cons pok7 (tabN_cons pok8 (tabN_cons pok9 (tabN_nil)))))) (k := 100000) (d := 100) (by decide +kernel)
end Go.Rex


open Go Go.Rex Go.Proofs
namespace Go.Rex
set_option maxRecDepth 100000
theorem pok11 : CallN Tryd.prog pc11 := piece_okN follows (tab := []) (tabN_nil) (k := 100000) (d := 100) (by decide +kernel)
end Go.Rex


open Go Go.Rex Go.Proofs
namespace Go.Rex
set_option maxRecDepth 100000
theorem pok12 : CallN Tryd.prog pc12 := piece_okN follows (tab := []) (tabN_nil) (k := 100000) (d := 100) (by decide +kernel)
end Go.Rex

open Go Go.Rex Go.Proofs
namespace Go.Rex
set_option maxRecDepth 100000
theorem pok13 : CallN Tryd.prog pc13 := piece_okN follows (tab := [pc2, pc6, pc7, pc11, pc12]) (tabN_cons pok2 (tabN_cons pok6 (tabN_cons pok7 (tabN_cons pok11 (tabN_cons pok12 (tabN_nil)))))) (k := 100000) (d := 100) (by decide +kernel)
end Go.Rex


open Go Go.Rex Go.Proofs
namespace Go.Rex
set_option maxRecDepth 100000
theorem pok14 : CallN Tryd.prog pc14 := piece_okN follows (tab := []) (tabN_nil) (k := 100000) (d := 100) (by decide +kernel)
end Go.Rex

open Go Go.Rex Go.Proofs
namespace Go.Rex
set_option maxRecDepth 100000
theorem pok15 : CallN Tryd.prog pc15 := piece_okN follows (tab := [pc14, pc2]) (tabN_cons pok14 (tabN_cons pok2 (tabN_nil))) (k := 100000) (d := 100) (by decide +kernel)
end Go.Rex

open Go Go.Rex Go.Proofs
namespace Go.Rex
set_option maxRecDepth 100000
theorem pok16 : CallN Tryd.prog pc16 := piece_okN follows (tab := [pc14, pc2]) (tabN_cons pok14 (tabN_cons pok2 (tabN_nil))) (k := 100000) (d := 100) (by decide +kernel)
end Go.Rex


open Go Go.Rex Go.Proofs
namespace Go.Rex
set_option maxRecDepth 100000
theorem pok17 : CallN Tryd.prog pc17 := piece_okN follows (tab := []) (tabN_nil) (k := 100000) (d := 100) (by decide +kernel)
end Go.Rex

open Go Go.Rex Go.Proofs
namespace Go.Rex
set_option maxRecDepth 100000
theorem pok18 : CallN Tryd.prog pc18 := piece_okN follows (tab := [pc2, pc17]) (tabN_cons pok2 (tabN_cons pok17 (tabN_nil))) (k := 100000) (d := 100) (by decide +kernel)
end Go.Rex

open Go Go.Rex Go.Proofs
namespace Go.Rex
set_option maxRecDepth 100000
theorem pok19 : CallN Tryd.prog pc19 := piece_okN follows (tab := [pc5, pc10, pc13, pc15, pc16, pc18]) (tabN_cons pok5 (tabN_cons pok10 (tabN_cons pok13 (tabN_cons pok15 (tabN_cons pok16 (tabN_cons pok18 (tabN_nil))))))) (k := 100000) (d := 100) (by decide +kernel)
end Go.Rex


open Go Go.Rex Go.Proofs
namespace Go.Rex
set_option maxRecDepth 100000
theorem pok20 : CallN Tryd.prog pc20 := piece_okN follows (tab := []) (tabN_nil) (k := 100000) (d := 100) (by decide +kernel)
end Go.Rex


open Go Go.Rex Go.Proofs
namespace Go.Rex
set_option maxRecDepth 100000
theorem pok21 : CallN Tryd.prog pc21 := piece_okN follows (tab := []) (tabN_nil) (k := 100000) (d := 100) (by decide +kernel)
end Go.Rex

open Go Go.Rex Go.Proofs
namespace Go.Rex
set_option maxRecDepth 100000
theorem pok22 : CallN Tryd.prog pc22 := piece_okN follows (tab := [pc20, pc21]) (tabN_cons pok20 (tabN_cons pok21 (tabN_nil))) (k := 100000) (d := 100) (by decide +kernel)
end Go.Rex
