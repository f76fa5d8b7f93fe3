/- Calls of the closed examples are as told. -/
import Derived.Test.YtjhneebncpmneaaGreatDoorCD
set_option linter.unusedSimpArgs false
set_option linter.unusedVariables false
set_option linter.defProp false

open Go Go.Rex Go.Proofs
namespace Go.Rex
set_option maxRecDepth 100000
theorem pok0 : CallN Tryz.prog pc0 := piece_okN follows (tab := []) (tabN_nil) (k := 100000) (d := 100) (by decide +kernel)
end Go.Rex

open Go Go.Rex Go.Proofs
namespace Go.Rex
set_option maxRecDepth 100000
theorem pok1 : CallN Tryz.prog pc1 := piece_okN follows (tab := [pc0]) (tabN_cons pok0 (tabN_nil)) (k := 100000) (d := 100) (by decide +kernel)
end Go.Rex


open Go Go.Rex Go.Proofs
namespace Go.Rex
set_option maxRecDepth 100000
theorem pok2 : CallN Tryz.prog pc2 := piece_okN follows (tab := []) (tabN_nil) (k := 100000) (d := 100) (by decide +kernel)
end Go.Rex

open Go Go.Rex Go.Proofs
namespace Go.Rex
set_option maxRecDepth 100000
theorem pok3 : CallN Tryz.prog pc3 := piece_okN follows (tab := [pc1, pc2]) (tabN_cons pok1 (tabN_cons pok2 (tabN_nil))) (k := 100000) (d := 100) (by decide +kernel)
end Go.Rex


open Go Go.Rex Go.Proofs
namespace Go.Rex
set_option maxRecDepth 100000
theorem pok4 : CallN Tryz.prog pc4 := piece_okN follows (tab := []) (tabN_nil) (k := 100000) (d := 100) (by decide +kernel)
end Go.Rex


open Go Go.Rex Go.Proofs
namespace Go.Rex
set_option maxRecDepth 100000
theorem pok5 : CallN Tryz.prog pc5 := piece_okN follows (tab := []) (tabN_nil) (k := 100000) (d := 100) (by decide +kernel)
end Go.Rex


open Go Go.Rex Go.Proofs
namespace Go.Rex
set_option maxRecDepth 100000
theorem pok6 : CallN Tryz.prog pc6 := piece_okN follows (tab := []) (tabN_nil) (k := 100000) (d := 100) (by decide +kernel)
end Go.Rex


open Go Go.Rex Go.Proofs
namespace Go.Rex
set_option maxRecDepth 100000
theorem pok7 : CallN Tryz.prog pc7 := piece_okN follows (tab := []) (tabN_nil) (k := 100000) (d := 100) (by decide +kernel)
end Go.Rex

open Go Go.Rex Go.Proofs
namespace Go.Rex
set_option maxRecDepth 100000
theorem pok8 : CallN Tryz.prog pc8 := piece_okN follows (tab := [pc2, pc4, pc5, pc6, pc7]) (tabN_cons pok2 (tabN_cons pok4 (tabN_cons pok5 (tabN_cons pok6 (tabN_cons pok7 (tabN_nil)))))) (k := 100000) (d := 100) (by decide +kernel)
end Go.Rex

open Go Go.Rex Go.Proofs
namespace Go.Rex
set_option maxRecDepth 100000
theorem pok215 : CallN Tryz.prog pc215 := piece_okN follows (tab := [pc1, pc8]) (tabN_cons pok1 (tabN_cons pok8 (tabN_nil))) (k := 100000) (d := 100) (by decide +kernel)
end Go.Rex


open Go Go.Rex Go.Proofs
namespace Go.Rex
set_option maxRecDepth 100000
theorem pok9 : CallN Tryz.prog pc9 := piece_okN follows (tab := []) (tabN_nil) (k := 100000) (d := 100) (by decide +kernel)
end Go.Rex


open Go Go.Rex Go.Proofs
namespace Go.Rex
set_option maxRecDepth 100000
theorem pok10 : CallN Tryz.prog pc10 := piece_okN follows (tab := []) (tabN_nil) (k := 100000) (d := 100) (by decide +kernel)
end Go.Rex


open Go Go.Rex Go.Proofs
namespace Go.Rex
set_option maxRecDepth 100000
theorem pok11 : CallN Tryz.prog pc11 := piece_okN follows (tab := []) (tabN_nil) (k := 100000) (d := 100) (by decide +kernel)
end Go.Rex


open Go Go.Rex Go.Proofs
namespace Go.Rex
set_option maxRecDepth 100000
theorem pok12 : CallN Tryz.prog pc12 := piece_okN follows (tab := []) (tabN_nil) (k := 100000) (d := 100) (by decide +kernel)
end Go.Rex


open Go Go.Rex Go.Proofs
namespace Go.Rex
set_option maxRecDepth 100000
theorem pok13 : CallN Tryz.prog pc13 := piece_okN follows (tab := []) (tabN_nil) (k := 100000) (d := 100) (by decide +kernel)
end Go.Rex


open Go Go.Rex Go.Proofs
namespace Go.Rex
set_option maxRecDepth 100000
theorem pok14 : CallN Tryz.prog pc14 := piece_okN follows (tab := []) (tabN_nil) (k := 100000) (d := 100) (by decide +kernel)
end Go.Rex

open Go Go.Rex Go.Proofs
namespace Go.Rex
set_option maxRecDepth 100000
theorem pok15 : CallN Tryz.prog pc15 := piece_okN follows (tab := [pc14]) (tabN_cons pok14 (tabN_nil)) (k := 100000) (d := 100) (by decide +kernel)
end Go.Rex


open Go Go.Rex Go.Proofs
namespace Go.Rex
set_option maxRecDepth 100000
theorem pok16 : CallN Tryz.prog pc16 := piece_okN follows (tab := []) (tabN_nil) (k := 100000) (d := 100) (by decide +kernel)
end Go.Rex


open Go Go.Rex Go.Proofs
namespace Go.Rex
set_option maxRecDepth 100000
theorem pok17 : CallN Tryz.prog pc17 := piece_okN follows (tab := []) (tabN_nil) (k := 100000) (d := 100) (by decide +kernel)
end Go.Rex


open Go Go.Rex Go.Proofs
namespace Go.Rex
set_option maxRecDepth 100000
theorem pok18 : CallN Tryz.prog pc18 := piece_okN follows (tab := []) (tabN_nil) (k := 100000) (d := 100) (by decide +kernel)
end Go.Rex


open Go Go.Rex Go.Proofs
namespace Go.Rex
set_option maxRecDepth 100000
theorem pok19 : CallN Tryz.prog pc19 := piece_okN follows (tab := []) (tabN_nil) (k := 100000) (d := 100) (by decide +kernel)
end Go.Rex


open Go Go.Rex Go.Proofs
namespace Go.Rex
set_option maxRecDepth 100000
theorem pok20 : CallN Tryz.prog pc20 := piece_okN follows (tab := []) (tabN_nil) (k := 100000) (d := 100) (by decide +kernel)
end Go.Rex


open Go Go.Rex Go.Proofs
namespace Go.Rex
set_option maxRecDepth 100000
theorem pok21 : CallN Tryz.prog pc21 := piece_okN follows (tab := []) (tabN_nil) (k := 100000) (d := 100) (by decide +kernel)
end Go.Rex


open Go Go.Rex Go.Proofs
namespace Go.Rex
set_option maxRecDepth 100000
theorem pok22 : CallN Tryz.prog pc22 := piece_okN follows (tab := []) (tabN_nil) (k := 100000) (d := 100) (by decide +kernel)
end Go.Rex


open Go Go.Rex Go.Proofs
namespace Go.Rex
set_option maxRecDepth 100000
theorem pok23 : CallN Tryz.prog pc23 := piece_okN follows (tab := []) (tabN_nil) (k := 100000) (d := 100) (by decide +kernel)
end Go.Rex


open Go Go.Rex Go.Proofs
namespace Go.Rex
set_option maxRecDepth 100000
theorem pok24 : CallN Tryz.prog pc24 := piece_okN follows (tab := []) (tabN_nil) (k := 100000) (d := 100) (by decide +kernel)
end Go.Rex


open Go Go.Rex Go.Proofs
namespace Go.Rex
set_option maxRecDepth 100000
theorem pok25 : CallN Tryz.prog pc25 := piece_okN follows (tab := []) (tabN_nil) (k := 100000) (d := 100) (by decide +kernel)
end Go.Rex


open Go Go.Rex Go.Proofs
namespace Go.Rex
set_option maxRecDepth 100000
theorem pok26 : CallN Tryz.prog pc26 := piece_okN follows (tab := []) (tabN_nil) (k := 100000) (d := 100) (by decide +kernel)
end Go.Rex


open Go Go.Rex Go.Proofs
namespace Go.Rex
set_option maxRecDepth 100000
theorem pok27 : CallN Tryz.prog pc27 := piece_okN follows (tab := []) (tabN_nil) (k := 100000) (d := 100) (by decide +kernel)
end Go.Rex


open Go Go.Rex Go.Proofs
namespace Go.Rex
set_option maxRecDepth 100000
theorem pok28 : CallN Tryz.prog pc28 := piece_okN follows (tab := []) (tabN_nil) (k := 100000) (d := 100) (by decide +kernel)
end Go.Rex


open Go Go.Rex Go.Proofs
namespace Go.Rex
set_option maxRecDepth 100000
theorem pok29 : CallN Tryz.prog pc29 := piece_okN follows (tab := []) (tabN_nil) (k := 100000) (d := 100) (by decide +kernel)
end Go.Rex


open Go Go.Rex Go.Proofs
namespace Go.Rex
set_option maxRecDepth 100000
theorem pok30 : CallN Tryz.prog pc30 := piece_okN follows (tab := []) (tabN_nil) (k := 100000) (d := 100) (by decide +kernel)
end Go.Rex


open Go Go.Rex Go.Proofs
namespace Go.Rex
set_option maxRecDepth 100000
theorem pok31 : CallN Tryz.prog pc31 := piece_okN follows (tab := []) (tabN_nil) (k := 100000) (d := 100) (by decide +kernel)
end Go.Rex


open Go Go.Rex Go.Proofs
namespace Go.Rex
set_option maxRecDepth 100000
theorem pok32 : CallN Tryz.prog pc32 := piece_okN follows (tab := []) (tabN_nil) (k := 100000) (d := 100) (by decide +kernel)
end Go.Rex


open Go Go.Rex Go.Proofs
namespace Go.Rex
set_option maxRecDepth 100000
theorem pok33 : CallN Tryz.prog pc33 := piece_okN follows (tab := []) (tabN_nil) (k := 100000) (d := 100) (by decide +kernel)
end Go.Rex


open Go Go.Rex Go.Proofs
namespace Go.Rex
set_option maxRecDepth 100000
theorem pok34 : CallN Tryz.prog pc34 := piece_okN follows (tab := []) (tabN_nil) (k := 100000) (d := 100) (by decide +kernel)
end Go.Rex


open Go Go.Rex Go.Proofs
namespace Go.Rex
set_option maxRecDepth 100000
theorem pok35 : CallN Tryz.prog pc35 := piece_okN follows (tab := []) (tabN_nil) (k := 100000) (d := 100) (by decide +kernel)
end Go.Rex


open Go Go.Rex Go.Proofs
namespace Go.Rex
set_option maxRecDepth 100000
theorem pok36 : CallN Tryz.prog pc36 := piece_okN follows (tab := []) (tabN_nil) (k := 100000) (d := 100) (by decide +kernel)
end Go.Rex


open Go Go.Rex Go.Proofs
namespace Go.Rex
set_option maxRecDepth 100000
theorem pok37 : CallN Tryz.prog pc37 := piece_okN follows (tab := []) (tabN_nil) (k := 100000) (d := 100) (by decide +kernel)
end Go.Rex


open Go Go.Rex Go.Proofs
namespace Go.Rex
set_option maxRecDepth 100000
theorem pok38 : CallN Tryz.prog pc38 := piece_okN follows (tab := []) (tabN_nil) (k := 100000) (d := 100) (by decide +kernel)
end Go.Rex
