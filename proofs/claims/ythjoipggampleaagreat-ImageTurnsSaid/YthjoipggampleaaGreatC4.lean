/- Calls of the closed examples are as told. -/
import Derived.Test.YthjoipggampleaaGreatCD
import Derived.Test.YthjoipggampleaaGreatC3
set_option linter.unusedSimpArgs false
set_option linter.unusedVariables false
set_option linter.defProp false
open Go Go.Rex Go.Proofs
namespace Go.Rex
set_option maxRecDepth 100000
theorem pok75 : CallOk Tryz.prog pc75 := piece_ok follows (tab := [pc72, pc74]) (tab_cons pok72 (tab_cons pok74 (tab_nil))) (k := 100000) (d := 100) (by decide +kernel)
end Go.Rex


open Go Go.Rex Go.Proofs
namespace Go.Rex
set_option maxRecDepth 100000
theorem pok76 : CallOk Tryz.prog pc76 := piece_ok follows (tab := []) (tab_nil) (k := 100000) (d := 100) (by decide +kernel)
end Go.Rex


open Go Go.Rex Go.Proofs
namespace Go.Rex
set_option maxRecDepth 100000
theorem pok77 : CallOk Tryz.prog pc77 := piece_ok follows (tab := []) (tab_nil) (k := 100000) (d := 100) (by decide +kernel)
end Go.Rex

open Go Go.Rex Go.Proofs
namespace Go.Rex
set_option maxRecDepth 100000
theorem pok78 : CallOk Tryz.prog pc78 := piece_ok follows (tab := [pc76, pc77]) (tab_cons pok76 (tab_cons pok77 (tab_nil))) (k := 100000) (d := 100) (by decide +kernel)
end Go.Rex


open Go Go.Rex Go.Proofs
namespace Go.Rex
set_option maxRecDepth 100000
theorem pok79 : CallOk Tryz.prog pc79 := piece_ok follows (tab := []) (tab_nil) (k := 100000) (d := 100) (by decide +kernel)
end Go.Rex


open Go Go.Rex Go.Proofs
namespace Go.Rex
set_option maxRecDepth 100000
theorem pok80 : CallOk Tryz.prog pc80 := piece_ok follows (tab := []) (tab_nil) (k := 100000) (d := 100) (by decide +kernel)
end Go.Rex


open Go Go.Rex Go.Proofs
namespace Go.Rex
set_option maxRecDepth 100000
theorem pok81 : CallOk Tryz.prog pc81 := piece_ok follows (tab := []) (tab_nil) (k := 100000) (d := 100) (by decide +kernel)
end Go.Rex

open Go Go.Rex Go.Proofs
namespace Go.Rex
set_option maxRecDepth 100000
theorem pok82 : CallOk Tryz.prog pc82 := piece_ok follows (tab := [pc79, pc80, pc81]) (tab_cons pok79 (tab_cons pok80 (tab_cons pok81 (tab_nil)))) (k := 100000) (d := 100) (by decide +kernel)
end Go.Rex


open Go Go.Rex Go.Proofs
namespace Go.Rex
set_option maxRecDepth 100000
theorem pok83 : CallOk Tryz.prog pc83 := piece_ok follows (tab := []) (tab_nil) (k := 100000) (d := 100) (by decide +kernel)
end Go.Rex


open Go Go.Rex Go.Proofs
namespace Go.Rex
set_option maxRecDepth 100000
theorem pok84 : CallOk Tryz.prog pc84 := piece_ok follows (tab := []) (tab_nil) (k := 100000) (d := 100) (by decide +kernel)
end Go.Rex


open Go Go.Rex Go.Proofs
namespace Go.Rex
set_option maxRecDepth 100000
theorem pok85 : CallOk Tryz.prog pc85 := piece_ok follows (tab := []) (tab_nil) (k := 100000) (d := 100) (by decide +kernel)
end Go.Rex

open Go Go.Rex Go.Proofs
namespace Go.Rex
set_option maxRecDepth 100000
theorem pok86 : CallOk Tryz.prog pc86 := piece_ok follows (tab := [pc83, pc84, pc85]) (tab_cons pok83 (tab_cons pok84 (tab_cons pok85 (tab_nil)))) (k := 100000) (d := 100) (by decide +kernel)
end Go.Rex


open Go Go.Rex Go.Proofs
namespace Go.Rex
set_option maxRecDepth 100000
theorem pok87 : CallOk Tryz.prog pc87 := piece_ok follows (tab := []) (tab_nil) (k := 100000) (d := 100) (by decide +kernel)
end Go.Rex


open Go Go.Rex Go.Proofs
namespace Go.Rex
set_option maxRecDepth 100000
theorem pok88 : CallOk Tryz.prog pc88 := piece_ok follows (tab := []) (tab_nil) (k := 100000) (d := 100) (by decide +kernel)
end Go.Rex


open Go Go.Rex Go.Proofs
namespace Go.Rex
set_option maxRecDepth 100000
theorem pok89 : CallOk Tryz.prog pc89 := piece_ok follows (tab := []) (tab_nil) (k := 100000) (d := 100) (by decide +kernel)
end Go.Rex


open Go Go.Rex Go.Proofs
namespace Go.Rex
set_option maxRecDepth 100000
theorem pok90 : CallOk Tryz.prog pc90 := piece_ok follows (tab := []) (tab_nil) (k := 100000) (d := 100) (by decide +kernel)
end Go.Rex


open Go Go.Rex Go.Proofs
namespace Go.Rex
set_option maxRecDepth 100000
theorem pok91 : CallOk Tryz.prog pc91 := piece_ok follows (tab := []) (tab_nil) (k := 100000) (d := 100) (by decide +kernel)
end Go.Rex


open Go Go.Rex Go.Proofs
namespace Go.Rex
set_option maxRecDepth 100000
theorem pok92 : CallOk Tryz.prog pc92 := piece_ok follows (tab := []) (tab_nil) (k := 100000) (d := 100) (by decide +kernel)
end Go.Rex


open Go Go.Rex Go.Proofs
namespace Go.Rex
set_option maxRecDepth 100000
theorem pok93 : CallOk Tryz.prog pc93 := piece_ok follows (tab := []) (tab_nil) (k := 100000) (d := 100) (by decide +kernel)
end Go.Rex


open Go Go.Rex Go.Proofs
namespace Go.Rex
set_option maxRecDepth 100000
theorem pok94 : CallOk Tryz.prog pc94 := piece_ok follows (tab := []) (tab_nil) (k := 100000) (d := 100) (by decide +kernel)
end Go.Rex

open Go Go.Rex Go.Proofs
namespace Go.Rex
set_option maxRecDepth 100000
theorem pok95 : CallOk Tryz.prog pc95 := piece_ok follows (tab := [pc93, pc94]) (tab_cons pok93 (tab_cons pok94 (tab_nil))) (k := 100000) (d := 100) (by decide +kernel)
end Go.Rex


open Go Go.Rex Go.Proofs
namespace Go.Rex
set_option maxRecDepth 100000
theorem pok96 : CallOk Tryz.prog pc96 := piece_ok follows (tab := []) (tab_nil) (k := 100000) (d := 100) (by decide +kernel)
end Go.Rex

open Go Go.Rex Go.Proofs
namespace Go.Rex
set_option maxRecDepth 100000
theorem pok97 : CallOk Tryz.prog pc97 := piece_ok follows (tab := [pc96]) (tab_cons pok96 (tab_nil)) (k := 100000) (d := 100) (by decide +kernel)
end Go.Rex


open Go Go.Rex Go.Proofs
namespace Go.Rex
set_option maxRecDepth 100000
theorem pok98 : CallOk Tryz.prog pc98 := piece_ok follows (tab := []) (tab_nil) (k := 100000) (d := 100) (by decide +kernel)
end Go.Rex


open Go Go.Rex Go.Proofs
namespace Go.Rex
set_option maxRecDepth 100000
theorem pok99 : CallOk Tryz.prog pc99 := piece_ok follows (tab := []) (tab_nil) (k := 100000) (d := 100) (by decide +kernel)
end Go.Rex
