/- Calls of the closed examples are as told. -/
import Derived.Test.YthjoipggampleaaGreatCD
import Derived.Test.YthjoipggampleaaGreatC4
set_option linter.unusedSimpArgs false
set_option linter.unusedVariables false
set_option linter.defProp false

open Go Go.Rex Go.Proofs
namespace Go.Rex
set_option maxRecDepth 100000
theorem pok100 : CallOk Tryz.prog pc100 := piece_ok follows (tab := []) (tab_nil) (k := 100000) (d := 100) (by decide +kernel)
end Go.Rex

open Go Go.Rex Go.Proofs
namespace Go.Rex
set_option maxRecDepth 100000
theorem pok101 : CallOk Tryz.prog pc101 := piece_ok follows (tab := [pc98, pc99, pc100]) (tab_cons pok98 (tab_cons pok99 (tab_cons pok100 (tab_nil)))) (k := 100000) (d := 100) (by decide +kernel)
end Go.Rex


open Go Go.Rex Go.Proofs
namespace Go.Rex
set_option maxRecDepth 100000
theorem pok102 : CallOk Tryz.prog pc102 := piece_ok follows (tab := []) (tab_nil) (k := 100000) (d := 100) (by decide +kernel)
end Go.Rex


open Go Go.Rex Go.Proofs
namespace Go.Rex
set_option maxRecDepth 100000
theorem pok103 : CallOk Tryz.prog pc103 := piece_ok follows (tab := []) (tab_nil) (k := 100000) (d := 100) (by decide +kernel)
end Go.Rex


open Go Go.Rex Go.Proofs
namespace Go.Rex
set_option maxRecDepth 100000
theorem pok104 : CallOk Tryz.prog pc104 := piece_ok follows (tab := []) (tab_nil) (k := 100000) (d := 100) (by decide +kernel)
end Go.Rex

open Go Go.Rex Go.Proofs
namespace Go.Rex
set_option maxRecDepth 100000
theorem pok105 : CallOk Tryz.prog pc105 := piece_ok follows (tab := [pc102, pc103, pc104]) (tab_cons pok102 (tab_cons pok103 (tab_cons pok104 (tab_nil)))) (k := 100000) (d := 100) (by decide +kernel)
end Go.Rex


open Go Go.Rex Go.Proofs
namespace Go.Rex
set_option maxRecDepth 100000
theorem pok106 : CallOk Tryz.prog pc106 := piece_ok follows (tab := []) (tab_nil) (k := 100000) (d := 100) (by decide +kernel)
end Go.Rex


open Go Go.Rex Go.Proofs
namespace Go.Rex
set_option maxRecDepth 100000
theorem pok107 : CallOk Tryz.prog pc107 := piece_ok follows (tab := []) (tab_nil) (k := 100000) (d := 100) (by decide +kernel)
end Go.Rex


open Go Go.Rex Go.Proofs
namespace Go.Rex
set_option maxRecDepth 100000
theorem pok108 : CallOk Tryz.prog pc108 := piece_ok follows (tab := []) (tab_nil) (k := 100000) (d := 100) (by decide +kernel)
end Go.Rex

open Go Go.Rex Go.Proofs
namespace Go.Rex
set_option maxRecDepth 100000
theorem pok109 : CallOk Tryz.prog pc109 := piece_ok follows (tab := [pc108]) (tab_cons pok108 (tab_nil)) (k := 100000) (d := 100) (by decide +kernel)
end Go.Rex


open Go Go.Rex Go.Proofs
namespace Go.Rex
set_option maxRecDepth 100000
theorem pok110 : CallOk Tryz.prog pc110 := piece_ok follows (tab := []) (tab_nil) (k := 100000) (d := 100) (by decide +kernel)
end Go.Rex


open Go Go.Rex Go.Proofs
namespace Go.Rex
set_option maxRecDepth 100000
theorem pok111 : CallOk Tryz.prog pc111 := piece_ok follows (tab := []) (tab_nil) (k := 100000) (d := 100) (by decide +kernel)
end Go.Rex

open Go Go.Rex Go.Proofs
namespace Go.Rex
set_option maxRecDepth 100000
theorem pok112 : CallOk Tryz.prog pc112 := piece_ok follows (tab := [pc107, pc109, pc110, pc111]) (tab_cons pok107 (tab_cons pok109 (tab_cons pok110 (tab_cons pok111 (tab_nil))))) (k := 100000) (d := 100) (by decide +kernel)
end Go.Rex


open Go Go.Rex Go.Proofs
namespace Go.Rex
set_option maxRecDepth 100000
theorem pok113 : CallOk Tryz.prog pc113 := piece_ok follows (tab := []) (tab_nil) (k := 100000) (d := 100) (by decide +kernel)
end Go.Rex


open Go Go.Rex Go.Proofs
namespace Go.Rex
set_option maxRecDepth 100000
theorem pok114 : CallOk Tryz.prog pc114 := piece_ok follows (tab := []) (tab_nil) (k := 100000) (d := 100) (by decide +kernel)
end Go.Rex


open Go Go.Rex Go.Proofs
namespace Go.Rex
set_option maxRecDepth 100000
theorem pok115 : CallOk Tryz.prog pc115 := piece_ok follows (tab := []) (tab_nil) (k := 100000) (d := 100) (by decide +kernel)
end Go.Rex


open Go Go.Rex Go.Proofs
namespace Go.Rex
set_option maxRecDepth 100000
theorem pok116 : CallOk Tryz.prog pc116 := piece_ok follows (tab := []) (tab_nil) (k := 100000) (d := 100) (by decide +kernel)
end Go.Rex


open Go Go.Rex Go.Proofs
namespace Go.Rex
set_option maxRecDepth 100000
theorem pok117 : CallOk Tryz.prog pc117 := piece_ok follows (tab := []) (tab_nil) (k := 100000) (d := 100) (by decide +kernel)
end Go.Rex

open Go Go.Rex Go.Proofs
namespace Go.Rex
set_option maxRecDepth 100000
theorem pok118 : CallOk Tryz.prog pc118 := piece_ok follows (tab := [pc114, pc115, pc116, pc117]) (tab_cons pok114 (tab_cons pok115 (tab_cons pok116 (tab_cons pok117 (tab_nil))))) (k := 100000) (d := 100) (by decide +kernel)
end Go.Rex


open Go Go.Rex Go.Proofs
namespace Go.Rex
set_option maxRecDepth 100000
theorem pok119 : CallOk Tryz.prog pc119 := piece_ok follows (tab := []) (tab_nil) (k := 100000) (d := 100) (by decide +kernel)
end Go.Rex


open Go Go.Rex Go.Proofs
namespace Go.Rex
set_option maxRecDepth 100000
theorem pok120 : CallOk Tryz.prog pc120 := piece_ok follows (tab := []) (tab_nil) (k := 100000) (d := 100) (by decide +kernel)
end Go.Rex


open Go Go.Rex Go.Proofs
namespace Go.Rex
set_option maxRecDepth 100000
theorem pok121 : CallOk Tryz.prog pc121 := piece_ok follows (tab := []) (tab_nil) (k := 100000) (d := 100) (by decide +kernel)
end Go.Rex


open Go Go.Rex Go.Proofs
namespace Go.Rex
set_option maxRecDepth 100000
theorem pok122 : CallOk Tryz.prog pc122 := piece_ok follows (tab := []) (tab_nil) (k := 100000) (d := 100) (by decide +kernel)
end Go.Rex


open Go Go.Rex Go.Proofs
namespace Go.Rex
set_option maxRecDepth 100000
theorem pok123 : CallOk Tryz.prog pc123 := piece_ok follows (tab := []) (tab_nil) (k := 100000) (d := 100) (by decide +kernel)
end Go.Rex

open Go Go.Rex Go.Proofs
namespace Go.Rex
set_option maxRecDepth 100000
theorem pok124 : CallOk Tryz.prog pc124 := piece_ok follows (tab := [pc120, pc121, pc122, pc123]) (tab_cons pok120 (tab_cons pok121 (tab_cons pok122 (tab_cons pok123 (tab_nil))))) (k := 100000) (d := 100) (by decide +kernel)
end Go.Rex
