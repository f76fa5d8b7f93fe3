/- Calls of the closed examples are as told. -/
import Derived.Test.YtpjccpokiaefjaaGreatDoorCD
import Derived.Test.YtpjccpokiaefjaaGreatDoorC3
import Derived.Test.YtpjccpokiaefjaaGreatDoorC1
set_option linter.unusedSimpArgs false
set_option linter.unusedVariables false
set_option linter.defProp false

open Go Go.Rex Go.Proofs
namespace Go.Rex
set_option maxRecDepth 100000
theorem pok117 : CallN Tryz.prog pc117 := piece_okN follows (tab := []) (tabN_nil) (k := 100000) (d := 100) (by decide +kernel)
end Go.Rex


open Go Go.Rex Go.Proofs
namespace Go.Rex
set_option maxRecDepth 100000
theorem pok118 : CallN Tryz.prog pc118 := piece_okN follows (tab := []) (tabN_nil) (k := 100000) (d := 100) (by decide +kernel)
end Go.Rex


open Go Go.Rex Go.Proofs
namespace Go.Rex
set_option maxRecDepth 100000
theorem pok119 : CallN Tryz.prog pc119 := piece_okN follows (tab := []) (tabN_nil) (k := 100000) (d := 100) (by decide +kernel)
end Go.Rex


open Go Go.Rex Go.Proofs
namespace Go.Rex
set_option maxRecDepth 100000
theorem pok120 : CallN Tryz.prog pc120 := piece_okN follows (tab := []) (tabN_nil) (k := 100000) (d := 100) (by decide +kernel)
end Go.Rex

open Go Go.Rex Go.Proofs
namespace Go.Rex
set_option maxRecDepth 100000
theorem pok121 : CallN Tryz.prog pc121 := piece_okN follows (tab := [pc113, pc114, pc115, pc116, pc91, pc117, pc118, pc119, pc120]) (tabN_cons pok113 (tabN_cons pok114 (tabN_cons pok115 (tabN_cons pok116 (tabN_cons pok91 (tabN_cons pok117 (tabN_cons pok118 (tabN_cons pok119 (tabN_cons pok120 (tabN_nil)))))))))) (k := 100000) (d := 100) (by decide +kernel)
end Go.Rex


open Go Go.Rex Go.Proofs
namespace Go.Rex
set_option maxRecDepth 100000
theorem pok122 : CallN Tryz.prog pc122 := piece_okN follows (tab := []) (tabN_nil) (k := 100000) (d := 100) (by decide +kernel)
end Go.Rex


open Go Go.Rex Go.Proofs
namespace Go.Rex
set_option maxRecDepth 100000
theorem pok123 : CallN Tryz.prog pc123 := piece_okN follows (tab := []) (tabN_nil) (k := 100000) (d := 100) (by decide +kernel)
end Go.Rex


open Go Go.Rex Go.Proofs
namespace Go.Rex
set_option maxRecDepth 100000
theorem pok124 : CallN Tryz.prog pc124 := piece_okN follows (tab := []) (tabN_nil) (k := 100000) (d := 100) (by decide +kernel)
end Go.Rex


open Go Go.Rex Go.Proofs
namespace Go.Rex
set_option maxRecDepth 100000
theorem pok125 : CallN Tryz.prog pc125 := piece_okN follows (tab := []) (tabN_nil) (k := 100000) (d := 100) (by decide +kernel)
end Go.Rex


open Go Go.Rex Go.Proofs
namespace Go.Rex
set_option maxRecDepth 100000
theorem pok126 : CallN Tryz.prog pc126 := piece_okN follows (tab := []) (tabN_nil) (k := 100000) (d := 100) (by decide +kernel)
end Go.Rex


open Go Go.Rex Go.Proofs
namespace Go.Rex
set_option maxRecDepth 100000
theorem pok127 : CallN Tryz.prog pc127 := piece_okN follows (tab := []) (tabN_nil) (k := 100000) (d := 100) (by decide +kernel)
end Go.Rex


open Go Go.Rex Go.Proofs
namespace Go.Rex
set_option maxRecDepth 100000
theorem pok128 : CallN Tryz.prog pc128 := piece_okN follows (tab := []) (tabN_nil) (k := 100000) (d := 100) (by decide +kernel)
end Go.Rex

open Go Go.Rex Go.Proofs
namespace Go.Rex
set_option maxRecDepth 100000
theorem pok129 : CallN Tryz.prog pc129 := piece_okN follows (tab := [pc122, pc123, pc115, pc124, pc108, pc125, pc126, pc127, pc128]) (tabN_cons pok122 (tabN_cons pok123 (tabN_cons pok115 (tabN_cons pok124 (tabN_cons pok108 (tabN_cons pok125 (tabN_cons pok126 (tabN_cons pok127 (tabN_cons pok128 (tabN_nil)))))))))) (k := 100000) (d := 100) (by decide +kernel)
end Go.Rex


open Go Go.Rex Go.Proofs
namespace Go.Rex
set_option maxRecDepth 100000
theorem pok130 : CallN Tryz.prog pc130 := piece_okN follows (tab := []) (tabN_nil) (k := 100000) (d := 100) (by decide +kernel)
end Go.Rex


open Go Go.Rex Go.Proofs
namespace Go.Rex
set_option maxRecDepth 100000
theorem pok131 : CallN Tryz.prog pc131 := piece_okN follows (tab := []) (tabN_nil) (k := 100000) (d := 100) (by decide +kernel)
end Go.Rex


open Go Go.Rex Go.Proofs
namespace Go.Rex
set_option maxRecDepth 100000
theorem pok132 : CallN Tryz.prog pc132 := piece_okN follows (tab := []) (tabN_nil) (k := 100000) (d := 100) (by decide +kernel)
end Go.Rex


open Go Go.Rex Go.Proofs
namespace Go.Rex
set_option maxRecDepth 100000
theorem pok133 : CallN Tryz.prog pc133 := piece_okN follows (tab := []) (tabN_nil) (k := 100000) (d := 100) (by decide +kernel)
end Go.Rex


open Go Go.Rex Go.Proofs
namespace Go.Rex
set_option maxRecDepth 100000
theorem pok134 : CallN Tryz.prog pc134 := piece_okN follows (tab := []) (tabN_nil) (k := 100000) (d := 100) (by decide +kernel)
end Go.Rex


open Go Go.Rex Go.Proofs
namespace Go.Rex
set_option maxRecDepth 100000
theorem pok135 : CallN Tryz.prog pc135 := piece_okN follows (tab := []) (tabN_nil) (k := 100000) (d := 100) (by decide +kernel)
end Go.Rex


open Go Go.Rex Go.Proofs
namespace Go.Rex
set_option maxRecDepth 100000
theorem pok136 : CallN Tryz.prog pc136 := piece_okN follows (tab := []) (tabN_nil) (k := 100000) (d := 100) (by decide +kernel)
end Go.Rex


open Go Go.Rex Go.Proofs
namespace Go.Rex
set_option maxRecDepth 100000
theorem pok137 : CallN Tryz.prog pc137 := piece_okN follows (tab := []) (tabN_nil) (k := 100000) (d := 100) (by decide +kernel)
end Go.Rex

open Go Go.Rex Go.Proofs
namespace Go.Rex
set_option maxRecDepth 100000
theorem pok138 : CallN Tryz.prog pc138 := piece_okN follows (tab := [pc130, pc131, pc115, pc132, pc133, pc134, pc135, pc136, pc137]) (tabN_cons pok130 (tabN_cons pok131 (tabN_cons pok115 (tabN_cons pok132 (tabN_cons pok133 (tabN_cons pok134 (tabN_cons pok135 (tabN_cons pok136 (tabN_cons pok137 (tabN_nil)))))))))) (k := 100000) (d := 100) (by decide +kernel)
end Go.Rex


open Go Go.Rex Go.Proofs
namespace Go.Rex
set_option maxRecDepth 100000
theorem pok139 : CallN Tryz.prog pc139 := piece_okN follows (tab := []) (tabN_nil) (k := 100000) (d := 100) (by decide +kernel)
end Go.Rex


open Go Go.Rex Go.Proofs
namespace Go.Rex
set_option maxRecDepth 100000
theorem pok140 : CallN Tryz.prog pc140 := piece_okN follows (tab := []) (tabN_nil) (k := 100000) (d := 100) (by decide +kernel)
end Go.Rex


open Go Go.Rex Go.Proofs
namespace Go.Rex
set_option maxRecDepth 100000
theorem pok141 : CallN Tryz.prog pc141 := piece_okN follows (tab := []) (tabN_nil) (k := 100000) (d := 100) (by decide +kernel)
end Go.Rex


open Go Go.Rex Go.Proofs
namespace Go.Rex
set_option maxRecDepth 100000
theorem pok142 : CallN Tryz.prog pc142 := piece_okN follows (tab := []) (tabN_nil) (k := 100000) (d := 100) (by decide +kernel)
end Go.Rex


open Go Go.Rex Go.Proofs
namespace Go.Rex
set_option maxRecDepth 100000
theorem pok143 : CallN Tryz.prog pc143 := piece_okN follows (tab := []) (tabN_nil) (k := 100000) (d := 100) (by decide +kernel)
end Go.Rex


open Go Go.Rex Go.Proofs
namespace Go.Rex
set_option maxRecDepth 100000
theorem pok144 : CallN Tryz.prog pc144 := piece_okN follows (tab := []) (tabN_nil) (k := 100000) (d := 100) (by decide +kernel)
end Go.Rex


open Go Go.Rex Go.Proofs
namespace Go.Rex
set_option maxRecDepth 100000
theorem pok145 : CallN Tryz.prog pc145 := piece_okN follows (tab := []) (tabN_nil) (k := 100000) (d := 100) (by decide +kernel)
end Go.Rex


open Go Go.Rex Go.Proofs
namespace Go.Rex
set_option maxRecDepth 100000
theorem pok146 : CallN Tryz.prog pc146 := piece_okN follows (tab := []) (tabN_nil) (k := 100000) (d := 100) (by decide +kernel)
end Go.Rex

open Go Go.Rex Go.Proofs
namespace Go.Rex
set_option maxRecDepth 100000
theorem pok147 : CallN Tryz.prog pc147 := piece_okN follows (tab := [pc139, pc140, pc141, pc142, pc143, pc144, pc145, pc146, pc16]) (tabN_cons pok139 (tabN_cons pok140 (tabN_cons pok141 (tabN_cons pok142 (tabN_cons pok143 (tabN_cons pok144 (tabN_cons pok145 (tabN_cons pok146 (tabN_cons pok16 (tabN_nil)))))))))) (k := 100000) (d := 100) (by decide +kernel)
end Go.Rex


open Go Go.Rex Go.Proofs
namespace Go.Rex
set_option maxRecDepth 100000
theorem pok148 : CallN Tryz.prog pc148 := piece_okN follows (tab := []) (tabN_nil) (k := 100000) (d := 100) (by decide +kernel)
end Go.Rex


open Go Go.Rex Go.Proofs
namespace Go.Rex
set_option maxRecDepth 100000
theorem pok149 : CallN Tryz.prog pc149 := piece_okN follows (tab := []) (tabN_nil) (k := 100000) (d := 100) (by decide +kernel)
end Go.Rex


open Go Go.Rex Go.Proofs
namespace Go.Rex
set_option maxRecDepth 100000
theorem pok150 : CallN Tryz.prog pc150 := piece_okN follows (tab := []) (tabN_nil) (k := 100000) (d := 100) (by decide +kernel)
end Go.Rex


open Go Go.Rex Go.Proofs
namespace Go.Rex
set_option maxRecDepth 100000
theorem pok151 : CallN Tryz.prog pc151 := piece_okN follows (tab := []) (tabN_nil) (k := 100000) (d := 100) (by decide +kernel)
end Go.Rex


open Go Go.Rex Go.Proofs
namespace Go.Rex
set_option maxRecDepth 100000
theorem pok152 : CallN Tryz.prog pc152 := piece_okN follows (tab := []) (tabN_nil) (k := 100000) (d := 100) (by decide +kernel)
end Go.Rex


open Go Go.Rex Go.Proofs
namespace Go.Rex
set_option maxRecDepth 100000
theorem pok153 : CallN Tryz.prog pc153 := piece_okN follows (tab := []) (tabN_nil) (k := 100000) (d := 100) (by decide +kernel)
end Go.Rex


open Go Go.Rex Go.Proofs
namespace Go.Rex
set_option maxRecDepth 100000
theorem pok154 : CallN Tryz.prog pc154 := piece_okN follows (tab := []) (tabN_nil) (k := 100000) (d := 100) (by decide +kernel)
end Go.Rex


open Go Go.Rex Go.Proofs
namespace Go.Rex
set_option maxRecDepth 100000
theorem pok155 : CallN Tryz.prog pc155 := piece_okN follows (tab := []) (tabN_nil) (k := 100000) (d := 100) (by decide +kernel)
end Go.Rex

open Go Go.Rex Go.Proofs
namespace Go.Rex
set_option maxRecDepth 100000
theorem pok156 : CallN Tryz.prog pc156 := piece_okN follows (tab := [pc149, pc150, pc151, pc152, pc153, pc154, pc145, pc155, pc34]) (tabN_cons pok149 (tabN_cons pok150 (tabN_cons pok151 (tabN_cons pok152 (tabN_cons pok153 (tabN_cons pok154 (tabN_cons pok145 (tabN_cons pok155 (tabN_cons pok34 (tabN_nil)))))))))) (k := 100000) (d := 100) (by decide +kernel)
end Go.Rex
