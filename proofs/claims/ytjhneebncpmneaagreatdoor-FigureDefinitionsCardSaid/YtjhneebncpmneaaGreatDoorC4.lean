/- Calls of the closed examples are as told. -/
import Derived.Test.YtjhneebncpmneaaGreatDoorCD
import Derived.Test.YtjhneebncpmneaaGreatDoorC3
set_option linter.unusedSimpArgs false
set_option linter.unusedVariables false
set_option linter.defProp false
open Go Go.Rex Go.Proofs
namespace Go.Rex
set_option maxRecDepth 100000
theorem pok119 : CallN Tryz.prog pc119 := piece_okN follows (tab := [pc118]) (tabN_cons pok118 (tabN_nil)) (k := 100000) (d := 100) (by decide +kernel)
end Go.Rex


open Go Go.Rex Go.Proofs
namespace Go.Rex
set_option maxRecDepth 100000
theorem pok120 : CallN Tryz.prog pc120 := piece_okN follows (tab := []) (tabN_nil) (k := 100000) (d := 100) (by decide +kernel)
end Go.Rex


open Go Go.Rex Go.Proofs
namespace Go.Rex
set_option maxRecDepth 100000
theorem pok121 : CallN Tryz.prog pc121 := piece_okN follows (tab := []) (tabN_nil) (k := 100000) (d := 100) (by decide +kernel)
end Go.Rex


open Go Go.Rex Go.Proofs
namespace Go.Rex
set_option maxRecDepth 100000
theorem pok122 : CallN Tryz.prog pc122 := piece_okN follows (tab := []) (tabN_nil) (k := 100000) (d := 100) (by decide +kernel)
end Go.Rex


open Go Go.Rex Go.Proofs
namespace Go.Rex
set_option maxRecDepth 100000
theorem pok123 : CallN Tryz.prog pc123 := piece_okN follows (tab := []) (tabN_nil) (k := 100000) (d := 100) (by decide +kernel)
end Go.Rex


open Go Go.Rex Go.Proofs
namespace Go.Rex
set_option maxRecDepth 100000
theorem pok124 : CallN Tryz.prog pc124 := piece_okN follows (tab := []) (tabN_nil) (k := 100000) (d := 100) (by decide +kernel)
end Go.Rex


open Go Go.Rex Go.Proofs
namespace Go.Rex
set_option maxRecDepth 100000
theorem pok125 : CallN Tryz.prog pc125 := piece_okN follows (tab := []) (tabN_nil) (k := 100000) (d := 100) (by decide +kernel)
end Go.Rex


open Go Go.Rex Go.Proofs
namespace Go.Rex
set_option maxRecDepth 100000
theorem pok126 : CallN Tryz.prog pc126 := piece_okN follows (tab := []) (tabN_nil) (k := 100000) (d := 100) (by decide +kernel)
end Go.Rex


open Go Go.Rex Go.Proofs
namespace Go.Rex
set_option maxRecDepth 100000
theorem pok127 : CallN Tryz.prog pc127 := piece_okN follows (tab := []) (tabN_nil) (k := 100000) (d := 100) (by decide +kernel)
end Go.Rex


open Go Go.Rex Go.Proofs
namespace Go.Rex
set_option maxRecDepth 100000
theorem pok128 : CallN Tryz.prog pc128 := piece_okN follows (tab := []) (tabN_nil) (k := 100000) (d := 100) (by decide +kernel)
end Go.Rex


open Go Go.Rex Go.Proofs
namespace Go.Rex
set_option maxRecDepth 100000
theorem pok129 : CallN Tryz.prog pc129 := piece_okN follows (tab := []) (tabN_nil) (k := 100000) (d := 100) (by decide +kernel)
end Go.Rex


open Go Go.Rex Go.Proofs
namespace Go.Rex
set_option maxRecDepth 100000
theorem pok130 : CallN Tryz.prog pc130 := piece_okN follows (tab := []) (tabN_nil) (k := 100000) (d := 100) (by decide +kernel)
end Go.Rex


open Go Go.Rex Go.Proofs
namespace Go.Rex
set_option maxRecDepth 100000
theorem pok131 : CallN Tryz.prog pc131 := piece_okN follows (tab := []) (tabN_nil) (k := 100000) (d := 100) (by decide +kernel)
end Go.Rex


open Go Go.Rex Go.Proofs
namespace Go.Rex
set_option maxRecDepth 100000
theorem pok132 : CallN Tryz.prog pc132 := piece_okN follows (tab := []) (tabN_nil) (k := 100000) (d := 100) (by decide +kernel)
end Go.Rex


open Go Go.Rex Go.Proofs
namespace Go.Rex
set_option maxRecDepth 100000
theorem pok133 : CallN Tryz.prog pc133 := piece_okN follows (tab := []) (tabN_nil) (k := 100000) (d := 100) (by decide +kernel)
end Go.Rex


open Go Go.Rex Go.Proofs
namespace Go.Rex
set_option maxRecDepth 100000
theorem pok134 : CallN Tryz.prog pc134 := piece_okN follows (tab := []) (tabN_nil) (k := 100000) (d := 100) (by decide +kernel)
end Go.Rex


open Go Go.Rex Go.Proofs
namespace Go.Rex
set_option maxRecDepth 100000
theorem pok135 : CallN Tryz.prog pc135 := piece_okN follows (tab := []) (tabN_nil) (k := 100000) (d := 100) (by decide +kernel)
end Go.Rex


open Go Go.Rex Go.Proofs
namespace Go.Rex
set_option maxRecDepth 100000
theorem pok136 : CallN Tryz.prog pc136 := piece_okN follows (tab := []) (tabN_nil) (k := 100000) (d := 100) (by decide +kernel)
end Go.Rex


open Go Go.Rex Go.Proofs
namespace Go.Rex
set_option maxRecDepth 100000
theorem pok137 : CallN Tryz.prog pc137 := piece_okN follows (tab := []) (tabN_nil) (k := 100000) (d := 100) (by decide +kernel)
end Go.Rex


open Go Go.Rex Go.Proofs
namespace Go.Rex
set_option maxRecDepth 100000
theorem pok138 : CallN Tryz.prog pc138 := piece_okN follows (tab := []) (tabN_nil) (k := 100000) (d := 100) (by decide +kernel)
end Go.Rex


open Go Go.Rex Go.Proofs
namespace Go.Rex
set_option maxRecDepth 100000
theorem pok139 : CallN Tryz.prog pc139 := piece_okN follows (tab := []) (tabN_nil) (k := 100000) (d := 100) (by decide +kernel)
end Go.Rex


open Go Go.Rex Go.Proofs
namespace Go.Rex
set_option maxRecDepth 100000
theorem pok140 : CallN Tryz.prog pc140 := piece_okN follows (tab := []) (tabN_nil) (k := 100000) (d := 100) (by decide +kernel)
end Go.Rex


open Go Go.Rex Go.Proofs
namespace Go.Rex
set_option maxRecDepth 100000
theorem pok141 : CallN Tryz.prog pc141 := piece_okN follows (tab := []) (tabN_nil) (k := 100000) (d := 100) (by decide +kernel)
end Go.Rex


open Go Go.Rex Go.Proofs
namespace Go.Rex
set_option maxRecDepth 100000
theorem pok142 : CallN Tryz.prog pc142 := piece_okN follows (tab := []) (tabN_nil) (k := 100000) (d := 100) (by decide +kernel)
end Go.Rex


open Go Go.Rex Go.Proofs
namespace Go.Rex
set_option maxRecDepth 100000
theorem pok143 : CallN Tryz.prog pc143 := piece_okN follows (tab := []) (tabN_nil) (k := 100000) (d := 100) (by decide +kernel)
end Go.Rex


open Go Go.Rex Go.Proofs
namespace Go.Rex
set_option maxRecDepth 100000
theorem pok144 : CallN Tryz.prog pc144 := piece_okN follows (tab := []) (tabN_nil) (k := 100000) (d := 100) (by decide +kernel)
end Go.Rex


open Go Go.Rex Go.Proofs
namespace Go.Rex
set_option maxRecDepth 100000
theorem pok145 : CallN Tryz.prog pc145 := piece_okN follows (tab := []) (tabN_nil) (k := 100000) (d := 100) (by decide +kernel)
end Go.Rex


open Go Go.Rex Go.Proofs
namespace Go.Rex
set_option maxRecDepth 100000
theorem pok146 : CallN Tryz.prog pc146 := piece_okN follows (tab := []) (tabN_nil) (k := 100000) (d := 100) (by decide +kernel)
end Go.Rex


open Go Go.Rex Go.Proofs
namespace Go.Rex
set_option maxRecDepth 100000
theorem pok147 : CallN Tryz.prog pc147 := piece_okN follows (tab := []) (tabN_nil) (k := 100000) (d := 100) (by decide +kernel)
end Go.Rex


open Go Go.Rex Go.Proofs
namespace Go.Rex
set_option maxRecDepth 100000
theorem pok148 : CallN Tryz.prog pc148 := piece_okN follows (tab := []) (tabN_nil) (k := 100000) (d := 100) (by decide +kernel)
end Go.Rex


open Go Go.Rex Go.Proofs
namespace Go.Rex
set_option maxRecDepth 100000
theorem pok149 : CallN Tryz.prog pc149 := piece_okN follows (tab := []) (tabN_nil) (k := 100000) (d := 100) (by decide +kernel)
end Go.Rex


open Go Go.Rex Go.Proofs
namespace Go.Rex
set_option maxRecDepth 100000
theorem pok150 : CallN Tryz.prog pc150 := piece_okN follows (tab := []) (tabN_nil) (k := 100000) (d := 100) (by decide +kernel)
end Go.Rex


open Go Go.Rex Go.Proofs
namespace Go.Rex
set_option maxRecDepth 100000
theorem pok151 : CallN Tryz.prog pc151 := piece_okN follows (tab := []) (tabN_nil) (k := 100000) (d := 100) (by decide +kernel)
end Go.Rex


open Go Go.Rex Go.Proofs
namespace Go.Rex
set_option maxRecDepth 100000
theorem pok152 : CallN Tryz.prog pc152 := piece_okN follows (tab := []) (tabN_nil) (k := 100000) (d := 100) (by decide +kernel)
end Go.Rex


open Go Go.Rex Go.Proofs
namespace Go.Rex
set_option maxRecDepth 100000
theorem pok153 : CallN Tryz.prog pc153 := piece_okN follows (tab := []) (tabN_nil) (k := 100000) (d := 100) (by decide +kernel)
end Go.Rex


open Go Go.Rex Go.Proofs
namespace Go.Rex
set_option maxRecDepth 100000
theorem pok154 : CallN Tryz.prog pc154 := piece_okN follows (tab := []) (tabN_nil) (k := 100000) (d := 100) (by decide +kernel)
end Go.Rex


open Go Go.Rex Go.Proofs
namespace Go.Rex
set_option maxRecDepth 100000
theorem pok155 : CallN Tryz.prog pc155 := piece_okN follows (tab := []) (tabN_nil) (k := 100000) (d := 100) (by decide +kernel)
end Go.Rex


open Go Go.Rex Go.Proofs
namespace Go.Rex
set_option maxRecDepth 100000
theorem pok156 : CallN Tryz.prog pc156 := piece_okN follows (tab := []) (tabN_nil) (k := 100000) (d := 100) (by decide +kernel)
end Go.Rex


open Go Go.Rex Go.Proofs
namespace Go.Rex
set_option maxRecDepth 100000
theorem pok157 : CallN Tryz.prog pc157 := piece_okN follows (tab := []) (tabN_nil) (k := 100000) (d := 100) (by decide +kernel)
end Go.Rex


open Go Go.Rex Go.Proofs
namespace Go.Rex
set_option maxRecDepth 100000
theorem pok158 : CallN Tryz.prog pc158 := piece_okN follows (tab := []) (tabN_nil) (k := 100000) (d := 100) (by decide +kernel)
end Go.Rex
