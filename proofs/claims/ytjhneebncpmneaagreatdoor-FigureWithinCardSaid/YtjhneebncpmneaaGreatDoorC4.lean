/- Calls of the closed examples are as told. -/
import Derived.Test.YtjhneebncpmneaaGreatDoorCD
import Derived.Test.YtjhneebncpmneaaGreatDoorC3
set_option linter.unusedSimpArgs false
set_option linter.unusedVariables false
set_option linter.defProp false
open Go Go.Rex Go.Proofs
namespace Go.Rex
set_option maxRecDepth 100000
theorem pok119:aD Tryz.prog pc119 := aB follows (tab := [pc118]) (aA pok118 (aC)) (k := 100000) (d := 100) (by decide +kernel)
end Go.Rex
open Go Go.Rex Go.Proofs
namespace Go.Rex
set_option maxRecDepth 100000
theorem pok120:aD Tryz.prog pc120 := aB follows (tab := []) (aC) (k := 100000) (d := 100) (by decide +kernel)
end Go.Rex
open Go Go.Rex Go.Proofs
namespace Go.Rex
set_option maxRecDepth 100000
theorem pok121:aD Tryz.prog pc121 := aB follows (tab := []) (aC) (k := 100000) (d := 100) (by decide +kernel)
end Go.Rex
open Go Go.Rex Go.Proofs
namespace Go.Rex
set_option maxRecDepth 100000
theorem pok122:aD Tryz.prog pc122 := aB follows (tab := []) (aC) (k := 100000) (d := 100) (by decide +kernel)
end Go.Rex
open Go Go.Rex Go.Proofs
namespace Go.Rex
set_option maxRecDepth 100000
theorem pok123:aD Tryz.prog pc123 := aB follows (tab := []) (aC) (k := 100000) (d := 100) (by decide +kernel)
end Go.Rex
open Go Go.Rex Go.Proofs
namespace Go.Rex
set_option maxRecDepth 100000
theorem pok124:aD Tryz.prog pc124 := aB follows (tab := []) (aC) (k := 100000) (d := 100) (by decide +kernel)
end Go.Rex
open Go Go.Rex Go.Proofs
namespace Go.Rex
set_option maxRecDepth 100000
theorem pok125:aD Tryz.prog pc125 := aB follows (tab := []) (aC) (k := 100000) (d := 100) (by decide +kernel)
end Go.Rex
open Go Go.Rex Go.Proofs
namespace Go.Rex
set_option maxRecDepth 100000
theorem pok126:aD Tryz.prog pc126 := aB follows (tab := []) (aC) (k := 100000) (d := 100) (by decide +kernel)
end Go.Rex
open Go Go.Rex Go.Proofs
namespace Go.Rex
set_option maxRecDepth 100000
theorem pok127:aD Tryz.prog pc127 := aB follows (tab := []) (aC) (k := 100000) (d := 100) (by decide +kernel)
end Go.Rex
open Go Go.Rex Go.Proofs
namespace Go.Rex
set_option maxRecDepth 100000
theorem pok128:aD Tryz.prog pc128 := aB follows (tab := []) (aC) (k := 100000) (d := 100) (by decide +kernel)
end Go.Rex
open Go Go.Rex Go.Proofs
namespace Go.Rex
set_option maxRecDepth 100000
theorem pok129:aD Tryz.prog pc129 := aB follows (tab := []) (aC) (k := 100000) (d := 100) (by decide +kernel)
end Go.Rex
open Go Go.Rex Go.Proofs
namespace Go.Rex
set_option maxRecDepth 100000
theorem pok130:aD Tryz.prog pc130 := aB follows (tab := []) (aC) (k := 100000) (d := 100) (by decide +kernel)
end Go.Rex
open Go Go.Rex Go.Proofs
namespace Go.Rex
set_option maxRecDepth 100000
theorem pok131:aD Tryz.prog pc131 := aB follows (tab := []) (aC) (k := 100000) (d := 100) (by decide +kernel)
end Go.Rex
open Go Go.Rex Go.Proofs
namespace Go.Rex
set_option maxRecDepth 100000
theorem pok132:aD Tryz.prog pc132 := aB follows (tab := []) (aC) (k := 100000) (d := 100) (by decide +kernel)
end Go.Rex
open Go Go.Rex Go.Proofs
namespace Go.Rex
set_option maxRecDepth 100000
theorem pok133:aD Tryz.prog pc133 := aB follows (tab := []) (aC) (k := 100000) (d := 100) (by decide +kernel)
end Go.Rex
open Go Go.Rex Go.Proofs
namespace Go.Rex
set_option maxRecDepth 100000
theorem pok134:aD Tryz.prog pc134 := aB follows (tab := []) (aC) (k := 100000) (d := 100) (by decide +kernel)
end Go.Rex
open Go Go.Rex Go.Proofs
namespace Go.Rex
set_option maxRecDepth 100000
theorem pok135:aD Tryz.prog pc135 := aB follows (tab := []) (aC) (k := 100000) (d := 100) (by decide +kernel)
end Go.Rex
open Go Go.Rex Go.Proofs
namespace Go.Rex
set_option maxRecDepth 100000
theorem pok136:aD Tryz.prog pc136 := aB follows (tab := []) (aC) (k := 100000) (d := 100) (by decide +kernel)
end Go.Rex
open Go Go.Rex Go.Proofs
namespace Go.Rex
set_option maxRecDepth 100000
theorem pok137:aD Tryz.prog pc137 := aB follows (tab := []) (aC) (k := 100000) (d := 100) (by decide +kernel)
end Go.Rex
open Go Go.Rex Go.Proofs
namespace Go.Rex
set_option maxRecDepth 100000
theorem pok138:aD Tryz.prog pc138 := aB follows (tab := []) (aC) (k := 100000) (d := 100) (by decide +kernel)
end Go.Rex
open Go Go.Rex Go.Proofs
namespace Go.Rex
set_option maxRecDepth 100000
theorem pok139:aD Tryz.prog pc139 := aB follows (tab := []) (aC) (k := 100000) (d := 100) (by decide +kernel)
end Go.Rex
open Go Go.Rex Go.Proofs
namespace Go.Rex
set_option maxRecDepth 100000
theorem pok140:aD Tryz.prog pc140 := aB follows (tab := []) (aC) (k := 100000) (d := 100) (by decide +kernel)
end Go.Rex
open Go Go.Rex Go.Proofs
namespace Go.Rex
set_option maxRecDepth 100000
theorem pok141:aD Tryz.prog pc141 := aB follows (tab := []) (aC) (k := 100000) (d := 100) (by decide +kernel)
end Go.Rex
open Go Go.Rex Go.Proofs
namespace Go.Rex
set_option maxRecDepth 100000
theorem pok142:aD Tryz.prog pc142 := aB follows (tab := []) (aC) (k := 100000) (d := 100) (by decide +kernel)
end Go.Rex
open Go Go.Rex Go.Proofs
namespace Go.Rex
set_option maxRecDepth 100000
theorem pok143:aD Tryz.prog pc143 := aB follows (tab := []) (aC) (k := 100000) (d := 100) (by decide +kernel)
end Go.Rex
open Go Go.Rex Go.Proofs
namespace Go.Rex
set_option maxRecDepth 100000
theorem pok144:aD Tryz.prog pc144 := aB follows (tab := []) (aC) (k := 100000) (d := 100) (by decide +kernel)
end Go.Rex
open Go Go.Rex Go.Proofs
namespace Go.Rex
set_option maxRecDepth 100000
theorem pok145:aD Tryz.prog pc145 := aB follows (tab := []) (aC) (k := 100000) (d := 100) (by decide +kernel)
end Go.Rex
open Go Go.Rex Go.Proofs
namespace Go.Rex
set_option maxRecDepth 100000
theorem pok146:aD Tryz.prog pc146 := aB follows (tab := []) (aC) (k := 100000) (d := 100) (by decide +kernel)
end Go.Rex
open Go Go.Rex Go.Proofs
namespace Go.Rex
set_option maxRecDepth 100000
theorem pok147:aD Tryz.prog pc147 := aB follows (tab := []) (aC) (k := 100000) (d := 100) (by decide +kernel)
end Go.Rex
open Go Go.Rex Go.Proofs
namespace Go.Rex
set_option maxRecDepth 100000
theorem pok148:aD Tryz.prog pc148 := aB follows (tab := []) (aC) (k := 100000) (d := 100) (by decide +kernel)
end Go.Rex
open Go Go.Rex Go.Proofs
namespace Go.Rex
set_option maxRecDepth 100000
theorem pok149:aD Tryz.prog pc149 := aB follows (tab := []) (aC) (k := 100000) (d := 100) (by decide +kernel)
end Go.Rex
open Go Go.Rex Go.Proofs
namespace Go.Rex
set_option maxRecDepth 100000
theorem pok150:aD Tryz.prog pc150 := aB follows (tab := []) (aC) (k := 100000) (d := 100) (by decide +kernel)
end Go.Rex
open Go Go.Rex Go.Proofs
namespace Go.Rex
set_option maxRecDepth 100000
theorem pok151:aD Tryz.prog pc151 := aB follows (tab := []) (aC) (k := 100000) (d := 100) (by decide +kernel)
end Go.Rex
open Go Go.Rex Go.Proofs
namespace Go.Rex
set_option maxRecDepth 100000
theorem pok152:aD Tryz.prog pc152 := aB follows (tab := []) (aC) (k := 100000) (d := 100) (by decide +kernel)
end Go.Rex
open Go Go.Rex Go.Proofs
namespace Go.Rex
set_option maxRecDepth 100000
theorem pok153:aD Tryz.prog pc153 := aB follows (tab := []) (aC) (k := 100000) (d := 100) (by decide +kernel)
end Go.Rex
open Go Go.Rex Go.Proofs
namespace Go.Rex
set_option maxRecDepth 100000
theorem pok154:aD Tryz.prog pc154 := aB follows (tab := []) (aC) (k := 100000) (d := 100) (by decide +kernel)
end Go.Rex
open Go Go.Rex Go.Proofs
namespace Go.Rex
set_option maxRecDepth 100000
theorem pok155:aD Tryz.prog pc155 := aB follows (tab := []) (aC) (k := 100000) (d := 100) (by decide +kernel)
end Go.Rex
open Go Go.Rex Go.Proofs
namespace Go.Rex
set_option maxRecDepth 100000
theorem pok156:aD Tryz.prog pc156 := aB follows (tab := []) (aC) (k := 100000) (d := 100) (by decide +kernel)
end Go.Rex
open Go Go.Rex Go.Proofs
namespace Go.Rex
set_option maxRecDepth 100000
theorem pok157:aD Tryz.prog pc157 := aB follows (tab := []) (aC) (k := 100000) (d := 100) (by decide +kernel)
end Go.Rex
open Go Go.Rex Go.Proofs
namespace Go.Rex
set_option maxRecDepth 100000
theorem pok158:aD Tryz.prog pc158 := aB follows (tab := []) (aC) (k := 100000) (d := 100) (by decide +kernel)
end Go.Rex
