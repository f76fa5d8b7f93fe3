/- Calls of the closed examples are as told. -/
import Derived.Test.YtlhanhijfdnjfaaGreatDoorCD
import Derived.Test.YtlhanhijfdnjfaaGreatDoorC1
import Derived.Test.YtlhanhijfdnjfaaGreatDoorC2
import Derived.Test.YtlhanhijfdnjfaaGreatDoorC3
import Derived.Test.YtlhanhijfdnjfaaGreatDoorC4
import Derived.Test.YtlhanhijfdnjfaaGreatDoorC5
import Derived.Test.YtlhanhijfdnjfaaGreatDoorC6
import Derived.Test.YtlhanhijfdnjfaaGreatDoorC7
set_option linter.unusedSimpArgs false
set_option linter.unusedVariables false
set_option linter.defProp false
open Go Go.Rex Go.Proofs
namespace Go.Rex
set_option maxRecDepth 100000
theorem pok279 : CallN Tryz.prog pc279 := piece_okN follows (tab := [pc18, pc19, pc20, pc22, pc24, pc27, pc29, pc31, pc33, pc35, pc37, pc39, pc41, pc42, pc44, pc46, pc47, pc49, pc51, pc53, pc54, pc55, pc57, pc59, pc60, pc61, pc62, pc63, pc64, pc65, pc66, pc67, pc68, pc69, pc70, pc71, pc72, pc73, pc74, pc75, pc76, pc77, pc78, pc79, pc81, pc83, pc84, pc85, pc86, pc87, pc88, pc89, pc90, pc91, pc92, pc93, pc94, pc95, pc96, pc97, pc98, pc99, pc100, pc101, pc102, pc103, pc104, pc105, pc106, pc107, pc108, pc109, pc110, pc111, pc112, pc114, pc115, pc116, pc117, pc118, pc120, pc122, pc123, pc125, pc126, pc127, pc128, pc129, pc130, pc131, pc132, pc133, pc134, pc135, pc136, pc137, pc139, pc140, pc141, pc142, pc144, pc145, pc146, pc147, pc148, pc149, pc150, pc151, pc152, pc153, pc154, pc155, pc157, pc159, pc160, pc162, pc163, pc165, pc167, pc169, pc170, pc171, pc172, pc173, pc174, pc175, pc177, pc178, pc180, pc182, pc184, pc186, pc188, pc190, pc192, pc194, pc196, pc198, pc200, pc201, pc202, pc204, pc205, pc207, pc209, pc211, pc213, pc215, pc217, pc219, pc221, pc223, pc225, pc226, pc227, pc229, pc231, pc232, pc234, pc236, pc238, pc240, pc242, pc244, pc246, pc248, pc249, pc251, pc253, pc255, pc256, pc258, pc260, pc262, pc264, pc266, pc268, pc270, pc271, pc272, pc273, pc274, pc276, pc278]) (tabN_cons pok18 (tabN_cons pok19 (tabN_cons pok20 (tabN_cons pok22 (tabN_cons pok24 (tabN_cons pok27 (tabN_cons pok29 (tabN_cons pok31 (tabN_cons pok33 (tabN_cons pok35 (tabN_cons pok37 (tabN_cons pok39 (tabN_cons pok41 (tabN_cons pok42 (tabN_cons pok44 (tabN_cons pok46 (tabN_cons pok47 (tabN_cons pok49 (tabN_cons pok51 (tabN_cons pok53 (tabN_cons pok54 (tabN_cons pok55 (tabN_cons pok57 (tabN_cons pok59 (tabN_cons pok60 (tabN_cons pok61 (tabN_cons pok62 (tabN_cons pok63 (tabN_cons pok64 (tabN_cons pok65 (tabN_cons pok66 (tabN_cons pok67 (tabN_cons pok68 (tabN_cons pok69 (tabN_cons pok70 (tabN_cons pok71 (tabN_cons pok72 (tabN_cons pok73 (tabN_cons pok74 (tabN_cons pok75 (tabN_cons pok76 (tabN_cons pok77 (tabN_cons pok78 (tabN_cons pok79 (tabN_cons pok81 (tabN_cons pok83 (tabN_cons pok84 (tabN_cons pok85 (tabN_cons pok86 (tabN_cons pok87 (tabN_cons pok88 (tabN_cons pok89 (tabN_cons pok90 (tabN_cons pok91 (tabN_cons pok92 (tabN_cons pok93 (tabN_cons pok94 (tabN_cons pok95 (tabN_cons pok96 (tabN_cons pok97 (tabN_cons pok98 (tabN_cons pok99 (tabN_cons pok100 (tabN_cons pok101 (tabN_cons pok102 (tabN_cons pok103 (tabN_cons pok104 (tabN_cons pok105 (tabN_cons pok106 (tabN_cons pok107 (tabN_cons pok108 (tabN_cons pok109 (tabN_cons pok110 (tabN_cons pok111 (tabN_cons pok112 (tabN_cons pok114 (tabN_cons pok115 (tabN_cons pok116 (tabN_cons pok117 (tabN_cons pok118 (tabN_cons pok120 (tabN_cons pok122 (tabN_cons pok123 (tabN_cons pok125 (tabN_cons pok126 (tabN_cons pok127 (tabN_cons pok128 (tabN_cons pok129 (tabN_cons pok130 (tabN_cons pok131 (tabN_cons pok132 (tabN_cons pok133 (tabN_cons pok134 (tabN_cons pok135 (tabN_cons pok136 (tabN_cons pok137 (tabN_cons pok139 (tabN_cons pok140 (tabN_cons pok141 (tabN_cons pok142 (tabN_cons pok144 (tabN_cons pok145 (tabN_cons pok146 (tabN_cons pok147 (tabN_cons pok148 (tabN_cons pok149 (tabN_cons pok150 (tabN_cons pok151 (tabN_cons pok152 (tabN_cons pok153 (tabN_cons pok154 (tabN_cons pok155 (tabN_cons pok157 (tabN_cons pok159 (tabN_cons pok160 (tabN_cons pok162 (tabN_cons pok163 (tabN_cons pok165 (tabN_cons pok167 (tabN_cons pok169 (tabN_cons pok170 (tabN_cons pok171 (tabN_cons pok172 (tabN_cons pok173 (tabN_cons pok174 (tabN_cons pok175 (tabN_cons pok177 (tabN_cons pok178 (tabN_cons pok180 (tabN_cons pok182 (tabN_cons pok184 (tabN_cons pok186 (tabN_cons pok188 (tabN_cons pok190 (tabN_cons pok192 (tabN_cons pok194 (tabN_cons pok196 (tabN_cons pok198 (tabN_cons pok200 (tabN_cons pok201 (tabN_cons pok202 (tabN_cons pok204 (tabN_cons pok205 (tabN_cons pok207 (tabN_cons pok209 (tabN_cons pok211 (tabN_cons pok213 (tabN_cons pok215 (tabN_cons pok217 (tabN_cons pok219 (tabN_cons pok221 (tabN_cons pok223 (tabN_cons pok225 (tabN_cons pok226 (tabN_cons pok227 (tabN_cons pok229 (tabN_cons pok231 (tabN_cons pok232 (tabN_cons pok234 (tabN_cons pok236 (tabN_cons pok238 (tabN_cons pok240 (tabN_cons pok242 (tabN_cons pok244 (tabN_cons pok246 (tabN_cons pok248 (tabN_cons pok249 (tabN_cons pok251 (tabN_cons pok253 (tabN_cons pok255 (tabN_cons pok256 (tabN_cons pok258 (tabN_cons pok260 (tabN_cons pok262 (tabN_cons pok264 (tabN_cons pok266 (tabN_cons pok268 (tabN_cons pok270 (tabN_cons pok271 (tabN_cons pok272 (tabN_cons pok273 (tabN_cons pok274 (tabN_cons pok276 (tabN_cons pok278 (tabN_nil))))))))))))))))))))))))))))))))))))))))))))))))))))))))))))))))))))))))))))))))))))))))))))))))))))))))))))))))))))))))))))))))))))))))))))))))))))))))))))))))))))))))))))))))))))))))) (k := 100000) (d := 100) (by decide +kernel)
end Go.Rex

open Go Go.Rex Go.Proofs
namespace Go.Rex
set_option maxRecDepth 100000
theorem pok280 : CallN Tryz.prog pc280 := piece_okN follows (tab := [pc16, pc2, pc279]) (tabN_cons pok16 (tabN_cons pok2 (tabN_cons pok279 (tabN_nil)))) (k := 100000) (d := 100) (by decide +kernel)
end Go.Rex

open Go Go.Rex Go.Proofs
namespace Go.Rex
set_option maxRecDepth 100000
theorem pok281 : CallN Tryz.prog pc281 := piece_okN follows (tab := [pc312, pc280]) (tabN_cons pok312 (tabN_cons pok280 (tabN_nil))) (k := 100000) (d := 100) (by decide +kernel)
end Go.Rex


open Go Go.Rex Go.Proofs
namespace Go.Rex
set_option maxRecDepth 100000
theorem pok282 : CallN Tryz.prog pc282 := piece_okN follows (tab := []) (tabN_nil) (k := 100000) (d := 100) (by decide +kernel)
end Go.Rex

open Go Go.Rex Go.Proofs
namespace Go.Rex
set_option maxRecDepth 100000
theorem pok283 : CallN Tryz.prog pc283 := piece_okN follows (tab := [pc282]) (tabN_cons pok282 (tabN_nil)) (k := 100000) (d := 100) (by decide +kernel)
end Go.Rex

open Go Go.Rex Go.Proofs
namespace Go.Rex
set_option maxRecDepth 100000
theorem pok284 : CallN Tryz.prog pc284 := piece_okN follows (tab := [pc312, pc2, pc283]) (tabN_cons pok312 (tabN_cons pok2 (tabN_cons pok283 (tabN_nil)))) (k := 100000) (d := 100) (by decide +kernel)
end Go.Rex


open Go Go.Rex Go.Proofs
namespace Go.Rex
set_option maxRecDepth 100000
theorem pok285 : CallN Tryz.prog pc285 := piece_okN follows (tab := []) (tabN_nil) (k := 100000) (d := 100) (by decide +kernel)
end Go.Rex


open Go Go.Rex Go.Proofs
namespace Go.Rex
set_option maxRecDepth 100000
theorem pok286 : CallN Tryz.prog pc286 := piece_okN follows (tab := []) (tabN_nil) (k := 100000) (d := 100) (by decide +kernel)
end Go.Rex


open Go Go.Rex Go.Proofs
namespace Go.Rex
set_option maxRecDepth 100000
theorem pok287 : CallN Tryz.prog pc287 := piece_okN follows (tab := []) (tabN_nil) (k := 100000) (d := 100) (by decide +kernel)
end Go.Rex

open Go Go.Rex Go.Proofs
namespace Go.Rex
set_option maxRecDepth 100000
theorem pok288 : CallN Tryz.prog pc288 := piece_okN follows (tab := [pc285, pc286, pc287]) (tabN_cons pok285 (tabN_cons pok286 (tabN_cons pok287 (tabN_nil)))) (k := 100000) (d := 100) (by decide +kernel)
end Go.Rex

open Go Go.Rex Go.Proofs
namespace Go.Rex
set_option maxRecDepth 100000
theorem pok289 : CallN Tryz.prog pc289 := piece_okN follows (tab := [pc285, pc286, pc287]) (tabN_cons pok285 (tabN_cons pok286 (tabN_cons pok287 (tabN_nil)))) (k := 100000) (d := 100) (by decide +kernel)
end Go.Rex

open Go Go.Rex Go.Proofs
namespace Go.Rex
set_option maxRecDepth 100000
theorem pok290 : CallN Tryz.prog pc290 := piece_okN follows (tab := [pc2, pc288, pc289]) (tabN_cons pok2 (tabN_cons pok288 (tabN_cons pok289 (tabN_nil)))) (k := 100000) (d := 100) (by decide +kernel)
end Go.Rex


open Go Go.Rex Go.Proofs
namespace Go.Rex
set_option maxRecDepth 100000
theorem pok291 : CallN Tryz.prog pc291 := piece_okN follows (tab := []) (tabN_nil) (k := 100000) (d := 100) (by decide +kernel)
end Go.Rex


open Go Go.Rex Go.Proofs
namespace Go.Rex
set_option maxRecDepth 100000
theorem pok292 : CallN Tryz.prog pc292 := piece_okN follows (tab := []) (tabN_nil) (k := 100000) (d := 100) (by decide +kernel)
end Go.Rex


open Go Go.Rex Go.Proofs
namespace Go.Rex
set_option maxRecDepth 100000
theorem pok293 : CallN Tryz.prog pc293 := piece_okN follows (tab := []) (tabN_nil) (k := 100000) (d := 100) (by decide +kernel)
end Go.Rex


open Go Go.Rex Go.Proofs
namespace Go.Rex
set_option maxRecDepth 100000
theorem pok294 : CallN Tryz.prog pc294 := piece_okN follows (tab := []) (tabN_nil) (k := 100000) (d := 100) (by decide +kernel)
end Go.Rex


open Go Go.Rex Go.Proofs
namespace Go.Rex
set_option maxRecDepth 100000
theorem pok295 : CallN Tryz.prog pc295 := piece_okN follows (tab := []) (tabN_nil) (k := 100000) (d := 100) (by decide +kernel)
end Go.Rex

open Go Go.Rex Go.Proofs
namespace Go.Rex
set_option maxRecDepth 100000
theorem pok296 : CallN Tryz.prog pc296 := piece_okN follows (tab := [pc291, pc292, pc293, pc294, pc295]) (tabN_cons pok291 (tabN_cons pok292 (tabN_cons pok293 (tabN_cons pok294 (tabN_cons pok295 (tabN_nil)))))) (k := 100000) (d := 100) (by decide +kernel)
end Go.Rex

open Go Go.Rex Go.Proofs
namespace Go.Rex
set_option maxRecDepth 100000
theorem pok297 : CallN Tryz.prog pc297 := piece_okN follows (tab := [pc291, pc292, pc293, pc294, pc295]) (tabN_cons pok291 (tabN_cons pok292 (tabN_cons pok293 (tabN_cons pok294 (tabN_cons pok295 (tabN_nil)))))) (k := 100000) (d := 100) (by decide +kernel)
end Go.Rex

open Go Go.Rex Go.Proofs
namespace Go.Rex
set_option maxRecDepth 100000
theorem pok298 : CallN Tryz.prog pc298 := piece_okN follows (tab := [pc2, pc6, pc296, pc297]) (tabN_cons pok2 (tabN_cons pok6 (tabN_cons pok296 (tabN_cons pok297 (tabN_nil))))) (k := 100000) (d := 100) (by decide +kernel)
end Go.Rex


open Go Go.Rex Go.Proofs
namespace Go.Rex
set_option maxRecDepth 100000
theorem pok299 : CallN Tryz.prog pc299 := piece_okN follows (tab := []) (tabN_nil) (k := 100000) (d := 100) (by decide +kernel)
end Go.Rex

open Go Go.Rex Go.Proofs
namespace Go.Rex
set_option maxRecDepth 100000
theorem pok300 : CallN Tryz.prog pc300 := piece_okN follows (tab := [pc299, pc2]) (tabN_cons pok299 (tabN_cons pok2 (tabN_nil))) (k := 100000) (d := 100) (by decide +kernel)
end Go.Rex

open Go Go.Rex Go.Proofs
namespace Go.Rex
set_option maxRecDepth 100000
theorem pok301 : CallN Tryz.prog pc301 := piece_okN follows (tab := [pc299, pc2]) (tabN_cons pok299 (tabN_cons pok2 (tabN_nil))) (k := 100000) (d := 100) (by decide +kernel)
end Go.Rex


open Go Go.Rex Go.Proofs
namespace Go.Rex
set_option maxRecDepth 100000
theorem pok302 : CallN Tryz.prog pc302 := piece_okN follows (tab := []) (tabN_nil) (k := 100000) (d := 100) (by decide +kernel)
end Go.Rex

open Go Go.Rex Go.Proofs
namespace Go.Rex
set_option maxRecDepth 100000
theorem pok303 : CallN Tryz.prog pc303 := piece_okN follows (tab := [pc2, pc302]) (tabN_cons pok2 (tabN_cons pok302 (tabN_nil))) (k := 100000) (d := 100) (by decide +kernel)
end Go.Rex

open Go Go.Rex Go.Proofs
namespace Go.Rex
set_option maxRecDepth 100000
theorem pok304 : CallN Tryz.prog pc304 := piece_okN follows (tab := [pc290, pc14, pc298, pc300, pc301, pc303]) (tabN_cons pok290 (tabN_cons pok14 (tabN_cons pok298 (tabN_cons pok300 (tabN_cons pok301 (tabN_cons pok303 (tabN_nil))))))) (k := 100000) (d := 100) (by decide +kernel)
end Go.Rex


open Go Go.Rex Go.Proofs
namespace Go.Rex
set_option maxRecDepth 100000
theorem pok313 : CallN Tryz.prog pc313 := piece_okN follows (tab := []) (tabN_nil) (k := 100000) (d := 100) (by decide +kernel)
end Go.Rex


open Go Go.Rex Go.Proofs
namespace Go.Rex
set_option maxRecDepth 100000
theorem pok305 : CallN Tryz.prog pc305 := piece_okN follows (tab := []) (tabN_nil) (k := 100000) (d := 100) (by decide +kernel)
end Go.Rex


open Go Go.Rex Go.Proofs
namespace Go.Rex
set_option maxRecDepth 100000
theorem pok306 : CallN Tryz.prog pc306 := piece_okN follows (tab := []) (tabN_nil) (k := 100000) (d := 100) (by decide +kernel)
end Go.Rex


open Go Go.Rex Go.Proofs
namespace Go.Rex
set_option maxRecDepth 100000
theorem pok307 : CallN Tryz.prog pc307 := piece_okN follows (tab := []) (tabN_nil) (k := 100000) (d := 100) (by decide +kernel)
end Go.Rex


open Go Go.Rex Go.Proofs
namespace Go.Rex
set_option maxRecDepth 100000
theorem pok308 : CallN Tryz.prog pc308 := piece_okN follows (tab := []) (tabN_nil) (k := 100000) (d := 100) (by decide +kernel)
end Go.Rex


open Go Go.Rex Go.Proofs
namespace Go.Rex
set_option maxRecDepth 100000
theorem pok309 : CallN Tryz.prog pc309 := piece_okN follows (tab := []) (tabN_nil) (k := 100000) (d := 100) (by decide +kernel)
end Go.Rex

open Go Go.Rex Go.Proofs
namespace Go.Rex
set_option maxRecDepth 100000
theorem pok310 : CallN Tryz.prog pc310 := piece_okN follows (tab := [pc305, pc306, pc307, pc308, pc309]) (tabN_cons pok305 (tabN_cons pok306 (tabN_cons pok307 (tabN_cons pok308 (tabN_cons pok309 (tabN_nil)))))) (k := 100000) (d := 100) (by decide +kernel)
end Go.Rex
