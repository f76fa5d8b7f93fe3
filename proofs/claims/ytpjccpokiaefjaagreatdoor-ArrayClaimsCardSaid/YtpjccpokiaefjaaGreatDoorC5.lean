/- Calls of the closed examples are as told. -/
import Derived.Test.YtpjccpokiaefjaaGreatDoorCD
import Derived.Test.YtpjccpokiaefjaaGreatDoorC4
import Derived.Test.YtpjccpokiaefjaaGreatDoorC2
import Derived.Test.YtpjccpokiaefjaaGreatDoorC3
import Derived.Test.YtpjccpokiaefjaaGreatDoorC1
set_option linter.unusedSimpArgs false
set_option linter.unusedVariables false
set_option linter.defProp false

open Go Go.Rex Go.Proofs
namespace Go.Rex
set_option maxRecDepth 100000
theorem pok157 : CallN Tryz.prog pc157 := piece_okN follows (tab := []) (tabN_nil) (k := 100000) (d := 100) (by decide +kernel)
end Go.Rex


open Go Go.Rex Go.Proofs
namespace Go.Rex
set_option maxRecDepth 100000
theorem pok158 : CallN Tryz.prog pc158 := piece_okN follows (tab := []) (tabN_nil) (k := 100000) (d := 100) (by decide +kernel)
end Go.Rex


open Go Go.Rex Go.Proofs
namespace Go.Rex
set_option maxRecDepth 100000
theorem pok159 : CallN Tryz.prog pc159 := piece_okN follows (tab := []) (tabN_nil) (k := 100000) (d := 100) (by decide +kernel)
end Go.Rex


open Go Go.Rex Go.Proofs
namespace Go.Rex
set_option maxRecDepth 100000
theorem pok160 : CallN Tryz.prog pc160 := piece_okN follows (tab := []) (tabN_nil) (k := 100000) (d := 100) (by decide +kernel)
end Go.Rex


open Go Go.Rex Go.Proofs
namespace Go.Rex
set_option maxRecDepth 100000
theorem pok161 : CallN Tryz.prog pc161 := piece_okN follows (tab := []) (tabN_nil) (k := 100000) (d := 100) (by decide +kernel)
end Go.Rex


open Go Go.Rex Go.Proofs
namespace Go.Rex
set_option maxRecDepth 100000
theorem pok162 : CallN Tryz.prog pc162 := piece_okN follows (tab := []) (tabN_nil) (k := 100000) (d := 100) (by decide +kernel)
end Go.Rex


open Go Go.Rex Go.Proofs
namespace Go.Rex
set_option maxRecDepth 100000
theorem pok163 : CallN Tryz.prog pc163 := piece_okN follows (tab := []) (tabN_nil) (k := 100000) (d := 100) (by decide +kernel)
end Go.Rex


open Go Go.Rex Go.Proofs
namespace Go.Rex
set_option maxRecDepth 100000
theorem pok164 : CallN Tryz.prog pc164 := piece_okN follows (tab := []) (tabN_nil) (k := 100000) (d := 100) (by decide +kernel)
end Go.Rex

open Go Go.Rex Go.Proofs
namespace Go.Rex
set_option maxRecDepth 100000
theorem pok165 : CallN Tryz.prog pc165 := piece_okN follows (tab := [pc158, pc159, pc160, pc161, pc153, pc162, pc163, pc164, pc43]) (tabN_cons pok158 (tabN_cons pok159 (tabN_cons pok160 (tabN_cons pok161 (tabN_cons pok153 (tabN_cons pok162 (tabN_cons pok163 (tabN_cons pok164 (tabN_cons pok43 (tabN_nil)))))))))) (k := 100000) (d := 100) (by decide +kernel)
end Go.Rex


open Go Go.Rex Go.Proofs
namespace Go.Rex
set_option maxRecDepth 100000
theorem pok166 : CallN Tryz.prog pc166 := piece_okN follows (tab := []) (tabN_nil) (k := 100000) (d := 100) (by decide +kernel)
end Go.Rex


open Go Go.Rex Go.Proofs
namespace Go.Rex
set_option maxRecDepth 100000
theorem pok167 : CallN Tryz.prog pc167 := piece_okN follows (tab := []) (tabN_nil) (k := 100000) (d := 100) (by decide +kernel)
end Go.Rex


open Go Go.Rex Go.Proofs
namespace Go.Rex
set_option maxRecDepth 100000
theorem pok168 : CallN Tryz.prog pc168 := piece_okN follows (tab := []) (tabN_nil) (k := 100000) (d := 100) (by decide +kernel)
end Go.Rex


open Go Go.Rex Go.Proofs
namespace Go.Rex
set_option maxRecDepth 100000
theorem pok169 : CallN Tryz.prog pc169 := piece_okN follows (tab := []) (tabN_nil) (k := 100000) (d := 100) (by decide +kernel)
end Go.Rex


open Go Go.Rex Go.Proofs
namespace Go.Rex
set_option maxRecDepth 100000
theorem pok170 : CallN Tryz.prog pc170 := piece_okN follows (tab := []) (tabN_nil) (k := 100000) (d := 100) (by decide +kernel)
end Go.Rex


open Go Go.Rex Go.Proofs
namespace Go.Rex
set_option maxRecDepth 100000
theorem pok171 : CallN Tryz.prog pc171 := piece_okN follows (tab := []) (tabN_nil) (k := 100000) (d := 100) (by decide +kernel)
end Go.Rex


open Go Go.Rex Go.Proofs
namespace Go.Rex
set_option maxRecDepth 100000
theorem pok172 : CallN Tryz.prog pc172 := piece_okN follows (tab := []) (tabN_nil) (k := 100000) (d := 100) (by decide +kernel)
end Go.Rex

open Go Go.Rex Go.Proofs
namespace Go.Rex
set_option maxRecDepth 100000
theorem pok173 : CallN Tryz.prog pc173 := piece_okN follows (tab := [pc166, pc167, pc160, pc168, pc169, pc170, pc171, pc172, pc52]) (tabN_cons pok166 (tabN_cons pok167 (tabN_cons pok160 (tabN_cons pok168 (tabN_cons pok169 (tabN_cons pok170 (tabN_cons pok171 (tabN_cons pok172 (tabN_cons pok52 (tabN_nil)))))))))) (k := 100000) (d := 100) (by decide +kernel)
end Go.Rex


open Go Go.Rex Go.Proofs
namespace Go.Rex
set_option maxRecDepth 100000
theorem pok174 : CallN Tryz.prog pc174 := piece_okN follows (tab := []) (tabN_nil) (k := 100000) (d := 100) (by decide +kernel)
end Go.Rex


open Go Go.Rex Go.Proofs
namespace Go.Rex
set_option maxRecDepth 100000
theorem pok175 : CallN Tryz.prog pc175 := piece_okN follows (tab := []) (tabN_nil) (k := 100000) (d := 100) (by decide +kernel)
end Go.Rex


open Go Go.Rex Go.Proofs
namespace Go.Rex
set_option maxRecDepth 100000
theorem pok176 : CallN Tryz.prog pc176 := piece_okN follows (tab := []) (tabN_nil) (k := 100000) (d := 100) (by decide +kernel)
end Go.Rex


open Go Go.Rex Go.Proofs
namespace Go.Rex
set_option maxRecDepth 100000
theorem pok177 : CallN Tryz.prog pc177 := piece_okN follows (tab := []) (tabN_nil) (k := 100000) (d := 100) (by decide +kernel)
end Go.Rex


open Go Go.Rex Go.Proofs
namespace Go.Rex
set_option maxRecDepth 100000
theorem pok178 : CallN Tryz.prog pc178 := piece_okN follows (tab := []) (tabN_nil) (k := 100000) (d := 100) (by decide +kernel)
end Go.Rex


open Go Go.Rex Go.Proofs
namespace Go.Rex
set_option maxRecDepth 100000
theorem pok179 : CallN Tryz.prog pc179 := piece_okN follows (tab := []) (tabN_nil) (k := 100000) (d := 100) (by decide +kernel)
end Go.Rex


open Go Go.Rex Go.Proofs
namespace Go.Rex
set_option maxRecDepth 100000
theorem pok180 : CallN Tryz.prog pc180 := piece_okN follows (tab := []) (tabN_nil) (k := 100000) (d := 100) (by decide +kernel)
end Go.Rex

open Go Go.Rex Go.Proofs
namespace Go.Rex
set_option maxRecDepth 100000
theorem pok181 : CallN Tryz.prog pc181 := piece_okN follows (tab := [pc174, pc175, pc176, pc177, pc178, pc179, pc145, pc180, pc95]) (tabN_cons pok174 (tabN_cons pok175 (tabN_cons pok176 (tabN_cons pok177 (tabN_cons pok178 (tabN_cons pok179 (tabN_cons pok145 (tabN_cons pok180 (tabN_cons pok95 (tabN_nil)))))))))) (k := 100000) (d := 100) (by decide +kernel)
end Go.Rex


open Go Go.Rex Go.Proofs
namespace Go.Rex
set_option maxRecDepth 100000
theorem pok182 : CallN Tryz.prog pc182 := piece_okN follows (tab := []) (tabN_nil) (k := 100000) (d := 100) (by decide +kernel)
end Go.Rex

open Go Go.Rex Go.Proofs
namespace Go.Rex
set_option maxRecDepth 100000
theorem pok183 : CallN Tryz.prog pc183 := piece_okN follows (tab := [pc7, pc17, pc26, pc35, pc44, pc53, pc62, pc70, pc78, pc86, pc96, pc104, pc112, pc121, pc129, pc138, pc147, pc148, pc156, pc157, pc165, pc173, pc181, pc182]) (tabN_cons pok7 (tabN_cons pok17 (tabN_cons pok26 (tabN_cons pok35 (tabN_cons pok44 (tabN_cons pok53 (tabN_cons pok62 (tabN_cons pok70 (tabN_cons pok78 (tabN_cons pok86 (tabN_cons pok96 (tabN_cons pok104 (tabN_cons pok112 (tabN_cons pok121 (tabN_cons pok129 (tabN_cons pok138 (tabN_cons pok147 (tabN_cons pok148 (tabN_cons pok156 (tabN_cons pok157 (tabN_cons pok165 (tabN_cons pok173 (tabN_cons pok181 (tabN_cons pok182 (tabN_nil))))))))))))))))))))))))) (k := 100000) (d := 100) (by decide +kernel)
end Go.Rex

open Go Go.Rex Go.Proofs
namespace Go.Rex
set_option maxRecDepth 100000
theorem pok184 : CallN Tryz.prog pc184 := piece_okN follows (tab := [pc6, pc183]) (tabN_cons pok6 (tabN_cons pok183 (tabN_nil))) (k := 100000) (d := 100) (by decide +kernel)
end Go.Rex


open Go Go.Rex Go.Proofs
namespace Go.Rex
set_option maxRecDepth 100000
theorem pok185 : CallN Tryz.prog pc185 := piece_okN follows (tab := []) (tabN_nil) (k := 100000) (d := 100) (by decide +kernel)
end Go.Rex


open Go Go.Rex Go.Proofs
namespace Go.Rex
set_option maxRecDepth 100000
theorem pok186 : CallN Tryz.prog pc186 := piece_okN follows (tab := []) (tabN_nil) (k := 100000) (d := 100) (by decide +kernel)
end Go.Rex

open Go Go.Rex Go.Proofs
namespace Go.Rex
set_option maxRecDepth 100000
theorem pok187 : CallN Tryz.prog pc187 := piece_okN follows (tab := [pc185, pc186]) (tabN_cons pok185 (tabN_cons pok186 (tabN_nil))) (k := 100000) (d := 100) (by decide +kernel)
end Go.Rex


open Go Go.Rex Go.Proofs
namespace Go.Rex
set_option maxRecDepth 100000
theorem pok191 : CallN Tryz.prog pc191 := piece_okN follows (tab := []) (tabN_nil) (k := 100000) (d := 100) (by decide +kernel)
end Go.Rex
