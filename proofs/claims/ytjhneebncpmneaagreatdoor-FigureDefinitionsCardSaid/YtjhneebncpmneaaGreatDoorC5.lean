/- Calls of the closed examples are as told. -/
import Derived.Test.YtjhneebncpmneaaGreatDoorCD
import Derived.Test.YtjhneebncpmneaaGreatDoorC1
import Derived.Test.YtjhneebncpmneaaGreatDoorC2
import Derived.Test.YtjhneebncpmneaaGreatDoorC3
import Derived.Test.YtjhneebncpmneaaGreatDoorC4
set_option linter.unusedSimpArgs false
set_option linter.unusedVariables false
set_option linter.defProp false

open Go Go.Rex Go.Proofs
namespace Go.Rex
set_option maxRecDepth 100000
theorem pok159 : CallN Tryz.prog pc159 := piece_okN follows (tab := []) (tabN_nil) (k := 100000) (d := 100) (by decide +kernel)
end Go.Rex


open Go Go.Rex Go.Proofs
namespace Go.Rex
set_option maxRecDepth 100000
theorem pok160 : CallN Tryz.prog pc160 := piece_okN follows (tab := []) (tabN_nil) (k := 100000) (d := 100) (by decide +kernel)
end Go.Rex


open Go Go.Rex Go.Proofs
namespace Go.Rex
set_option maxRecDepth 100000
theorem pok161 : CallN Tryz.prog pc161 := piece_okN follows (tab := []) (tabN_nil) (k := 100000) (d := 100) (by decide +kernel)
end Go.Rex


open Go Go.Rex Go.Proofs
namespace Go.Rex
set_option maxRecDepth 100000
theorem pok162 : CallN Tryz.prog pc162 := piece_okN follows (tab := []) (tabN_nil) (k := 100000) (d := 100) (by decide +kernel)
end Go.Rex


open Go Go.Rex Go.Proofs
namespace Go.Rex
set_option maxRecDepth 100000
theorem pok163 : CallN Tryz.prog pc163 := piece_okN follows (tab := []) (tabN_nil) (k := 100000) (d := 100) (by decide +kernel)
end Go.Rex


open Go Go.Rex Go.Proofs
namespace Go.Rex
set_option maxRecDepth 100000
theorem pok164 : CallN Tryz.prog pc164 := piece_okN follows (tab := []) (tabN_nil) (k := 100000) (d := 100) (by decide +kernel)
end Go.Rex


open Go Go.Rex Go.Proofs
namespace Go.Rex
set_option maxRecDepth 100000
theorem pok165 : CallN Tryz.prog pc165 := piece_okN follows (tab := []) (tabN_nil) (k := 100000) (d := 100) (by decide +kernel)
end Go.Rex


open Go Go.Rex Go.Proofs
namespace Go.Rex
set_option maxRecDepth 100000
theorem pok166 : CallN Tryz.prog pc166 := piece_okN follows (tab := []) (tabN_nil) (k := 100000) (d := 100) (by decide +kernel)
end Go.Rex


open Go Go.Rex Go.Proofs
namespace Go.Rex
set_option maxRecDepth 100000
theorem pok167 : CallN Tryz.prog pc167 := piece_okN follows (tab := []) (tabN_nil) (k := 100000) (d := 100) (by decide +kernel)
end Go.Rex


open Go Go.Rex Go.Proofs
namespace Go.Rex
set_option maxRecDepth 100000
theorem pok168 : CallN Tryz.prog pc168 := piece_okN follows (tab := []) (tabN_nil) (k := 100000) (d := 100) (by decide +kernel)
end Go.Rex


open Go Go.Rex Go.Proofs
namespace Go.Rex
set_option maxRecDepth 100000
theorem pok169 : CallN Tryz.prog pc169 := piece_okN follows (tab := []) (tabN_nil) (k := 100000) (d := 100) (by decide +kernel)
end Go.Rex


open Go Go.Rex Go.Proofs
namespace Go.Rex
set_option maxRecDepth 100000
theorem pok170 : CallN Tryz.prog pc170 := piece_okN follows (tab := []) (tabN_nil) (k := 100000) (d := 100) (by decide +kernel)
end Go.Rex


open Go Go.Rex Go.Proofs
namespace Go.Rex
set_option maxRecDepth 100000
theorem pok171 : CallN Tryz.prog pc171 := piece_okN follows (tab := []) (tabN_nil) (k := 100000) (d := 100) (by decide +kernel)
end Go.Rex


open Go Go.Rex Go.Proofs
namespace Go.Rex
set_option maxRecDepth 100000
theorem pok172 : CallN Tryz.prog pc172 := piece_okN follows (tab := []) (tabN_nil) (k := 100000) (d := 100) (by decide +kernel)
end Go.Rex


open Go Go.Rex Go.Proofs
namespace Go.Rex
set_option maxRecDepth 100000
theorem pok173 : CallN Tryz.prog pc173 := piece_okN follows (tab := []) (tabN_nil) (k := 100000) (d := 100) (by decide +kernel)
end Go.Rex


open Go Go.Rex Go.Proofs
namespace Go.Rex
set_option maxRecDepth 100000
theorem pok174 : CallN Tryz.prog pc174 := piece_okN follows (tab := []) (tabN_nil) (k := 100000) (d := 100) (by decide +kernel)
end Go.Rex


open Go Go.Rex Go.Proofs
namespace Go.Rex
set_option maxRecDepth 100000
theorem pok175 : CallN Tryz.prog pc175 := piece_okN follows (tab := []) (tabN_nil) (k := 100000) (d := 100) (by decide +kernel)
end Go.Rex


open Go Go.Rex Go.Proofs
namespace Go.Rex
set_option maxRecDepth 100000
theorem pok176 : CallN Tryz.prog pc176 := piece_okN follows (tab := []) (tabN_nil) (k := 100000) (d := 100) (by decide +kernel)
end Go.Rex


open Go Go.Rex Go.Proofs
namespace Go.Rex
set_option maxRecDepth 100000
theorem pok177 : CallN Tryz.prog pc177 := piece_okN follows (tab := []) (tabN_nil) (k := 100000) (d := 100) (by decide +kernel)
end Go.Rex


open Go Go.Rex Go.Proofs
namespace Go.Rex
set_option maxRecDepth 100000
theorem pok178 : CallN Tryz.prog pc178 := piece_okN follows (tab := []) (tabN_nil) (k := 100000) (d := 100) (by decide +kernel)
end Go.Rex


open Go Go.Rex Go.Proofs
namespace Go.Rex
set_option maxRecDepth 100000
theorem pok179 : CallN Tryz.prog pc179 := piece_okN follows (tab := []) (tabN_nil) (k := 100000) (d := 100) (by decide +kernel)
end Go.Rex


open Go Go.Rex Go.Proofs
namespace Go.Rex
set_option maxRecDepth 100000
theorem pok180 : CallN Tryz.prog pc180 := piece_okN follows (tab := []) (tabN_nil) (k := 100000) (d := 100) (by decide +kernel)
end Go.Rex


open Go Go.Rex Go.Proofs
namespace Go.Rex
set_option maxRecDepth 100000
theorem pok181 : CallN Tryz.prog pc181 := piece_okN follows (tab := []) (tabN_nil) (k := 100000) (d := 100) (by decide +kernel)
end Go.Rex


open Go Go.Rex Go.Proofs
namespace Go.Rex
set_option maxRecDepth 100000
theorem pok182 : CallN Tryz.prog pc182 := piece_okN follows (tab := []) (tabN_nil) (k := 100000) (d := 100) (by decide +kernel)
end Go.Rex


open Go Go.Rex Go.Proofs
namespace Go.Rex
set_option maxRecDepth 100000
theorem pok183 : CallN Tryz.prog pc183 := piece_okN follows (tab := []) (tabN_nil) (k := 100000) (d := 100) (by decide +kernel)
end Go.Rex


open Go Go.Rex Go.Proofs
namespace Go.Rex
set_option maxRecDepth 100000
theorem pok184 : CallN Tryz.prog pc184 := piece_okN follows (tab := []) (tabN_nil) (k := 100000) (d := 100) (by decide +kernel)
end Go.Rex


open Go Go.Rex Go.Proofs
namespace Go.Rex
set_option maxRecDepth 100000
theorem pok185 : CallN Tryz.prog pc185 := piece_okN follows (tab := []) (tabN_nil) (k := 100000) (d := 100) (by decide +kernel)
end Go.Rex


open Go Go.Rex Go.Proofs
namespace Go.Rex
set_option maxRecDepth 100000
theorem pok186 : CallN Tryz.prog pc186 := piece_okN follows (tab := []) (tabN_nil) (k := 100000) (d := 100) (by decide +kernel)
end Go.Rex


open Go Go.Rex Go.Proofs
namespace Go.Rex
set_option maxRecDepth 100000
theorem pok187 : CallN Tryz.prog pc187 := piece_okN follows (tab := []) (tabN_nil) (k := 100000) (d := 100) (by decide +kernel)
end Go.Rex


open Go Go.Rex Go.Proofs
namespace Go.Rex
set_option maxRecDepth 100000
theorem pok188 : CallN Tryz.prog pc188 := piece_okN follows (tab := []) (tabN_nil) (k := 100000) (d := 100) (by decide +kernel)
end Go.Rex


open Go Go.Rex Go.Proofs
namespace Go.Rex
set_option maxRecDepth 100000
theorem pok189 : CallN Tryz.prog pc189 := piece_okN follows (tab := []) (tabN_nil) (k := 100000) (d := 100) (by decide +kernel)
end Go.Rex


open Go Go.Rex Go.Proofs
namespace Go.Rex
set_option maxRecDepth 100000
theorem pok190 : CallN Tryz.prog pc190 := piece_okN follows (tab := []) (tabN_nil) (k := 100000) (d := 100) (by decide +kernel)
end Go.Rex


open Go Go.Rex Go.Proofs
namespace Go.Rex
set_option maxRecDepth 100000
theorem pok191 : CallN Tryz.prog pc191 := piece_okN follows (tab := []) (tabN_nil) (k := 100000) (d := 100) (by decide +kernel)
end Go.Rex


open Go Go.Rex Go.Proofs
namespace Go.Rex
set_option maxRecDepth 100000
theorem pok192 : CallN Tryz.prog pc192 := piece_okN follows (tab := []) (tabN_nil) (k := 100000) (d := 100) (by decide +kernel)
end Go.Rex


open Go Go.Rex Go.Proofs
namespace Go.Rex
set_option maxRecDepth 100000
theorem pok193 : CallN Tryz.prog pc193 := piece_okN follows (tab := []) (tabN_nil) (k := 100000) (d := 100) (by decide +kernel)
end Go.Rex

open Go Go.Rex Go.Proofs
namespace Go.Rex
set_option maxRecDepth 100000
theorem pok194 : CallN Tryz.prog pc194 := piece_okN follows (tab := [pc9, pc10, pc11, pc12, pc13, pc15, pc16, pc17, pc18, pc19, pc20, pc21, pc22, pc23, pc24, pc25, pc26, pc27, pc28, pc29, pc30, pc31, pc32, pc33, pc34, pc35, pc36, pc37, pc38, pc39, pc40, pc41, pc42, pc43, pc44, pc45, pc46, pc47, pc48, pc49, pc50, pc51, pc52, pc53, pc54, pc55, pc56, pc57, pc58, pc59, pc60, pc61, pc62, pc63, pc64, pc65, pc66, pc67, pc68, pc69, pc70, pc71, pc72, pc73, pc74, pc75, pc76, pc77, pc78, pc79, pc80, pc81, pc82, pc83, pc84, pc85, pc86, pc87, pc88, pc89, pc90, pc91, pc92, pc93, pc94, pc95, pc96, pc97, pc98, pc99, pc100, pc101, pc102, pc103, pc104, pc105, pc106, pc107, pc108, pc109, pc110, pc111, pc112, pc113, pc114, pc115, pc116, pc117, pc119, pc120, pc121, pc122, pc123, pc124, pc125, pc126, pc127, pc128, pc129, pc130, pc131, pc132, pc133, pc134, pc135, pc136, pc137, pc138, pc139, pc140, pc141, pc142, pc143, pc144, pc145, pc146, pc147, pc148, pc149, pc150, pc151, pc152, pc153, pc154, pc155, pc156, pc157, pc158, pc159, pc160, pc161, pc162, pc163, pc164, pc165, pc166, pc167, pc168, pc169, pc170, pc171, pc172, pc173, pc174, pc175, pc176, pc177, pc178, pc179, pc180, pc181, pc182, pc183, pc184, pc185, pc186, pc187, pc188, pc189, pc190, pc191, pc192, pc193]) (tabN_cons pok9 (tabN_cons pok10 (tabN_cons pok11 (tabN_cons pok12 (tabN_cons pok13 (tabN_cons pok15 (tabN_cons pok16 (tabN_cons pok17 (tabN_cons pok18 (tabN_cons pok19 (tabN_cons pok20 (tabN_cons pok21 (tabN_cons pok22 (tabN_cons pok23 (tabN_cons pok24 (tabN_cons pok25 (tabN_cons pok26 (tabN_cons pok27 (tabN_cons pok28 (tabN_cons pok29 (tabN_cons pok30 (tabN_cons pok31 (tabN_cons pok32 (tabN_cons pok33 (tabN_cons pok34 (tabN_cons pok35 (tabN_cons pok36 (tabN_cons pok37 (tabN_cons pok38 (tabN_cons pok39 (tabN_cons pok40 (tabN_cons pok41 (tabN_cons pok42 (tabN_cons pok43 (tabN_cons pok44 (tabN_cons pok45 (tabN_cons pok46 (tabN_cons pok47 (tabN_cons pok48 (tabN_cons pok49 (tabN_cons pok50 (tabN_cons pok51 (tabN_cons pok52 (tabN_cons pok53 (tabN_cons pok54 (tabN_cons pok55 (tabN_cons pok56 (tabN_cons pok57 (tabN_cons pok58 (tabN_cons pok59 (tabN_cons pok60 (tabN_cons pok61 (tabN_cons pok62 (tabN_cons pok63 (tabN_cons pok64 (tabN_cons pok65 (tabN_cons pok66 (tabN_cons pok67 (tabN_cons pok68 (tabN_cons pok69 (tabN_cons pok70 (tabN_cons pok71 (tabN_cons pok72 (tabN_cons pok73 (tabN_cons pok74 (tabN_cons pok75 (tabN_cons pok76 (tabN_cons pok77 (tabN_cons pok78 (tabN_cons pok79 (tabN_cons pok80 (tabN_cons pok81 (tabN_cons pok82 (tabN_cons pok83 (tabN_cons pok84 (tabN_cons pok85 (tabN_cons pok86 (tabN_cons pok87 (tabN_cons pok88 (tabN_cons pok89 (tabN_cons pok90 (tabN_cons pok91 (tabN_cons pok92 (tabN_cons pok93 (tabN_cons pok94 (tabN_cons pok95 (tabN_cons pok96 (tabN_cons pok97 (tabN_cons pok98 (tabN_cons pok99 (tabN_cons pok100 (tabN_cons pok101 (tabN_cons pok102 (tabN_cons pok103 (tabN_cons pok104 (tabN_cons pok105 (tabN_cons pok106 (tabN_cons pok107 (tabN_cons pok108 (tabN_cons pok109 (tabN_cons pok110 (tabN_cons pok111 (tabN_cons pok112 (tabN_cons pok113 (tabN_cons pok114 (tabN_cons pok115 (tabN_cons pok116 (tabN_cons pok117 (tabN_cons pok119 (tabN_cons pok120 (tabN_cons pok121 (tabN_cons pok122 (tabN_cons pok123 (tabN_cons pok124 (tabN_cons pok125 (tabN_cons pok126 (tabN_cons pok127 (tabN_cons pok128 (tabN_cons pok129 (tabN_cons pok130 (tabN_cons pok131 (tabN_cons pok132 (tabN_cons pok133 (tabN_cons pok134 (tabN_cons pok135 (tabN_cons pok136 (tabN_cons pok137 (tabN_cons pok138 (tabN_cons pok139 (tabN_cons pok140 (tabN_cons pok141 (tabN_cons pok142 (tabN_cons pok143 (tabN_cons pok144 (tabN_cons pok145 (tabN_cons pok146 (tabN_cons pok147 (tabN_cons pok148 (tabN_cons pok149 (tabN_cons pok150 (tabN_cons pok151 (tabN_cons pok152 (tabN_cons pok153 (tabN_cons pok154 (tabN_cons pok155 (tabN_cons pok156 (tabN_cons pok157 (tabN_cons pok158 (tabN_cons pok159 (tabN_cons pok160 (tabN_cons pok161 (tabN_cons pok162 (tabN_cons pok163 (tabN_cons pok164 (tabN_cons pok165 (tabN_cons pok166 (tabN_cons pok167 (tabN_cons pok168 (tabN_cons pok169 (tabN_cons pok170 (tabN_cons pok171 (tabN_cons pok172 (tabN_cons pok173 (tabN_cons pok174 (tabN_cons pok175 (tabN_cons pok176 (tabN_cons pok177 (tabN_cons pok178 (tabN_cons pok179 (tabN_cons pok180 (tabN_cons pok181 (tabN_cons pok182 (tabN_cons pok183 (tabN_cons pok184 (tabN_cons pok185 (tabN_cons pok186 (tabN_cons pok187 (tabN_cons pok188 (tabN_cons pok189 (tabN_cons pok190 (tabN_cons pok191 (tabN_cons pok192 (tabN_cons pok193 (tabN_nil)))))))))))))))))))))))))))))))))))))))))))))))))))))))))))))))))))))))))))))))))))))))))))))))))))))))))))))))))))))))))))))))))))))))))))))))))))))))))))))))))))))))))))))))))))))))) (k := 100000) (d := 100) (by decide +kernel)
end Go.Rex

open Go Go.Rex Go.Proofs
namespace Go.Rex
set_option maxRecDepth 100000
theorem pok195 : CallN Tryz.prog pc195 := piece_okN follows (tab := [pc2, pc194]) (tabN_cons pok2 (tabN_cons pok194 (tabN_nil))) (k := 100000) (d := 100) (by decide +kernel)
end Go.Rex


open Go Go.Rex Go.Proofs
namespace Go.Rex
set_option maxRecDepth 100000
theorem pok196 : CallN Tryz.prog pc196 := piece_okN follows (tab := []) (tabN_nil) (k := 100000) (d := 100) (by decide +kernel)
end Go.Rex

open Go Go.Rex Go.Proofs
namespace Go.Rex
set_option maxRecDepth 100000
theorem pok197 : CallN Tryz.prog pc197 := piece_okN follows (tab := [pc1, pc2, pc196]) (tabN_cons pok1 (tabN_cons pok2 (tabN_cons pok196 (tabN_nil)))) (k := 100000) (d := 100) (by decide +kernel)
end Go.Rex


open Go Go.Rex Go.Proofs
namespace Go.Rex
set_option maxRecDepth 100000
theorem pok198 : CallN Tryz.prog pc198 := piece_okN follows (tab := []) (tabN_nil) (k := 100000) (d := 100) (by decide +kernel)
end Go.Rex
