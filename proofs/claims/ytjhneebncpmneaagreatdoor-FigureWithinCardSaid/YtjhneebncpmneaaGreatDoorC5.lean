/- Calls of the closed examples are as told. -/
import Derived.Test.YtjhneebncpmneaaGreatDoorCD
import Derived.Test.YtjhneebncpmneaaGreatDoorC1
import Derived.Test.YtjhneebncpmneaaGreatDoorC2
import Derived.Test.YtjhneebncpmneaaGreatDoorC3
import Derived.Test.YtjhneebncpmneaaGreatDoorC4
set_option linter.unusedSimpArgs false
set_option linter.unusedVariables false
set_option linter.defProp false
open Go Go.Rex Go.Proofs
namespace Go.Rex
set_option maxRecDepth 100000
theorem pok159:aD Tryz.prog pc159 := aB follows (tab := []) (aC) (k := 100000) (d := 100) (by decide +kernel)
end Go.Rex
open Go Go.Rex Go.Proofs
namespace Go.Rex
set_option maxRecDepth 100000
theorem pok160:aD Tryz.prog pc160 := aB follows (tab := []) (aC) (k := 100000) (d := 100) (by decide +kernel)
end Go.Rex
open Go Go.Rex Go.Proofs
namespace Go.Rex
set_option maxRecDepth 100000
theorem pok161:aD Tryz.prog pc161 := aB follows (tab := []) (aC) (k := 100000) (d := 100) (by decide +kernel)
end Go.Rex
open Go Go.Rex Go.Proofs
namespace Go.Rex
set_option maxRecDepth 100000
theorem pok162:aD Tryz.prog pc162 := aB follows (tab := []) (aC) (k := 100000) (d := 100) (by decide +kernel)
end Go.Rex
open Go Go.Rex Go.Proofs
namespace Go.Rex
set_option maxRecDepth 100000
theorem pok163:aD Tryz.prog pc163 := aB follows (tab := []) (aC) (k := 100000) (d := 100) (by decide +kernel)
end Go.Rex
open Go Go.Rex Go.Proofs
namespace Go.Rex
set_option maxRecDepth 100000
theorem pok164:aD Tryz.prog pc164 := aB follows (tab := []) (aC) (k := 100000) (d := 100) (by decide +kernel)
end Go.Rex
open Go Go.Rex Go.Proofs
namespace Go.Rex
set_option maxRecDepth 100000
theorem pok165:aD Tryz.prog pc165 := aB follows (tab := []) (aC) (k := 100000) (d := 100) (by decide +kernel)
end Go.Rex
open Go Go.Rex Go.Proofs
namespace Go.Rex
set_option maxRecDepth 100000
theorem pok166:aD Tryz.prog pc166 := aB follows (tab := []) (aC) (k := 100000) (d := 100) (by decide +kernel)
end Go.Rex
open Go Go.Rex Go.Proofs
namespace Go.Rex
set_option maxRecDepth 100000
theorem pok167:aD Tryz.prog pc167 := aB follows (tab := []) (aC) (k := 100000) (d := 100) (by decide +kernel)
end Go.Rex
open Go Go.Rex Go.Proofs
namespace Go.Rex
set_option maxRecDepth 100000
theorem pok168:aD Tryz.prog pc168 := aB follows (tab := []) (aC) (k := 100000) (d := 100) (by decide +kernel)
end Go.Rex
open Go Go.Rex Go.Proofs
namespace Go.Rex
set_option maxRecDepth 100000
theorem pok169:aD Tryz.prog pc169 := aB follows (tab := []) (aC) (k := 100000) (d := 100) (by decide +kernel)
end Go.Rex
open Go Go.Rex Go.Proofs
namespace Go.Rex
set_option maxRecDepth 100000
theorem pok170:aD Tryz.prog pc170 := aB follows (tab := []) (aC) (k := 100000) (d := 100) (by decide +kernel)
end Go.Rex
open Go Go.Rex Go.Proofs
namespace Go.Rex
set_option maxRecDepth 100000
theorem pok171:aD Tryz.prog pc171 := aB follows (tab := []) (aC) (k := 100000) (d := 100) (by decide +kernel)
end Go.Rex
open Go Go.Rex Go.Proofs
namespace Go.Rex
set_option maxRecDepth 100000
theorem pok172:aD Tryz.prog pc172 := aB follows (tab := []) (aC) (k := 100000) (d := 100) (by decide +kernel)
end Go.Rex
open Go Go.Rex Go.Proofs
namespace Go.Rex
set_option maxRecDepth 100000
theorem pok173:aD Tryz.prog pc173 := aB follows (tab := []) (aC) (k := 100000) (d := 100) (by decide +kernel)
end Go.Rex
open Go Go.Rex Go.Proofs
namespace Go.Rex
set_option maxRecDepth 100000
theorem pok174:aD Tryz.prog pc174 := aB follows (tab := []) (aC) (k := 100000) (d := 100) (by decide +kernel)
end Go.Rex
open Go Go.Rex Go.Proofs
namespace Go.Rex
set_option maxRecDepth 100000
theorem pok175:aD Tryz.prog pc175 := aB follows (tab := []) (aC) (k := 100000) (d := 100) (by decide +kernel)
end Go.Rex
open Go Go.Rex Go.Proofs
namespace Go.Rex
set_option maxRecDepth 100000
theorem pok176:aD Tryz.prog pc176 := aB follows (tab := []) (aC) (k := 100000) (d := 100) (by decide +kernel)
end Go.Rex
open Go Go.Rex Go.Proofs
namespace Go.Rex
set_option maxRecDepth 100000
theorem pok177:aD Tryz.prog pc177 := aB follows (tab := []) (aC) (k := 100000) (d := 100) (by decide +kernel)
end Go.Rex
open Go Go.Rex Go.Proofs
namespace Go.Rex
set_option maxRecDepth 100000
theorem pok178:aD Tryz.prog pc178 := aB follows (tab := []) (aC) (k := 100000) (d := 100) (by decide +kernel)
end Go.Rex
open Go Go.Rex Go.Proofs
namespace Go.Rex
set_option maxRecDepth 100000
theorem pok179:aD Tryz.prog pc179 := aB follows (tab := []) (aC) (k := 100000) (d := 100) (by decide +kernel)
end Go.Rex
open Go Go.Rex Go.Proofs
namespace Go.Rex
set_option maxRecDepth 100000
theorem pok180:aD Tryz.prog pc180 := aB follows (tab := []) (aC) (k := 100000) (d := 100) (by decide +kernel)
end Go.Rex
open Go Go.Rex Go.Proofs
namespace Go.Rex
set_option maxRecDepth 100000
theorem pok181:aD Tryz.prog pc181 := aB follows (tab := []) (aC) (k := 100000) (d := 100) (by decide +kernel)
end Go.Rex
open Go Go.Rex Go.Proofs
namespace Go.Rex
set_option maxRecDepth 100000
theorem pok182:aD Tryz.prog pc182 := aB follows (tab := []) (aC) (k := 100000) (d := 100) (by decide +kernel)
end Go.Rex
open Go Go.Rex Go.Proofs
namespace Go.Rex
set_option maxRecDepth 100000
theorem pok183:aD Tryz.prog pc183 := aB follows (tab := []) (aC) (k := 100000) (d := 100) (by decide +kernel)
end Go.Rex
open Go Go.Rex Go.Proofs
namespace Go.Rex
set_option maxRecDepth 100000
theorem pok184:aD Tryz.prog pc184 := aB follows (tab := []) (aC) (k := 100000) (d := 100) (by decide +kernel)
end Go.Rex
open Go Go.Rex Go.Proofs
namespace Go.Rex
set_option maxRecDepth 100000
theorem pok185:aD Tryz.prog pc185 := aB follows (tab := []) (aC) (k := 100000) (d := 100) (by decide +kernel)
end Go.Rex
open Go Go.Rex Go.Proofs
namespace Go.Rex
set_option maxRecDepth 100000
theorem pok186:aD Tryz.prog pc186 := aB follows (tab := []) (aC) (k := 100000) (d := 100) (by decide +kernel)
end Go.Rex
open Go Go.Rex Go.Proofs
namespace Go.Rex
set_option maxRecDepth 100000
theorem pok187:aD Tryz.prog pc187 := aB follows (tab := []) (aC) (k := 100000) (d := 100) (by decide +kernel)
end Go.Rex
open Go Go.Rex Go.Proofs
namespace Go.Rex
set_option maxRecDepth 100000
theorem pok188:aD Tryz.prog pc188 := aB follows (tab := []) (aC) (k := 100000) (d := 100) (by decide +kernel)
end Go.Rex
open Go Go.Rex Go.Proofs
namespace Go.Rex
set_option maxRecDepth 100000
theorem pok189:aD Tryz.prog pc189 := aB follows (tab := []) (aC) (k := 100000) (d := 100) (by decide +kernel)
end Go.Rex
open Go Go.Rex Go.Proofs
namespace Go.Rex
set_option maxRecDepth 100000
theorem pok190:aD Tryz.prog pc190 := aB follows (tab := []) (aC) (k := 100000) (d := 100) (by decide +kernel)
end Go.Rex
open Go Go.Rex Go.Proofs
namespace Go.Rex
set_option maxRecDepth 100000
theorem pok191:aD Tryz.prog pc191 := aB follows (tab := []) (aC) (k := 100000) (d := 100) (by decide +kernel)
end Go.Rex
open Go Go.Rex Go.Proofs
namespace Go.Rex
set_option maxRecDepth 100000
theorem pok192:aD Tryz.prog pc192 := aB follows (tab := []) (aC) (k := 100000) (d := 100) (by decide +kernel)
end Go.Rex
open Go Go.Rex Go.Proofs
namespace Go.Rex
set_option maxRecDepth 100000
theorem pok193:aD Tryz.prog pc193 := aB follows (tab := []) (aC) (k := 100000) (d := 100) (by decide +kernel)
end Go.Rex
open Go Go.Rex Go.Proofs
namespace Go.Rex
set_option maxRecDepth 100000
theorem pok194:aD Tryz.prog pc194 := aB follows (tab := [pc9, pc10, pc11, pc12, pc13, pc15, pc16, pc17, pc18, pc19, pc20, pc21, pc22, pc23, pc24, pc25, pc26, pc27, pc28, pc29, pc30, pc31, pc32, pc33, pc34, pc35, pc36, pc37, pc38, pc39, pc40, pc41, pc42, pc43, pc44, pc45, pc46, pc47, pc48, pc49, pc50, pc51, pc52, pc53, pc54, pc55, pc56, pc57, pc58, pc59, pc60, pc61, pc62, pc63, pc64, pc65, pc66, pc67, pc68, pc69, pc70, pc71, pc72, pc73, pc74, pc75, pc76, pc77, pc78, pc79, pc80, pc81, pc82, pc83, pc84, pc85, pc86, pc87, pc88, pc89, pc90, pc91, pc92, pc93, pc94, pc95, pc96, pc97, pc98, pc99, pc100, pc101, pc102, pc103, pc104, pc105, pc106, pc107, pc108, pc109, pc110, pc111, pc112, pc113, pc114, pc115, pc116, pc117, pc119, pc120, pc121, pc122, pc123, pc124, pc125, pc126, pc127, pc128, pc129, pc130, pc131, pc132, pc133, pc134, pc135, pc136, pc137, pc138, pc139, pc140, pc141, pc142, pc143, pc144, pc145, pc146, pc147, pc148, pc149, pc150, pc151, pc152, pc153, pc154, pc155, pc156, pc157, pc158, pc159, pc160, pc161, pc162, pc163, pc164, pc165, pc166, pc167, pc168, pc169, pc170, pc171, pc172, pc173, pc174, pc175, pc176, pc177, pc178, pc179, pc180, pc181, pc182, pc183, pc184, pc185, pc186, pc187, pc188, pc189, pc190, pc191, pc192, pc193]) (aA pok9 (aA pok10 (aA pok11 (aA pok12 (aA pok13 (aA pok15 (aA pok16 (aA pok17 (aA pok18 (aA pok19 (aA pok20 (aA pok21 (aA pok22 (aA pok23 (aA pok24 (aA pok25 (aA pok26 (aA pok27 (aA pok28 (aA pok29 (aA pok30 (aA pok31 (aA pok32 (aA pok33 (aA pok34 (aA pok35 (aA pok36 (aA pok37 (aA pok38 (aA pok39 (aA pok40 (aA pok41 (aA pok42 (aA pok43 (aA pok44 (aA pok45 (aA pok46 (aA pok47 (aA pok48 (aA pok49 (aA pok50 (aA pok51 (aA pok52 (aA pok53 (aA pok54 (aA pok55 (aA pok56 (aA pok57 (aA pok58 (aA pok59 (aA pok60 (aA pok61 (aA pok62 (aA pok63 (aA pok64 (aA pok65 (aA pok66 (aA pok67 (aA pok68 (aA pok69 (aA pok70 (aA pok71 (aA pok72 (aA pok73 (aA pok74 (aA pok75 (aA pok76 (aA pok77 (aA pok78 (aA pok79 (aA pok80 (aA pok81 (aA pok82 (aA pok83 (aA pok84 (aA pok85 (aA pok86 (aA pok87 (aA pok88 (aA pok89 (aA pok90 (aA pok91 (aA pok92 (aA pok93 (aA pok94 (aA pok95 (aA pok96 (aA pok97 (aA pok98 (aA pok99 (aA pok100 (aA pok101 (aA pok102 (aA pok103 (aA pok104 (aA pok105 (aA pok106 (aA pok107 (aA pok108 (aA pok109 (aA pok110 (aA pok111 (aA pok112 (aA pok113 (aA pok114 (aA pok115 (aA pok116 (aA pok117 (aA pok119 (aA pok120 (aA pok121 (aA pok122 (aA pok123 (aA pok124 (aA pok125 (aA pok126 (aA pok127 (aA pok128 (aA pok129 (aA pok130 (aA pok131 (aA pok132 (aA pok133 (aA pok134 (aA pok135 (aA pok136 (aA pok137 (aA pok138 (aA pok139 (aA pok140 (aA pok141 (aA pok142 (aA pok143 (aA pok144 (aA pok145 (aA pok146 (aA pok147 (aA pok148 (aA pok149 (aA pok150 (aA pok151 (aA pok152 (aA pok153 (aA pok154 (aA pok155 (aA pok156 (aA pok157 (aA pok158 (aA pok159 (aA pok160 (aA pok161 (aA pok162 (aA pok163 (aA pok164 (aA pok165 (aA pok166 (aA pok167 (aA pok168 (aA pok169 (aA pok170 (aA pok171 (aA pok172 (aA pok173 (aA pok174 (aA pok175 (aA pok176 (aA pok177 (aA pok178 (aA pok179 (aA pok180 (aA pok181 (aA pok182 (aA pok183 (aA pok184 (aA pok185 (aA pok186 (aA pok187 (aA pok188 (aA pok189 (aA pok190 (aA pok191 (aA pok192 (aA pok193 (aC)))))))))))))))))))))))))))))))))))))))))))))))))))))))))))))))))))))))))))))))))))))))))))))))))))))))))))))))))))))))))))))))))))))))))))))))))))))))))))))))))))))))))))))))))))))))) (k := 100000) (d := 100) (by decide +kernel)
end Go.Rex
open Go Go.Rex Go.Proofs
namespace Go.Rex
set_option maxRecDepth 100000
theorem pok195:aD Tryz.prog pc195 := aB follows (tab := [pc2, pc194]) (aA pok2 (aA pok194 (aC))) (k := 100000) (d := 100) (by decide +kernel)
end Go.Rex
open Go Go.Rex Go.Proofs
namespace Go.Rex
set_option maxRecDepth 100000
theorem pok196:aD Tryz.prog pc196 := aB follows (tab := []) (aC) (k := 100000) (d := 100) (by decide +kernel)
end Go.Rex
open Go Go.Rex Go.Proofs
namespace Go.Rex
set_option maxRecDepth 100000
theorem pok197:aD Tryz.prog pc197 := aB follows (tab := [pc1, pc2, pc196]) (aA pok1 (aA pok2 (aA pok196 (aC)))) (k := 100000) (d := 100) (by decide +kernel)
end Go.Rex
open Go Go.Rex Go.Proofs
namespace Go.Rex
set_option maxRecDepth 100000
theorem pok198:aD Tryz.prog pc198 := aB follows (tab := []) (aC) (k := 100000) (d := 100) (by decide +kernel)
end Go.Rex
