/- The closed examples are true. -/
import Derived.Test.YthjoipggampleaaGreatCD
import Derived.Test.YthjoipggampleaaGreatC1
import Derived.Test.YthjoipggampleaaGreatC2
import Derived.Test.YthjoipggampleaaGreatC3
import Derived.Test.YthjoipggampleaaGreatC4
import Derived.Test.YthjoipggampleaaGreatC5
import Derived.Test.YthjoipggampleaaGreatC6
set_option linter.unusedSimpArgs false
set_option linter.unusedVariables false
set_option linter.defProp false
open Go Go.Rex Go.Proofs
namespace Go.Rex
set_option maxRecDepth 100000
theorem awake_true : AwT Tryz.prog 6 := awT_of_pieces follows (tab := [pc13, pc16, pc19, pc22, pc25, pc27, pc28, pc34, pc41, pc35, pc45, pc52, pc59, pc60, pc62, pc63, pc64, pc65, pc66, pc68, pc69, pc71, pc75, pc78, pc82, pc86, pc87, pc88, pc89, pc90, pc91, pc92, pc95, pc97, pc101, pc105, pc106, pc112, pc113, pc118, pc119, pc124, pc125]) (tab_cons pok13 (tab_cons pok16 (tab_cons pok19 (tab_cons pok22 (tab_cons pok25 (tab_cons pok27 (tab_cons pok28 (tab_cons pok34 (tab_cons pok41 (tab_cons pok35 (tab_cons pok45 (tab_cons pok52 (tab_cons pok59 (tab_cons pok60 (tab_cons pok62 (tab_cons pok63 (tab_cons pok64 (tab_cons pok65 (tab_cons pok66 (tab_cons pok68 (tab_cons pok69 (tab_cons pok71 (tab_cons pok75 (tab_cons pok78 (tab_cons pok82 (tab_cons pok86 (tab_cons pok87 (tab_cons pok88 (tab_cons pok89 (tab_cons pok90 (tab_cons pok91 (tab_cons pok92 (tab_cons pok95 (tab_cons pok97 (tab_cons pok101 (tab_cons pok105 (tab_cons pok106 (tab_cons pok112 (tab_cons pok113 (tab_cons pok118 (tab_cons pok119 (tab_cons pok124 (tab_cons pok125 (tab_nil)))))))))))))))))))))))))))))))))))))))))))) (k := 100000) (d := 100) (by decide +kernel)
end Go.Rex
