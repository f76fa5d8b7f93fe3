/- The closed examples are true. -/
import Derived.Test.YthjoipggampleaaGreatCD
import Derived.Test.YthjoipggampleaaGreatC1
import Derived.Test.YthjoipggampleaaGreatC2
import Derived.Test.YthjoipggampleaaGreatC3
set_option linter.unusedSimpArgs false
set_option linter.unusedVariables false
set_option linter.defProp false
open Go Go.Rex Go.Proofs
namespace Go.Rex
set_option maxRecDepth 100000
theorem awake_true : AwT Tryz.prog 6 := awT_of_pieces follows (tab := [pc0, pc37, pc38, pc39, pc40, pc1, pc2, pc41, pc42, pc6, pc7, pc43, pc44, pc45, pc46, pc47, pc48, pc49, pc13, pc14, pc50, pc51, pc20, pc22, pc52, pc53, pc54, pc55, pc56, pc57, pc58, pc30, pc59, pc33, pc60, pc36, pc61]) (tab_cons pok0 (tab_cons pok37 (tab_cons pok38 (tab_cons pok39 (tab_cons pok40 (tab_cons pok1 (tab_cons pok2 (tab_cons pok41 (tab_cons pok42 (tab_cons pok6 (tab_cons pok7 (tab_cons pok43 (tab_cons pok44 (tab_cons pok45 (tab_cons pok46 (tab_cons pok47 (tab_cons pok48 (tab_cons pok49 (tab_cons pok13 (tab_cons pok14 (tab_cons pok50 (tab_cons pok51 (tab_cons pok20 (tab_cons pok22 (tab_cons pok52 (tab_cons pok53 (tab_cons pok54 (tab_cons pok55 (tab_cons pok56 (tab_cons pok57 (tab_cons pok58 (tab_cons pok30 (tab_cons pok59 (tab_cons pok33 (tab_cons pok60 (tab_cons pok36 (tab_cons pok61 (tab_nil)))))))))))))))))))))))))))))))))))))) (k := 100000) (d := 100) (by decide +kernel)
end Go.Rex
