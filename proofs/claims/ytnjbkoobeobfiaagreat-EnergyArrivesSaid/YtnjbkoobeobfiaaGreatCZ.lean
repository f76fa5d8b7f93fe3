/- The closed examples are true. -/
import Derived.Test.YtnjbkoobeobfiaaGreatCD
import Derived.Test.YtnjbkoobeobfiaaGreatC1
set_option linter.unusedSimpArgs false
set_option linter.unusedVariables false
set_option linter.defProp false
open Go Go.Rex Go.Proofs
namespace Go.Rex
set_option maxRecDepth 100000
theorem awake_true : AwT Tryz.prog 9 := awT_of_pieces follows (tab := [pc2, pc0, pc3, pc4]) (tab_cons pok2 (tab_cons pok0 (tab_cons pok3 (tab_cons pok4 (tab_nil))))) (k := 100000) (d := 100) (by decide +kernel)
end Go.Rex
