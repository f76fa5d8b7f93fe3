/- The closed examples are true. -/
import Derived.Test.YtkdhkfaakklhaaaGreatCD
import Derived.Test.YtkdhkfaakklhaaaGreatC1
import Derived.Test.YtkdhkfaakklhaaaGreatC2
set_option linter.unusedSimpArgs false
set_option linter.unusedVariables false
set_option linter.defProp false
open Go Go.Rex Go.Proofs
namespace Go.Rex
set_option maxRecDepth 100000
theorem awake_true : AwT Tryz.prog 4 := awT_of_piecesN follows (tab := [pc62, pc18, pc64, pc51, pc61]) (tabN_cons pok62 (tabN_cons pok18 (tabN_cons pok64 (tabN_cons pok51 (tabN_cons pok61 (tabN_nil)))))) (k := 100000) (d := 100) (by decide +kernel)
end Go.Rex
