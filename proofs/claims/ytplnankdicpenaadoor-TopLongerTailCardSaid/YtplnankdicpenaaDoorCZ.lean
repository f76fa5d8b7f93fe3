/- The closed examples are true. -/
import Derived.Test.YtplnankdicpenaaDoorCD
import Derived.Test.YtplnankdicpenaaDoorC1
set_option linter.unusedSimpArgs false
set_option linter.unusedVariables false
set_option linter.defProp false
open Go Go.Rex Go.Proofs
namespace Go.Rex
set_option maxRecDepth 100000
theorem awake_true : AwT Tryd.prog 4 := awT_of_piecesN follows (tab := [pc1, pc19, pc22]) (tabN_cons pok1 (tabN_cons pok19 (tabN_cons pok22 (tabN_nil)))) (k := 100000) (d := 100) (by decide +kernel)
end Go.Rex
