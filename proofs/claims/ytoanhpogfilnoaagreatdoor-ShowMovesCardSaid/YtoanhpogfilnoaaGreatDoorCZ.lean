/- The closed examples are true. -/
import Derived.Test.YtoanhpogfilnoaaGreatDoorCD
import Derived.Test.YtoanhpogfilnoaaGreatDoorC1
set_option linter.unusedSimpArgs false
set_option linter.unusedVariables false
set_option linter.defProp false
open Go Go.Rex Go.Proofs
namespace Go.Rex
set_option maxRecDepth 100000
theorem awake_true : AwT Tryz.prog 6 := awT_of_piecesN follows (tab := [pc1, pc30, pc18, pc31, pc22, pc32, pc29]) (tabN_cons pok1 (tabN_cons pok30 (tabN_cons pok18 (tabN_cons pok31 (tabN_cons pok22 (tabN_cons pok32 (tabN_cons pok29 (tabN_nil)))))))) (k := 100000) (d := 100) (by decide +kernel)
end Go.Rex
