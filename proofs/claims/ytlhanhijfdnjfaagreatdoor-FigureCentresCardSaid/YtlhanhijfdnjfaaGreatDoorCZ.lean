/- The closed examples are true. -/
import Derived.Test.YtlhanhijfdnjfaaGreatDoorCD
import Derived.Test.YtlhanhijfdnjfaaGreatDoorC1
import Derived.Test.YtlhanhijfdnjfaaGreatDoorC8
set_option linter.unusedSimpArgs false
set_option linter.unusedVariables false
set_option linter.defProp false
open Go Go.Rex Go.Proofs
namespace Go.Rex
set_option maxRecDepth 100000
theorem awake_true : AwT Tryz.prog 11 := awT_of_piecesN follows (tab := [pc311, pc15, pc281, pc284, pc312, pc304, pc313, pc310]) (tabN_cons pok311 (tabN_cons pok15 (tabN_cons pok281 (tabN_cons pok284 (tabN_cons pok312 (tabN_cons pok304 (tabN_cons pok313 (tabN_cons pok310 (tabN_nil))))))))) (k := 100000) (d := 100) (by decide +kernel)
end Go.Rex
