/- The closed examples are true. -/
import Derived.Test.YtpjccpokiaefjaaGreatDoorCD
import Derived.Test.YtpjccpokiaefjaaGreatDoorC1
import Derived.Test.YtpjccpokiaefjaaGreatDoorC5
set_option linter.unusedSimpArgs false
set_option linter.unusedVariables false
set_option linter.defProp false
open Go Go.Rex Go.Proofs
namespace Go.Rex
set_option maxRecDepth 100000
theorem awake_true : AwT Tryz.prog 11 := awT_of_piecesN follows (tab := [pc189, pc5, pc190, pc184, pc187, pc191]) (tabN_cons pok189 (tabN_cons pok5 (tabN_cons pok190 (tabN_cons pok184 (tabN_cons pok187 (tabN_cons pok191 (tabN_nil))))))) (k := 100000) (d := 100) (by decide +kernel)
end Go.Rex
