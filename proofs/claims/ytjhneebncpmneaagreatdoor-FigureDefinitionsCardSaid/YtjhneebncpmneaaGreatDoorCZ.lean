/- The closed examples are true. -/
import Derived.Test.YtjhneebncpmneaaGreatDoorCD
import Derived.Test.YtjhneebncpmneaaGreatDoorC1
import Derived.Test.YtjhneebncpmneaaGreatDoorC5
import Derived.Test.YtjhneebncpmneaaGreatDoorC6
set_option linter.unusedSimpArgs false
set_option linter.unusedVariables false
set_option linter.defProp false
open Go Go.Rex Go.Proofs
namespace Go.Rex
set_option maxRecDepth 100000
theorem awake_true : AwT Tryz.prog 12 := awT_of_piecesN follows (tab := [pc3, pc215, pc1, pc195, pc197, pc209, pc214]) (tabN_cons pok3 (tabN_cons pok215 (tabN_cons pok1 (tabN_cons pok195 (tabN_cons pok197 (tabN_cons pok209 (tabN_cons pok214 (tabN_nil)))))))) (k := 100000) (d := 100) (by decide +kernel)
end Go.Rex
