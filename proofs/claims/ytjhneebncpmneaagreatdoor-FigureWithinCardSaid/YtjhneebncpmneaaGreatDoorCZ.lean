/- The closed examples are true. -/
import Derived.Test.YtjhneebncpmneaaGreatDoorCD
import Derived.Test.YtjhneebncpmneaaGreatDoorC1
import Derived.Test.YtjhneebncpmneaaGreatDoorC5
import Derived.Test.YtjhneebncpmneaaGreatDoorC6
set_option linter.unusedSimpArgs false
set_option linter.unusedVariables false
set_option linter.defProp false
open Go Go.Rex Go.Proofs
namespace Go.Rex
set_option maxRecDepth 100000
theorem awake_true:AwT Tryz.prog 12 := Bf follows (tab := [pc3, pc215, pc1, pc195, pc197, pc209, pc214]) (aA pok3 (aA pok215 (aA pok1 (aA pok195 (aA pok197 (aA pok209 (aA pok214 (aC)))))))) (k := 100000) (d := 100) (by decide +kernel)
end Go.Rex
