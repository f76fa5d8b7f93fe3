/- The closed examples are true. -/
import Derived.Test.YtecehdbekkllfaaGreatDoorCD
import Derived.Test.YtecehdbekkllfaaGreatDoorC1
set_option linter.unusedSimpArgs false
set_option linter.unusedVariables false
set_option linter.defProp false
open Go Go.Rex Go.Proofs
namespace Go.Rex
set_option maxRecDepth 100000
theorem awake_true:AwT Tryz.prog 4:=qM follows (tab:=[pc1,pc4,pc16,pc17,pc18,pc19,pc26,pc25]) (aD pok1 (aD pok4 (aD pok16 (aD pok17 (aD pok18 (aD pok19 (aD pok26 (aD pok25 (aP))))))))) (k:=100000) (d:=100) (by decide +kernel)
end Go.Rex
