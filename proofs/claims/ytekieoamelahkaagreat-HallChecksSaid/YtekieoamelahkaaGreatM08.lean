/- Plain functions of the hall's geometry (whole numbers alone; no program). -/
set_option linter.unusedVariables false
set_option linter.unusedSimpArgs false
namespace Go.Proofs.YtekieoamelahkaaGreat

def offP (k a x y z d : Int) : Int :=
 (if k = 0 then x else if k = 1 then y else if k = 2 then z else if k = 3 then x + y else if k = 4 then x - y else 0) - a * d

def plK (ax ay bx bY : Int) : Int := if ax = bx then 0 else if ay = bY then 1 else if bx - ax = bY - ay then 4 else 3
def plA (ax ay bx bY : Int) : Int := if ax = bx then ax else if ay = bY then ay else if bx - ax = bY - ay then ax - ay else ax + ay

def spansB (ax ay bx bY x y d : Int) : Bool :=
 decide (min ax bx * d ≤ x) && decide (x ≤ max ax bx * d) && (decide (min ay bY * d ≤ y) && decide (y ≤ max ay bY * d))

end Go.Proofs.YtekieoamelahkaaGreat
