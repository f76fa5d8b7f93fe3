/-
  No cell of these rows narrows 'for every input' (looked for: loops, veiled, ifaces, maps, wideKeys, modest, calm, conditions, laid).
  DERIVED. THE GIVEN ROWS OF THIS SEAT. 4 by the template 'for every input the law returns true; each argument reads behind the call as it read before'; 0 by the template 'total and deterministic' (their statements: YtbodidihhbejmaaTotals.lean).
  GIVEN WITH THE SEED: the statements are not yours to turn. If you find one false, say at which input.
  Laid BY PROGRAM, IN A SANDBOX (cutbox-rows.mjs): the forced cells as the released guide's own fill.sh prints them over the translation df58ec34d8876713… (all of the seat's roots in one cut). By AI agents, Wed Nov 11 2026. No macro, syntax, notation, axiom, sorry.
-/
import Derived.Test.YtbodidihhbejmaaChecked
import GoSem.Claim
import GoSem.ClaimJoined
import GoSem.ClaimMapViews
import Derived.JoinedTies
import Derived.KernelRfl
namespace Go.Proofs.Ytbodidihhbejmaa
/- THE CELL 'sum', in the pinned program and in every row, IS THE sha256 OF THE DUMP (.gsa) THAT YtbodidihhbejmaaProg.lean LOADS. Nothing in Lean hashes anything: it is a label: what it is worth is what the hold of that sum in a sandbox is worth. -/
noncomputable def Try.pinned : Pinned := { name := "ytbodidihhbejmaa", sum := "df58ec34d887671362c23b08946c895cfd6dfd704d5bf51df74b91558ad51670", checked := Try.checked }
namespace Rows
def none {H : Type} : Left H := { results := [], args := [] }

/-- 'shoeboxlaw04.PulseExcites': WHATEVER THE INPUT: true; the input reads as it did. -/
def pulseExcitesSpec : ChangeSpec := { name := "pulseExcites", fn := fun _ => fun
  | [d1, d2, d3] => { results := [.lit (.bool true)], args := [d1, d2, d3] }
  | _ => none }
def pulseExcitesRow : OpenClaim := { program := "ytbodidihhbejmaa", sum := "df58ec34d887671362c23b08946c895cfd6dfd704d5bf51df74b91558ad51670", func := "shoebox/shoeboxlaw04.PulseExcites", spec := "pulseExcites", inPlace := ["math.archTrunc", "math.Float64bits", "math.Float64frombits"], unfollowed := true, recurses := true, apart := false }
def PulseExcitesSaid : Prop := pulseExcitesRow.holds Try.pinned (OpenSpec.ofChange pulseExcitesSpec)

/-- ITS FALSE NEIGHBOUR: 'it returns false'. Refute it at one input. -/
def pulseExcitesWrong : ChangeSpec := { name := "pulseExcites", fn := fun _ => fun
  | [d1, d2, d3] => { results := [.lit (.bool false)], args := [d1, d2, d3] }
  | _ => none }
def PulseExcitesWrongFalsely : Prop := pulseExcitesRow.holds Try.pinned (OpenSpec.ofChange pulseExcitesWrong)

/-- 'shoeboxlaw04.PulseSweeps': WHATEVER THE INPUT: true; the input reads as it did. -/
def pulseSweepsSpec : ChangeSpec := { name := "pulseSweeps", fn := fun _ => fun
  | [d1, d2] => { results := [.lit (.bool true)], args := [d1, d2] }
  | _ => none }
def pulseSweepsRow : OpenClaim := { program := "ytbodidihhbejmaa", sum := "df58ec34d887671362c23b08946c895cfd6dfd704d5bf51df74b91558ad51670", func := "shoebox/shoeboxlaw04.PulseSweeps", spec := "pulseSweeps", inPlace := ["math.archTrunc", "math.Float64bits", "math.Float64frombits"], unfollowed := true, recurses := true, apart := false }
def PulseSweepsSaid : Prop := pulseSweepsRow.holds Try.pinned (OpenSpec.ofChange pulseSweepsSpec)

/-- ITS FALSE NEIGHBOUR: 'it returns false'. Refute it at one input. -/
def pulseSweepsWrong : ChangeSpec := { name := "pulseSweeps", fn := fun _ => fun
  | [d1, d2] => { results := [.lit (.bool false)], args := [d1, d2] }
  | _ => none }
def PulseSweepsWrongFalsely : Prop := pulseSweepsRow.holds Try.pinned (OpenSpec.ofChange pulseSweepsWrong)

/-- 'shoeboxlaw04.PulseDivides': WHATEVER THE INPUT: true; the input reads as it did. -/
def pulseDividesSpec : ChangeSpec := { name := "pulseDivides", fn := fun _ => fun
  | [d1, d2, d3] => { results := [.lit (.bool true)], args := [d1, d2, d3] }
  | _ => none }
def pulseDividesRow : OpenClaim := { program := "ytbodidihhbejmaa", sum := "df58ec34d887671362c23b08946c895cfd6dfd704d5bf51df74b91558ad51670", func := "shoebox/shoeboxlaw04.PulseDivides", spec := "pulseDivides", inPlace := ["math.archTrunc", "math.Float64bits", "math.Float64frombits"], unfollowed := true, recurses := true, apart := false }
def PulseDividesSaid : Prop := pulseDividesRow.holds Try.pinned (OpenSpec.ofChange pulseDividesSpec)

/-- ITS FALSE NEIGHBOUR: 'it returns false'. Refute it at one input. -/
def pulseDividesWrong : ChangeSpec := { name := "pulseDivides", fn := fun _ => fun
  | [d1, d2, d3] => { results := [.lit (.bool false)], args := [d1, d2, d3] }
  | _ => none }
def PulseDividesWrongFalsely : Prop := pulseDividesRow.holds Try.pinned (OpenSpec.ofChange pulseDividesWrong)

/-- 'shoeboxlaw04.PulseTakes': WHATEVER THE INPUT: true; the input reads as it did. -/
def pulseTakesSpec : ChangeSpec := { name := "pulseTakes", fn := fun _ => fun
  | [d1, d2] => { results := [.lit (.bool true)], args := [d1, d2] }
  | _ => none }
def pulseTakesRow : OpenClaim := { program := "ytbodidihhbejmaa", sum := "df58ec34d887671362c23b08946c895cfd6dfd704d5bf51df74b91558ad51670", func := "shoebox/shoeboxlaw04.PulseTakes", spec := "pulseTakes", inPlace := ["math.archTrunc", "math.Float64bits", "math.Float64frombits", "math.Float32bits"], unfollowed := true, recurses := true, apart := false }
def PulseTakesSaid : Prop := pulseTakesRow.holds Try.pinned (OpenSpec.ofChange pulseTakesSpec)

/-- ITS FALSE NEIGHBOUR: 'it returns false'. Refute it at one input. -/
def pulseTakesWrong : ChangeSpec := { name := "pulseTakes", fn := fun _ => fun
  | [d1, d2] => { results := [.lit (.bool false)], args := [d1, d2] }
  | _ => none }
def PulseTakesWrongFalsely : Prop := pulseTakesRow.holds Try.pinned (OpenSpec.ofChange pulseTakesWrong)

/- THE SECOND FORM. 'bulk': how many values and letters a reading holds, each counted each time it is reached (what is shared counts as often as it is met; a slice's spare places count too). A statement '..UptoSaid' is the law's where the arguments, and the package variables that the reading takes, are together of bulk at most 1048576: NARROWER than '..Said'. Prove '..Said' where nothing that the law and all that it calls make is longer than what came in: it says more and counts as full. Else prove '..UptoSaid'. A law counts once. -/
mutual
def uptoBulk {H : Type} : DataW H → Nat
  | .lit (.string bytes) => bytes.length + 1
  | .lit _ => 1
  | .nil => 1
  | .ptr d => uptoBulk d + 1
  | .slice elems spare => uptoBulkAll elems + uptoBulkAll spare + 1
  | .agg parts => uptoBulkAll parts + 1
  | .iface _ d => uptoBulk d + 1
  | .map entries => uptoBulkEntries entries + 1
  | .held _ => 1
def uptoBulkAll {H : Type} : List (DataW H) → Nat
  | [] => 0
  | d :: r => uptoBulk d + uptoBulkAll r
def uptoBulkEntries {H : Type} : List (Lit × DataW H) → Nat
  | [] => 0
  | x :: r => uptoBulkEntry x + uptoBulkEntries r
def uptoBulkEntry {H : Type} : Lit × DataW H → Nat
  | (.string bytes, d) => bytes.length + uptoBulk d + 1
  | (_, d) => uptoBulk d + 1
 end
def uptoSmall : (H : Type) → List (DataW H) → Bool := fun _ ds => decide (uptoBulkAll ds ≤ 1048576)
def OpenSpec.upto (s : _root_.Go.ChangeSpec) : _root_.Go.OpenSpec := { _root_.Go.OpenSpec.ofChange s with cond := some uptoSmall }

/-- 'shoeboxlaw04.PulseExcites', WHERE WHAT IT READS IS OF BULK AT MOST 1048576: true; the input reads as it did. -/
def pulseExcitesUptoRow : OpenClaim := { program := "ytbodidihhbejmaa", sum := "df58ec34d887671362c23b08946c895cfd6dfd704d5bf51df74b91558ad51670", func := "shoebox/shoeboxlaw04.PulseExcites", spec := "pulseExcites", inPlace := ["math.archTrunc", "math.Float64bits", "math.Float64frombits"], unfollowed := true, recurses := true, apart := false, narrowed := true }
def PulseExcitesUptoSaid : Prop := pulseExcitesUptoRow.holds Try.pinned (OpenSpec.upto pulseExcitesSpec)

/-- 'shoeboxlaw04.PulseSweeps', WHERE WHAT IT READS IS OF BULK AT MOST 1048576: true; the input reads as it did. -/
def pulseSweepsUptoRow : OpenClaim := { program := "ytbodidihhbejmaa", sum := "df58ec34d887671362c23b08946c895cfd6dfd704d5bf51df74b91558ad51670", func := "shoebox/shoeboxlaw04.PulseSweeps", spec := "pulseSweeps", inPlace := ["math.archTrunc", "math.Float64bits", "math.Float64frombits"], unfollowed := true, recurses := true, apart := false, narrowed := true }
def PulseSweepsUptoSaid : Prop := pulseSweepsUptoRow.holds Try.pinned (OpenSpec.upto pulseSweepsSpec)

/-- 'shoeboxlaw04.PulseDivides', WHERE WHAT IT READS IS OF BULK AT MOST 1048576: true; the input reads as it did. -/
def pulseDividesUptoRow : OpenClaim := { program := "ytbodidihhbejmaa", sum := "df58ec34d887671362c23b08946c895cfd6dfd704d5bf51df74b91558ad51670", func := "shoebox/shoeboxlaw04.PulseDivides", spec := "pulseDivides", inPlace := ["math.archTrunc", "math.Float64bits", "math.Float64frombits"], unfollowed := true, recurses := true, apart := false, narrowed := true }
def PulseDividesUptoSaid : Prop := pulseDividesUptoRow.holds Try.pinned (OpenSpec.upto pulseDividesSpec)

/-- 'shoeboxlaw04.PulseTakes', WHERE WHAT IT READS IS OF BULK AT MOST 1048576: true; the input reads as it did. -/
def pulseTakesUptoRow : OpenClaim := { program := "ytbodidihhbejmaa", sum := "df58ec34d887671362c23b08946c895cfd6dfd704d5bf51df74b91558ad51670", func := "shoebox/shoeboxlaw04.PulseTakes", spec := "pulseTakes", inPlace := ["math.archTrunc", "math.Float64bits", "math.Float64frombits", "math.Float32bits"], unfollowed := true, recurses := true, apart := false, narrowed := true }
def PulseTakesUptoSaid : Prop := pulseTakesUptoRow.holds Try.pinned (OpenSpec.upto pulseTakesSpec)

end Rows
end Go.Proofs.Ytbodidihhbejmaa
