import Derived.Test.YtfcoffllelgakaaDoorNrQ
import Derived.Test.YtfcoffllelgakaaDoorSum
import Derived.Test.YtfcoffllelgakaaDoorCmpR
import Derived.Deep.RegionHeld3
import Derived.Test.YtfcoffllelgakaaDoorLimOne
import Derived.Test.YtfcoffllelgakaaDoorFloor
namespace Go.Proofs.YtfcoffllelgakaaDoor
open Go.RowKit
set_option linter.unusedVariables false
set_option linter.unusedSimpArgs false

/-- What l2FloorOf answers. -/
def flF (x : Nat) : Nat := flQ (nz (fneg x) (fu x)) (fu x) false lowP
def flV (x : Nat) : Nat := if (isN x || isI x) = true then x else rndV (nz (nz (fneg x) (fu x)) (flF x)) (flF x) 1
end Go.Proofs.YtfcoffllelgakaaDoor
