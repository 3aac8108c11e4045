import Derived.Test.YtgbkniliojpejaaDoorBrdS
import Derived.Deep.RegionHeld3
namespace Go.Proofs.YtgbkniliojpejaaDoor
open Go.RowKit
set_option linter.unusedVariables false
set_option linter.unusedSimpArgs false


end Go.Proofs.YtgbkniliojpejaaDoor
