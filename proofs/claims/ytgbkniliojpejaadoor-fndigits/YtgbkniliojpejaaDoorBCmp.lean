import Derived.Test.YtgbkniliojpejaaDoorCmpR
import Derived.Test.YtgbkniliojpejaaDoorSum
import Derived.Test.YtgbkniliojpejaaDoorFit
import Derived.Test.YtgbkniliojpejaaDoorOk
import Derived.Deep.RegionHeld3
namespace Go.Proofs.YtgbkniliojpejaaDoor
open Go.RowKit
set_option linter.unusedVariables false
set_option linter.unusedSimpArgs false

end Go.Proofs.YtgbkniliojpejaaDoor
