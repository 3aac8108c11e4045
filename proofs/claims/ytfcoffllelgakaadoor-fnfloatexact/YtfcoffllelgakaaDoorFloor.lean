import Derived.Test.YtfcoffllelgakaaDoorMDown
import Derived.Test.YtfcoffllelgakaaDoorMgRN
import Derived.Test.YtfcoffllelgakaaDoorCmpR
import Derived.Test.YtfcoffllelgakaaDoorCut
import Derived.Deep.RegionHeld3
namespace Go.Proofs.YtfcoffllelgakaaDoor
open Go.RowKit
set_option linter.unusedVariables false
set_option linter.unusedSimpArgs false

theorem Unf.set {w : World} {b : Nat} (h : Unf w b) (a : Addr) (u : Value) : Unf (w.setCell a u) b := ⟨by simpa [World.setCell] using h.1, fun o => (World.frozen?_setCell _ _ _ _).trans (h.2 o)⟩
/-- The quotient toward below, and its rest, without their signs. -/
def flQ (p : Bool) (X : Nat) (t : Bool) (Y : Nat) : Nat := if p ≠ t ∧ X % Y ≠ 0 then X / Y + 1 else X / Y
end Go.Proofs.YtfcoffllelgakaaDoor
