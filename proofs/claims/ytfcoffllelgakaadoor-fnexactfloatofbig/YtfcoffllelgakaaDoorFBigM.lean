import Derived.Test.YtfcoffllelgakaaDoorFCmp
import Derived.Test.YtfcoffllelgakaaDoorLFCmp
import Derived.Test.YtfcoffllelgakaaDoorDivM
import Derived.Test.YtfcoffllelgakaaDoorMDown
import Derived.Test.YtfcoffllelgakaaDoorFit
import Derived.Test.YtfcoffllelgakaaDoorCodeC
namespace Go.Proofs.YtfcoffllelgakaaDoor
open Go.RowKit
set_option linter.unusedVariables false
set_option linter.unusedSimpArgs false

/-- How far below 1 a float's unit lies. -/
def lowE : Nat := 1074
def lowP : Nat := 2 ^ lowE
theorem lowP_pos : 0 < lowP := Nat.two_pow_pos _
theorem fmag_lt (x : Nat) : fmag x < 9007199254740992 := by
  have : ffrac x < 4503599627370496 := Nat.mod_lt _ (by decide)
  unfold fmag
  split <;> omega
/-- The cell of the error of arguments. -/
def ErrA (w : World) (aA : Addr) : Prop := w.cell? ⟨0, 0, none⟩ = some (errAt aA)
theorem ErrA.below {w w' : World} {aA : Addr} (h : ErrA w aA) (hb : Below w.heap.size w w') : ErrA w' aA := (hb.cell (p := ⟨_, 0, none⟩) (cell_lt h)).trans h
end Go.Proofs.YtfcoffllelgakaaDoor
