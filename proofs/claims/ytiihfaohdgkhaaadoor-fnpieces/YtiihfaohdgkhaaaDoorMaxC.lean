import Derived.Test.YtiihfaohdgkhaaaDoorLaidA
import Derived.Test.YtiihfaohdgkhaaaDoorBaseI
namespace Go.Proofs.YtiihfaohdgkhaaaDoor
open Go.RowKit Go.Lib Go.Shelf
set_option linter.unusedVariables false
set_option linter.unusedSimpArgs false

/-- The cell of a variable of the search holds some number. -/
def MaxL (w : World) : Prop := ∃ m, w.cell? ⟨Tryd.laysIndex_ren.g 1, 0, none⟩ = some (.int .i64 m)
theorem MaxL.below {w w' : World} (h : MaxL w) (hb : Below w.heap.size w w') : MaxL w' := by
  obtain ⟨m, hm⟩ := h
  refine ⟨m, (hb.cell (p := ⟨_, 0, none⟩) ?_).trans hm⟩
  rcases Nat.lt_or_ge (Tryd.laysIndex_ren.g 1) w.heap.size with h' | h'
  · exact h'
  · exfalso
    unfold World.cell? at hm
    simp [Array.getElem?_eq_none h'] at hm
end Go.Proofs.YtiihfaohdgkhaaaDoor
