import Derived.Test.YtfcoffllelgakaaDoorOf
namespace Go.Proofs.YtfcoffllelgakaaDoor
open Go.RowKit
set_option linter.unusedVariables false
set_option linter.unusedSimpArgs false

theorem Box.set {w : World} {b : Nat} {x y : Value} (h : Box w b x y) (x' y' : Value) : Box ((w.setCell ⟨b, 0, none⟩ x').setCell ⟨b, 1, none⟩ y') b x' y' := by
  have h1 : (w.setCell ⟨b, 0, none⟩ x').cell? ⟨b, 1, none⟩ = some y := (World.cell?_setCell_other _ _ _ _ (by simp)).trans h.2.2
  refine ⟨by simpa [World.setCell] using h.1, ?_, ?_⟩
  · exact (World.cell?_setCell_other _ _ _ _ (by simp)).trans (World.cell?_setCell_same _ _ _ h.2.1)
  · exact World.cell?_setCell_same _ _ _ h1

end Go.Proofs.YtfcoffllelgakaaDoor
