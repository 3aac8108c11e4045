import Derived.Test.YtfcoffllelgakaaDoorFBigM
namespace Go.Proofs.YtfcoffllelgakaaDoor
open Go.RowKit
set_option linter.unusedVariables false
set_option linter.unusedSimpArgs false

theorem fb_bad {x : Nat} (hb : fbad x = true) : fbS x = false ∧ fbL x = [] ∧ fbC x = 1 := by
  unfold fbS fbL fbC; rw [hb]; exact ⟨rfl, rfl, rfl⟩
theorem fb_good {x : Nat} (hb : fbad x = false) : fbS x = nz (fneg x) (fq x) ∧ fbL x = lim (fq x) ∧ fbC x = 0 := by
  unfold fbS fbL fbC; rw [hb]; exact ⟨rfl, rfl, rfl⟩
end Go.Proofs.YtfcoffllelgakaaDoor
