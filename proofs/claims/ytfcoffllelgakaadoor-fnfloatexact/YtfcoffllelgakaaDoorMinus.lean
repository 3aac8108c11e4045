import Derived.Test.YtfcoffllelgakaaDoorSub
import Derived.Test.YtfcoffllelgakaaDoorPrim
namespace Go.Proofs.YtfcoffllelgakaaDoor
open Go.RowKit
set_option linter.unusedVariables false
set_option linter.unusedSimpArgs false

theorem set_one (O : List Int) (d : Int) (m : Nat) : (O ++ List.replicate (m + 1) 0).set O.length d = (O ++ [d]) ++ List.replicate m 0 := by
  rw [List.set_append_right _ _ (Nat.le_refl _), Nat.sub_self, List.replicate_succ, List.set_cons_zero]
  simp

end Go.Proofs.YtfcoffllelgakaaDoor
