import Derived.Test.YtfcoffllelgakaaDoorAdd
import Derived.Test.YtfcoffllelgakaaDoorPrim
import Derived.Deep.RegionHeld3
namespace Go.Proofs.YtfcoffllelgakaaDoor
open Go.RowKit
set_option linter.unusedVariables false
set_option linter.unusedSimpArgs false

theorem set_two (O : List Int) (c d e : Int) (m : Nat) : ((O ++ c :: List.replicate (m + 1) 0).set O.length d).set (O.length + 1) e = (O ++ [d]) ++ e :: List.replicate m 0 := by
  rw [List.set_append_right _ _ (Nat.le_refl _), Nat.sub_self, List.set_cons_zero, List.set_append_right _ _ (by omega)]
  simp [List.replicate_succ]

end Go.Proofs.YtfcoffllelgakaaDoor
