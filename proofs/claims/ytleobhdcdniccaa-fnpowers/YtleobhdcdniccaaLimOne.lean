import Derived.Test.YtleobhdcdniccaaNum
namespace Go.Proofs.Ytleobhdcdniccaa
open Go.RowKit
theorem lim_one : lim 1 = [1] := by rw [lim_pos (by omega)]; simp [lim_zero]
end Go.Proofs.Ytleobhdcdniccaa
