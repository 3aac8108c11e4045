import Derived.Test.YtfcoffllelgakaaDoorNum
namespace Go.Proofs.YtfcoffllelgakaaDoor
open Go.RowKit
theorem lim_one : lim 1 = [1] := by rw [lim_pos (by omega)]; simp [lim_zero]
end Go.Proofs.YtfcoffllelgakaaDoor
