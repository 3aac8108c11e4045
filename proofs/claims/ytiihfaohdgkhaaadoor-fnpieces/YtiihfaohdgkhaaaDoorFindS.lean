import Derived.Test.YtiihfaohdgkhaaaDoorFndS
import Derived.Test.YtiihfaohdgkhaaaDoorEncP
import Derived.Test.YtiihfaohdgkhaaaDoorBaseI
import Derived.Test.YtiihfaohdgkhaaaDoorRuneB
import Derived.Laws.IdiomStrings
import Derived.Lib.IndexMore
namespace Go.Proofs.YtiihfaohdgkhaaaDoor
open Go.RowKit Go.Lib
set_option linter.unusedVariables false
set_option linter.unusedSimpArgs false

theorem heads_snoc (s : ByteArray) (k : Nat) (h : k < s.size) : heads (s.data.toList.take (k + 1)) = heads (s.data.toList.take k) + (if tailB (s.get! k) then 0 else 1) := by
  have hk : k < s.data.toList.length := by rw [← size_eq]; exact h
  unfold heads
  rw [List.take_succ_eq_append_getElem hk, List.countP_append]
  congr 1
  have e : s.data.toList[k] = s.get! k := by rw [← get_at s k h]; rfl
  rw [e]
  by_cases ht : tailB (s.get! k)
  · simp [ht]
  · simp [ht]
theorem heads_le (s : ByteArray) (k : Nat) : heads (s.data.toList.take k) ≤ k := by
  unfold heads
  exact Nat.le_trans List.countP_le_length (by simp; omega)
end Go.Proofs.YtiihfaohdgkhaaaDoor
