import Derived.Test.YtfoofbcfcekleaaGreatDoorRTok
import Derived.Test.YtfoofbcfcekleaaGreatDoorEncP
namespace Go.Proofs.YtfoofbcfcekleaaGreatDoor
open Go.RowKit Go.Lib
set_option linter.unusedVariables false

theorem text_iff {s : ByteArray} {rs : List Nat} : textOf s = some rs ↔ s.size ≤ 16384 ∧ s.data.toList = encs rs ∧ ∀ r ∈ rs, Scalar r := by
  unfold textOf
  by_cases h : s.size ≤ 16384
  · rw [if_pos h, runesOf_iff]; simp [h]
  · rw [if_neg h]; simp [h]
end Go.Proofs.YtfoofbcfcekleaaGreatDoor
