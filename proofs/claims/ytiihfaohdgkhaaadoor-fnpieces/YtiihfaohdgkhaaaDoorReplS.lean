import Derived.Test.YtiihfaohdgkhaaaDoorJoinS
import Derived.Test.YtiihfaohdgkhaaaDoorSplS
namespace Go.Proofs.YtiihfaohdgkhaaaDoor
open Go.RowKit Go.Lib
set_option linter.unusedVariables false
set_option linter.unusedSimpArgs false

/-- What the two replacings answer. -/
def replAns (s old by_ : ByteArray) : List UInt8 × Int :=
  if (textOf s).isSome = true ∧ (textOf old).isSome = true ∧ old.size ≠ 0 ∧ (textOf by_).isSome = true then fitJoin by_ (splitAll s old) else ([], 1)
theorem empty_of {s : ByteArray} (h : s.size = 0) : s = ⟨#[]⟩ := by
  obtain ⟨⟨l⟩⟩ := s
  cases l with
  | nil => rfl
  | cons a b => cases h
theorem full_of {s : ByteArray} (h : s.size ≠ 0) : s.toList.isEmpty = false := by
  rw [Lib.toList_data]
  cases hl : s.data.toList with
  | nil => exact absurd (by rw [Lib.size_eq, hl]; rfl) h
  | cons _ _ => rfl
theorem split_fits (s sep : ByteArray) : ∀ z ∈ splitAll s sep, z.size ≤ s.size := by
  have : ∀ k s, ∀ z ∈ splitB sep 0 k s, z.size ≤ s.size := by
    intro k
    induction k with
    | zero => intro s z hz; simp [splitB] at hz; rw [hz]; exact Nat.le_refl _
    | succ k ih =>
      intro s z hz
      unfold splitB at hz
      split at hz
      · simp at hz; rw [hz]; exact Nat.le_refl _
      · rcases List.mem_cons.1 hz with rfl | hz
        · rw [ByteArray.size_extract]; omega
        · have := ih _ z hz
          rw [ByteArray.size_extract] at this; omega
  exact this _ _
end Go.Proofs.YtiihfaohdgkhaaaDoor
