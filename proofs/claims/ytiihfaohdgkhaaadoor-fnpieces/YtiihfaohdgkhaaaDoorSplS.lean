import Derived.Test.YtiihfaohdgkhaaaDoorBaseS
import Derived.Test.YtiihfaohdgkhaaaDoorFndS
import Derived.Test.YtiihfaohdgkhaaaDoorRTok
import Derived.Lib.SplitLaws
import Derived.Lib.CountLaws
namespace Go.Proofs.YtiihfaohdgkhaaaDoor
open Go.RowKit Go.Lib
set_option linter.unusedVariables false
set_option linter.unusedSimpArgs false

/-- The pieces of a split. -/
def splitAll (s sep : ByteArray) : List ByteArray := splitB sep 0 (countB s sep) s
theorem indexB_eq (s sep : ByteArray) : indexB s sep = index s.data.toList sep.data.toList := rfl
theorem ext_ext (s : ByteArray) (a b : Nat) (h : a + b ≤ s.size) : (s.extract a s.size).extract b (s.extract a s.size).size = s.extract (a + b) s.size := by
  apply ByteArray.ext
  apply Array.toList_inj.1
  rw [Lib.extract_to_end, Lib.extract_to_end, Lib.extract_to_end, List.drop_drop]
theorem ext_pre (s : ByteArray) (a b : Nat) (h : a + b ≤ s.size) : (s.extract a s.size).extract 0 b = s.extract a (a + b) := by
  apply ByteArray.ext
  apply Array.toList_inj.1
  rw [ByteArray.data_extract, Array.toList_extract, Lib.extract_to_end, ByteArray.data_extract, Array.toList_extract]
  simp [List.extract_eq_take_drop]
theorem split_miss (s sep : ByteArray) (p : Nat) (hp : p ≤ s.size) (h : findFrom s sep p = -1) : splitAll (s.extract p s.size) sep = [s.extract p s.size] := by
  unfold splitAll
  refine splitB_miss _ _ _ _ ?_
  rw [indexB_eq, Lib.extract_to_end]
  unfold findFrom at h
  have := index_ge (s.data.toList.drop p) sep.data.toList
  split at h
  · omega
  · omega
theorem split_hit (s sep : ByteArray) (p i : Nat) (hp : p ≤ s.size) (h1 : 1 ≤ sep.size) (h : index (s.data.toList.drop p) sep.data.toList = (i : Int)) (hr : p + i + sep.size ≤ s.size) : splitAll (s.extract p s.size) sep = s.extract p (p + i) :: splitAll (s.extract (p + i + sep.size) s.size) sep := by
  unfold splitAll
  have hi : indexB (s.extract p s.size) sep = (i : Int) := by rw [indexB_eq, Lib.extract_to_end]; exact h
  rw [countB_hit _ _ i h1 hi, Nat.add_comm 1, splitB_hit _ _ _ _ i hi, Nat.add_zero, ext_pre s p i (by omega)]
  rw [show p + i + sep.size = p + (i + sep.size) by omega, ← ext_ext s p (i + sep.size) (by omega)]
theorem find_spec (s t : ByteArray) (p : Nat) (hp : p ≤ s.size) : findFrom s t p = -1 ∨ ∃ i : Nat, index (s.data.toList.drop p) t.data.toList = (i : Int) ∧ findFrom s t p = ((p + i : Nat) : Int) ∧ p + i + t.size ≤ s.size := by
  have hl : s.data.toList.length = s.size := (size_eq s).symm
  have ht : t.data.toList.length = t.size := (size_eq t).symm
  rcases index_spec (s.data.toList.drop p) t.data.toList with ⟨h, _⟩ | ⟨i, h, hi, ho, _⟩
  · left; unfold findFrom; rw [h]; rfl
  · right
    have hro := index_room (s.data.toList.drop p) t.data.toList (by rw [h]; omega)
    rw [h, List.length_drop] at hro
    refine ⟨i, h, ?_, by omega⟩
    unfold findFrom; rw [h, if_neg (by omega)]; omega
end Go.Proofs.YtiihfaohdgkhaaaDoor
