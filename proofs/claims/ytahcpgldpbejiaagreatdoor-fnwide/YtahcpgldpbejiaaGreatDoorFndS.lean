import Derived.Test.YtahcpgldpbejiaaGreatDoorEncP
import Derived.Test.YtahcpgldpbejiaaGreatDoorBaseI
import Derived.Test.YtahcpgldpbejiaaGreatDoorRuneB
import Derived.Laws.IdiomStrings
import Derived.Lib.IndexMore
namespace Go.Proofs.YtahcpgldpbejiaaGreatDoor
open Go.RowKit Go.Lib
set_option linter.unusedVariables false
set_option linter.unusedSimpArgs false

theorem wrap_id' {a : Int} (h0 : 0 ≤ a) (h1 : a < 9223372036854775808) : IntKind.i64.wrap a = a := by
  simp [IntKind.wrap, IntKind.bits, IntKind.signed]; omega
/-- Where sub stands in s, not below p. -/
def findFrom (s sub : ByteArray) (p : Nat) : Int := if index (s.data.toList.drop p) sub.data.toList < 0 then -1 else index (s.data.toList.drop p) sub.data.toList + p
theorem extract_eq_iff (s t : ByteArray) (k : Nat) (h : k + t.size ≤ s.size) : s.extract k (k + t.size) = t ↔ occAt s.data.toList t.data.toList k = true := by
  have e : (s.extract k (k + t.size)).data.toList = (s.data.toList.drop k).take t.data.toList.length := by
    rw [ByteArray.data_extract, Array.toList_extract, ← size_eq]
    simp [List.extract_eq_take_drop]
  unfold occAt
  rw [List.isPrefixOf_iff_prefix, List.prefix_iff_eq_take, ← e]
  constructor
  · intro h1; rw [h1]
  · intro h1
    apply ByteArray.ext
    exact Array.toList_inj.1 h1.symm
theorem findFrom_here (s t : ByteArray) (p k : Nat) (hp : p ≤ k) (hk : k ≤ s.size) (hn : ∀ j, p ≤ j → j < k → occAt s.data.toList t.data.toList j = false) (ho : occAt s.data.toList t.data.toList k = true) : findFrom s t p = (k : Int) := by
  have hl : s.data.toList.length = s.size := (size_eq s).symm
  have hi : index (s.data.toList.drop p) t.data.toList = ((k - p : Nat) : Int) := by
    refine index_hit (fun j hj => ?_) (by simp; omega) ?_
    · have := hn (p + j) (by omega) (by omega)
      unfold occAt at this ⊢
      rw [List.drop_drop]; exact this
    · unfold occAt at ho ⊢
      rw [List.drop_drop, show p + (k - p) = k by omega]; exact ho
  unfold findFrom
  rw [hi, if_neg (by omega)]; omega
theorem occAt_room {s t : List UInt8} {k : Nat} (h : occAt s t k = true) : t.length + k ≤ s.length ∨ t.length = 0 := by
  unfold occAt at h
  rw [List.isPrefixOf_iff_prefix] at h
  have := h.length_le
  rw [List.length_drop] at this
  omega
theorem findFrom_none (s t : ByteArray) (p k : Nat) (hk : ¬ k + t.size ≤ s.size) (hp : p ≤ s.size) (hpk : p ≤ k) (hn : ∀ j, p ≤ j → j < k → occAt s.data.toList t.data.toList j = false) : findFrom s t p = -1 := by
  have hl : s.data.toList.length = s.size := (size_eq s).symm
  have ht : t.data.toList.length = t.size := (size_eq t).symm
  have hi : index (s.data.toList.drop p) t.data.toList = -1 := by
    refine index_none (fun j hj => ?_)
    rw [List.length_drop] at hj
    have : occAt (s.data.toList.drop p) t.data.toList j = occAt s.data.toList t.data.toList (p + j) := by unfold occAt; rw [List.drop_drop]
    rw [this]
    by_cases h : p + j < k
    · exact hn _ (by omega) h
    · cases ho : occAt s.data.toList t.data.toList (p + j) with
      | false => rfl
      | true =>
        exfalso
        rcases occAt_room ho with h1 | h1
        · omega
        · omega
  unfold findFrom
  rw [hi]; rfl
end Go.Proofs.YtahcpgldpbejiaaGreatDoor
