import Derived.Test.YtiihfaohdgkhaaaDoorFindI
import Derived.Test.YtiihfaohdgkhaaaDoorPutS
namespace Go.Proofs.YtiihfaohdgkhaaaDoor
open Go.RowKit Go.Lib Go.Shelf
set_option linter.unusedVariables false
set_option linter.unusedSimpArgs false

/-- What TextFind answers. -/
def findAns (s t : ByteArray) (fr : Int) : Int :=
  match textOf s with
  | none => -1
  | some rs => if (textOf t).isSome = true ∧ fr ≤ (rs.length : Int) then (if findFrom s t (offOf rs fr.toNat) < 0 then -1 else (heads (s.data.toList.take (findFrom s t (offOf rs fr.toNat)).toNat) : Int)) else -1
theorem take_extract (s : ByteArray) (k : Nat) : (s.extract 0 k).data.toList = s.data.toList.take k := by
  rw [ByteArray.data_extract, Array.toList_extract]
  simp [List.extract_eq_take_drop]
theorem findFrom_spec (s t : ByteArray) (p : Nat) (hp : p ≤ s.size) : findFrom s t p = -1 ∨ ∃ i : Nat, index (s.data.toList.drop p) t.data.toList = (i : Int) ∧ findFrom s t p = ((p + i : Nat) : Int) ∧ p + i + t.size ≤ s.size ∧ occAt s.data.toList t.data.toList (p + i) = true := by
  have hl : s.data.toList.length = s.size := (size_eq s).symm
  have ht : t.data.toList.length = t.size := (size_eq t).symm
  rcases index_spec (s.data.toList.drop p) t.data.toList with ⟨h, _⟩ | ⟨i, h, hi, ho, _⟩
  · left; unfold findFrom; rw [h]; rfl
  · right
    have hro := index_room (s.data.toList.drop p) t.data.toList (by rw [h]; omega)
    rw [h, List.length_drop] at hro
    refine ⟨i, h, ?_, by omega, ?_⟩
    · unfold findFrom; rw [h, if_neg (by omega)]; omega
    · unfold occAt at ho ⊢; rw [List.drop_drop] at ho; exact ho
theorem find_boundary {s t : ByteArray} {rs ts : List Nat} {n : Nat} (hs : textOf s = some rs) (ht : textOf t = some ts) (hn : n ≤ rs.length) {q : Nat} (hq : findFrom s t (offOf rs n) = (q : Int)) :
    ∃ m, m ≤ rs.length ∧ q = offOf rs m := by
  obtain ⟨hs1, hs2, hs3⟩ := text_iff.1 hs
  obtain ⟨ht1, ht2, ht3⟩ := text_iff.1 ht
  have hsz : (encs rs).length = s.size := by rw [← hs2, ← size_eq]
  rcases findFrom_spec s t (offOf rs n) (by rw [← hsz]; exact offOf_le rs n) with h | ⟨i, h1, h2, h3, h4⟩
  · rw [h] at hq; omega
  · rw [h2] at hq
    obtain rfl : offOf rs n + i = q := by omega
    cases ts with
    | nil =>
      rw [ht2, encs_nil, index_empty] at h1
      exact ⟨n, hn, by omega⟩
    | cons r ts =>
      obtain ⟨b, tl, e, hb, _⟩ := enc_shape r (ht3 r (.head _))
      have hhd : s.data.toList[offOf rs n + i]? = some b := by
        unfold occAt at h4
        rw [List.isPrefixOf_iff_prefix] at h4
        obtain ⟨u, hu⟩ := h4
        rw [ht2, encs_cons, e] at hu
        have : (s.data.toList.drop (offOf rs n + i))[0]? = some b := by rw [← hu]; rfl
        rwa [List.getElem?_drop, Nat.add_zero] at this
      rw [hs2] at hhd
      obtain ⟨m, hm, hme⟩ := off_of_head rs _ b hs3 hhd hb
      exact ⟨m, by omega, hme⟩
theorem len_prefix {s : ByteArray} {rs : List Nat} (hs : textOf s = some rs) {m q : Nat} (hm : m ≤ rs.length) (hq : q = offOf rs m) :
    lenOf (textOf (s.extract 0 q)) = (heads (s.data.toList.take q) : Int) := by
  obtain ⟨hs1, hs2, hs3⟩ := text_iff.1 hs
  have hsz : (encs rs).length = s.size := by rw [← hs2, ← size_eq]
  have hqs : q ≤ s.size := by rw [hq, ← hsz]; exact offOf_le rs m
  have hsc : ∀ r ∈ rs.take m, Scalar r := fun r h => hs3 r (List.mem_of_mem_take h)
  have h1 : textOf (s.extract 0 q) = some (rs.take m) := by
    rw [text_iff, take_extract, hs2, hq, encs_take]
    refine ⟨?_, rfl, hsc⟩
    rw [size_eq, take_extract, List.length_take]
    rw [size_eq] at hs1
    omega
  have h2 : s.data.toList.take q = encs (rs.take m) := by rw [hs2, hq, encs_take]
  rw [h1, h2, heads_encs _ hsc]; rfl
end Go.Proofs.YtiihfaohdgkhaaaDoor
