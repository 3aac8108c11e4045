import Derived.Test.YtiihfaohdgkhaaaDoorBaseS
import Derived.Test.YtiihfaohdgkhaaaDoorBzU
namespace Go.Proofs.YtiihfaohdgkhaaaDoor
open Go.RowKit
set_option linter.unusedVariables false
set_option linter.unusedSimpArgs false

/-- The bytes of the texts together. -/
def tot (zs : List ByteArray) : Nat := (zs.map ByteArray.size).sum
theorem tot_take_succ (zs : List ByteArray) (k : Nat) (h : k < zs.length) : tot (zs.take (k + 1)) = tot (zs.take k) + (zs.getD k Str.Z).size := by
  unfold tot
  rw [List.take_add_one, List.getElem?_eq_getElem h, List.map_append, List.sum_append]
  simp only [Option.toList, List.map_cons, List.map_nil, List.sum_cons, List.sum_nil, Nat.add_zero]
  simp [List.getD, h]
theorem tot_take_le (zs : List ByteArray) (k : Nat) : tot (zs.take k) ≤ tot zs := by
  have : tot zs = tot (zs.take k) + tot (zs.drop k) := by
    conv => lhs; rw [← List.take_append_drop k zs]
    simp only [tot, List.map_append, List.sum_append]
  omega
theorem Str.Own.made {w' : World} {B n : Nat} {v : Value} (hl : n ≤ 16777216) (h : w'.ownsRow B 9 1 v n (madeCells (Value.cells (.string Str.Z)) (n * 1)).toList) : Str.Own w' B v (List.replicate n Str.Z) := by
  refine ⟨?_, by simpa using hl⟩
  have e : (madeCells (Value.cells (.string Str.Z)) (n * 1)).toList = (List.replicate n Str.Z).map Value.string := by
    have : Value.cells (.string Str.Z) = #[.string Str.Z] := rfl
    rw [this, toList_madeCells_one]; simp
  rw [e] at h; simpa using h
theorem set_take_replT (zs : List ByteArray) (k : Nat) (hk : k < zs.length) : (zs.take k ++ List.replicate (zs.length - k) Str.Z).set k (zs.getD k Str.Z) = zs.take (k + 1) ++ List.replicate (zs.length - (k + 1)) Str.Z := by
  have e : List.replicate (zs.length - k) Str.Z = Str.Z :: List.replicate (zs.length - (k + 1)) Str.Z := by
    rw [show zs.length - k = (zs.length - (k + 1)) + 1 by omega, List.replicate_succ]
  have hl : (zs.take k).length = k := by simp; omega
  rw [e, List.set_append_right _ _ (by omega), hl, Nat.sub_self, List.set_cons_zero]
  rw [List.take_add_one, List.getElem?_eq_getElem hk, List.append_assoc]
  simp [List.getD, hk]
end Go.Proofs.YtiihfaohdgkhaaaDoor
