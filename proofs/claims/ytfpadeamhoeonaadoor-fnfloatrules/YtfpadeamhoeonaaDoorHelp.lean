import Derived.Test.YtfpadeamhoeonaaDoorBase
namespace Go.Proofs.YtfpadeamhoeonaaDoor
open Go.RowKit
set_option linter.unusedVariables false
set_option linter.unusedSimpArgs false

/-- k0, k0 + 1, .. : n numbers. -/
def marks (k0 : Int) (n : Nat) : List Int := (List.range n).map fun (i : Nat) => k0 + (i : Int)
theorem marks_length (k0 : Int) (n : Nat) : (marks k0 n).length = n := by simp [marks]
theorem marks_getD (k0 : Int) (n k : Nat) (h : k < n) : (marks k0 n).getD k 0 = k0 + k := by simp [marks, List.getD, h]
theorem marks_set (k0 : Int) (zs : List Int) (k : Nat) (h : k < zs.length) : (marks k0 k ++ zs.drop k).set k (k0 + k) = marks k0 (k + 1) ++ zs.drop (k + 1) := by
  have e : zs.drop k = zs[k] :: zs.drop (k + 1) := List.drop_eq_getElem_cons h
  rw [e, List.set_append_right _ _ (by simp [marks_length]), marks_length, Nat.sub_self, List.set_cons_zero]
  simp only [marks, List.range_succ, List.map_append, List.append_assoc, List.map_cons, List.map_nil, List.singleton_append]
theorem Limbs.marks {k0 : Int} {n : Nat} (h0 : 0 ≤ k0) (h1 : k0 + n ≤ 4294967296) : Limbs (marks k0 n) := fun z hz => by
  simp [Go.Proofs.YtfpadeamhoeonaaDoor.marks] at hz
  obtain ⟨i, hi, rfl⟩ := hz
  omega

end Go.Proofs.YtfpadeamhoeonaaDoor
