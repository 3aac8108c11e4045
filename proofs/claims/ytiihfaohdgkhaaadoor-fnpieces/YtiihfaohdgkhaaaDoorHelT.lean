import Derived.Test.YtiihfaohdgkhaaaDoorHelpS
import Derived.Deep.RegionHeld3
namespace Go.Proofs.YtiihfaohdgkhaaaDoor
open Go.RowKit
set_option linter.unusedVariables false
set_option linter.unusedSimpArgs false

/-- The marks' texts k0, k0 + 1, .. : n of them. -/
def mtl (k0 n : Nat) : List ByteArray := (List.range n).map fun i => mtB (k0 + i)
theorem mtl_length (k0 n : Nat) : (mtl k0 n).length = n := by simp [mtl]
theorem mtl_getD (k0 n k : Nat) (h : k < n) : (mtl k0 n).getD k Str.Z = mtB (k0 + k) := by simp [mtl, List.getD, h]
theorem mtl_set (k0 : Nat) (zs : List ByteArray) (k : Nat) (h : k < zs.length) : (mtl k0 k ++ zs.drop k).set k (mtB (k0 + k)) = mtl k0 (k + 1) ++ zs.drop (k + 1) := by
  have e : zs.drop k = zs[k] :: zs.drop (k + 1) := List.drop_eq_getElem_cons h
  rw [e, List.set_append_right _ _ (by simp [mtl_length]), mtl_length, Nat.sub_self, List.set_cons_zero]
  simp only [mtl, List.range_succ, List.map_append, List.append_assoc, List.map_cons, List.map_nil, List.singleton_append]

end Go.Proofs.YtiihfaohdgkhaaaDoor
