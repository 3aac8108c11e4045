import Derived.Test.YtgbkniliojpejaaDoorTrim
import Derived.Laws.MathBits
namespace Go.Proofs.YtgbkniliojpejaaDoor
open Go.RowKit
set_option linter.unusedVariables false
set_option linter.unusedSimpArgs false

theorem val_take_succ (zs : List Int) (k : Nat) : val (zs.take (k + 1)) = val (zs.take k) + 4294967296 ^ k * (zs.getD k 0).toNat := by
  by_cases hk : k < zs.length
  · rw [take_succ_getD zs k hk, val_append]
    have : (zs.take k).length = k := by simp; omega
    rw [this]; simp [val]
  · rw [List.take_of_length_le (by omega), List.take_of_length_le (by omega)]
    have : zs.getD k 0 = 0 := by simp [List.getD, List.getElem?_eq_none (by omega : zs.length ≤ k)]
    rw [this]; simp

/-- One step of a sum, limb by limb. -/
theorem add_step {V A B P c x y d e : Nat} (h : V + P * c = A + B) (hd : d + 4294967296 * e = c + x + y) : V + P * d + 4294967296 * P * e = A + P * x + (B + P * y) := by
  have h1 : P * (d + 4294967296 * e) = P * (c + x + y) := by rw [hd]
  have h2 : P * (d + 4294967296 * e) = P * d + 4294967296 * P * e := by rw [Nat.mul_add, ← Nat.mul_assoc, Nat.mul_comm P 4294967296]
  have h3 : P * (c + x + y) = P * c + P * x + P * y := by rw [Nat.mul_add, Nat.mul_add]
  omega

theorem low32' {u : Int} (h0 : 0 ≤ u) (h1 : u ≤ 18446744073709551615) : bits .and .u64 u 4294967295 = u % 4294967296 := and_low32 u h0 (by omega)

end Go.Proofs.YtgbkniliojpejaaDoor
