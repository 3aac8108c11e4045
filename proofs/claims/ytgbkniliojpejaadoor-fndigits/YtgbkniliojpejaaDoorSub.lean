import Derived.Test.YtgbkniliojpejaaDoorAdd
namespace Go.Proofs.YtgbkniliojpejaaDoor
open Go.RowKit
set_option linter.unusedVariables false
set_option linter.unusedSimpArgs false

/-- One step of a difference, limb by limb. -/
theorem sub_step {V A B P b x y d e : Nat} (h : V + B = A + P * b) (hd : d + y + b = x + 4294967296 * e) : V + P * d + (B + P * y) = A + P * x + 4294967296 * P * e := by
  have h1 : P * (d + y + b) = P * (x + 4294967296 * e) := by rw [hd]
  have h2 : P * (x + 4294967296 * e) = P * x + 4294967296 * P * e := by rw [Nat.mul_add, ← Nat.mul_assoc, Nat.mul_comm P 4294967296]
  have h3 : P * (d + y + b) = P * d + P * y + P * b := by rw [Nat.mul_add, Nat.mul_add]
  omega

theorem sub_end {V X Y P b : Nat} (h : V + Y = X + P * b) (hV : V < P) (hYX : Y ≤ X) (hb : b ≤ 1) : V = X - Y := by
  have : b = 0 ∨ b = 1 := by omega
  rcases this with rfl | rfl
  · omega
  · omega

end Go.Proofs.YtgbkniliojpejaaDoor
