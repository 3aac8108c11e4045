import Derived.Test.YtfcoffllelgakaaDoorMul
namespace Go.Proofs.YtfcoffllelgakaaDoor
open Go.RowKit
set_option linter.unusedVariables false
set_option linter.unusedSimpArgs false

theorem val_zeros_append (k : Nat) (ys : List Int) : val (List.replicate k 0 ++ ys) = 4294967296 ^ k * val ys := by
  rw [val_append, val_zero_of (by intro j; simp [List.getD, List.getElem?_replicate]; split <;> rfl)]; simp
theorem shl_val (m n : Nat) : 4294967296 ^ (n / 32) * (m * 2 ^ (n % 32)) = m * 2 ^ n := by
  have : (2 : Nat) ^ n = 2 ^ (32 * (n / 32)) * 2 ^ (n % 32) := by rw [← Nat.pow_add]; congr 1; omega
  rw [this, Nat.pow_mul, show (2 : Nat) ^ 32 = 4294967296 from by decide]
  rw [← Nat.mul_assoc, ← Nat.mul_assoc, Nat.mul_comm m]
end Go.Proofs.YtfcoffllelgakaaDoor
