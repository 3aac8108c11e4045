import Derived.Test.YtgbkniliojpejaaDoorMul
namespace Go.Proofs.YtgbkniliojpejaaDoor
open Go.RowKit
set_option linter.unusedVariables false
set_option linter.unusedSimpArgs false

theorem val_zeros_append (k : Nat) (ys : List Int) : val (List.replicate k 0 ++ ys) = 4294967296 ^ k * val ys := by
  rw [val_append, val_zero_of (by intro j; simp [List.getD, List.getElem?_replicate]; split <;> rfl)]; simp
theorem shl_val (m n : Nat) : 4294967296 ^ (n / 32) * (m * 2 ^ (n % 32)) = m * 2 ^ n := by
  have : (2 : Nat) ^ n = 2 ^ (32 * (n / 32)) * 2 ^ (n % 32) := by rw [← Nat.pow_add]; congr 1; omega
  rw [this, Nat.pow_mul, show (2 : Nat) ^ 32 = 4294967296 from by decide]
  rw [← Nat.mul_assoc, ← Nat.mul_assoc, Nat.mul_comm m]
theorem pow_mod32 (n : Nat) : 1 ≤ 2 ^ (n % 32) ∧ 2 ^ (n % 32) < 4294967296 := by
  have : (2 : Nat) ^ (n % 32) ≤ 2 ^ 31 := Nat.pow_le_pow_right (by decide) (by omega)
  have h2 : (2 : Nat) ^ 31 = 2147483648 := by decide
  have h3 := Nat.two_pow_pos (n % 32)
  omega

theorem pow_wrap (n : Nat) : ((2 : Int) ^ (n % 32) % 4294967296) = ((2 ^ (n % 32) : Nat) : Int) := by
  have h := pow_mod32 n
  have e : ((2 ^ (n % 32) : Nat) : Int) = (2 : Int) ^ (n % 32) := Int.natCast_pow 2 _
  rw [← e]
  generalize (2 : Nat) ^ (n % 32) = p at h
  omega

end Go.Proofs.YtgbkniliojpejaaDoor
