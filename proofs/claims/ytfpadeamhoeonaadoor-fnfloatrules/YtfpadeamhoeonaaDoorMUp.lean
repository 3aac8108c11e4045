import Derived.Test.YtfpadeamhoeonaaDoorPlus
import Derived.Test.YtfpadeamhoeonaaDoorShl
import Derived.Laws.BitsAllLaws
namespace Go.Proofs.YtfpadeamhoeonaaDoor
open Go.RowKit
set_option linter.unusedVariables false
set_option linter.unusedSimpArgs false

theorem up_step {V P c A t D E X : Nat} (h : V + P * c = A * t) (hd : D + 4294967296 * E = c + X * t) : V + P * D + 4294967296 * P * E = (A + P * X) * t := by
  have h1 : P * D + P * (4294967296 * E) = P * c + P * (X * t) := by rw [← Nat.mul_add, ← Nat.mul_add, hd]
  have h2 : 4294967296 * P * E = P * (4294967296 * E) := by rw [Nat.mul_comm 4294967296 P, Nat.mul_assoc]
  have h3 : (A + P * X) * t = A * t + P * (X * t) := by rw [Nat.add_mul, Nat.mul_assoc P X t]
  rw [h2, h3, ← h]; omega

/-- What was carried in has place below what comes. -/
theorem or_up (c x s : Nat) (hs : s < 32) (hc : c < 2 ^ s) (hx : x < 4294967296) : bits .or .u32 (c : Int) (((x * 2 ^ s % 4294967296 : Nat) : Int)) = ((c + x * 2 ^ s % 4294967296 : Nat) : Int) ∧ c + x * 2 ^ s % 4294967296 < 4294967296 ∧ x * 2 ^ s / 4294967296 < 2 ^ s ∧ x * 2 ^ s < 9223372036854775808 := by
  have h2 : (2 : Nat) ^ s ≤ 2 ^ 31 := Nat.pow_le_pow_right (by decide) (by omega)
  have h31 : (2 : Nat) ^ 31 = 2147483648 := by decide
  have hm : x * 2 ^ s % 4294967296 = 2 ^ s * (x % 2 ^ (32 - s)) := by
    have e : (4294967296 : Nat) = 2 ^ s * 2 ^ (32 - s) := by rw [← Nat.pow_add, show s + (32 - s) = 32 from by omega]
    rw [e, Nat.mul_comm x, Nat.mul_mod_mul_left]
  have hor := Nat.two_pow_add_eq_or_of_lt (i := s) (b := c) hc (x % 2 ^ (32 - s))
  have hlt : x * 2 ^ s % 4294967296 < 4294967296 := Nat.mod_lt _ (by decide)
  have hb : x * 2 ^ s % 4294967296 ||| c < 2 ^ 32 := Nat.or_lt_two_pow (by omega) (by omega)
  have hx2 : x * 2 ^ s < 4294967296 * 2 ^ s := Nat.mul_lt_mul_of_pos_right hx (Nat.two_pow_pos s)
  refine ⟨?_, ?_, ?_, ?_⟩
  · rw [u32_or_nat _ _ (by omega) (by omega), Nat.or_comm, hm, ← hor, Nat.add_comm]
  · rw [hm, ← hor, ← hm] at hb; omega
  · exact Nat.div_lt_of_lt_mul hx2
  · omega

theorem up_wraps (c x s : Nat) (h : bits .or .u32 (c : Int) (((x * 2 ^ s % 4294967296 : Nat) : Int)) = ((c + x * 2 ^ s % 4294967296 : Nat) : Int)) (h4 : x * 2 ^ s < 9223372036854775808) :
    bits .or .u32 (c : Int) (IntKind.u64.wrap ((x : Int) * 2 ^ s) % 4294967296) = ((c + x * 2 ^ s % 4294967296 : Nat) : Int) ∧ IntKind.u64.wrap ((x : Int) * 2 ^ s) / 4294967296 % 4294967296 = ((x * 2 ^ s / 4294967296 : Nat) : Int) := by
  have e : (x : Int) * 2 ^ s = ((x * 2 ^ s : Nat) : Int) := by rw [Int.natCast_mul, Int.natCast_pow]; rfl
  have e2 : IntKind.u64.wrap ((x : Int) * 2 ^ s) = ((x * 2 ^ s : Nat) : Int) := by
    rw [e, IntKind.wrap_u64]; omega
  rw [e2]
  generalize x * 2 ^ s = y at h h4
  refine ⟨?_, by omega⟩
  rw [← h, show (((y % 4294967296 : Nat)) : Int) = (y : Int) % 4294967296 from by omega]

end Go.Proofs.YtfpadeamhoeonaaDoor
