import Derived.Test.YtfpadeamhoeonaaDoorMUp
import Derived.Test.YtfpadeamhoeonaaDoorMinus
namespace Go.Proofs.YtfpadeamhoeonaaDoor
open Go.RowKit
set_option linter.unusedVariables false
set_option linter.unusedSimpArgs false

theorem val_drop (xs : List Int) (k : Nat) : val xs = val (xs.take k) + 4294967296 ^ (xs.take k).length * val (xs.drop k) := by
  have := val_append (xs.take k) (xs.drop k)
  rwa [List.take_append_drop] at this
theorem drop_div {xs : List Int} (h : Limbs xs) (k : Nat) (hk : k ≤ xs.length) : val xs / 4294967296 ^ k = val (xs.drop k) := by
  have hd := val_drop xs k
  have hl : (xs.take k).length = k := by simp; omega
  have hlt := val_lt (h.take k)
  rw [hl] at hd hlt
  rw [hd, Nat.add_mul_div_left _ _ (Nat.pow_pos (by decide)), Nat.div_eq_of_lt hlt, Nat.zero_add]
theorem drop_cons_val (xs : List Int) (k : Nat) : val (xs.drop k) = (xs.getD k 0).toNat + 4294967296 * val (xs.drop (k + 1)) := by
  by_cases h : k < xs.length
  · rw [List.drop_eq_getElem_cons h]
    simp [val, List.getD, h]
  · rw [List.drop_eq_nil_of_le (by omega), List.drop_eq_nil_of_le (by omega)]
    have : xs[k]? = none := List.getElem?_eq_none (by omega)
    simp [val, List.getD, this]

theorem down_div (T2 a b s : Nat) (hs : s < 32) : (a + 4294967296 * (b + 4294967296 * T2)) / 2 ^ s % 4294967296 = (a + 4294967296 * b) / 2 ^ s % 4294967296 := by
  have e : a + 4294967296 * (b + 4294967296 * T2) = (a + 4294967296 * b) + 2 ^ s * (4294967296 * 2 ^ (32 - s) * T2) := by
    have h1 : (2 : Nat) ^ s * 2 ^ (32 - s) = 4294967296 := by rw [← Nat.pow_add, show s + (32 - s) = 32 from by omega]
    have h2 : 2 ^ s * (4294967296 * 2 ^ (32 - s) * T2) = 4294967296 * (4294967296 * T2) := by
      rw [← h1]; simp only [Nat.mul_assoc, Nat.mul_left_comm]
    rw [h2, Nat.mul_add]; omega
  rw [e, Nat.add_mul_div_left _ _ (Nat.two_pow_pos s), Nat.mul_assoc, Nat.add_mul_mod_self_left]

theorem or_wide (x y : Nat) (hx : x < 4294967296) (hy : y < 4294967296) : bits .or .u64 ((y : Int) * 4294967296) (x : Int) = ((x + 4294967296 * y : Nat) : Int) := by
  have e : (y : Int) * 4294967296 = ((2 ^ 32 * y : Nat) : Int) := by omega
  rw [e, u64_or_nat _ _ (by omega) (by omega), ← Nat.two_pow_add_eq_or_of_lt (by omega)]
  omega
/-- A limb of a number moved down. -/
theorem down_digit {xs : List Int} (h : Limbs xs) (q k s : Nat) (hq : q + k < xs.length) (hs : s < 32) :
    val (xs.drop q) / 2 ^ s / 4294967296 ^ k % 4294967296 = ((xs.getD (q + k) 0).toNat + 4294967296 * (xs.getD (q + k + 1) 0).toNat) / 2 ^ s % 4294967296 := by
  rw [Nat.div_div_eq_div_mul, Nat.mul_comm, ← Nat.div_div_eq_div_mul, drop_div (h.drop q) k (by simp; omega), List.drop_drop, drop_cons_val, drop_cons_val, down_div _ _ _ _ hs]

theorem down_end {xs : List Int} (h : Limbs xs) (q s n : Nat) (hq : q ≤ xs.length) (hn : n = 32 * q + s) : val (xs.drop q) / 2 ^ s = val xs / 2 ^ n := by
  rw [← drop_div h q hq, Nat.div_div_eq_div_mul, hn, Nat.pow_add, Nat.pow_mul, show (2 : Nat) ^ 32 = 4294967296 from by decide]
theorem down_small {xs : List Int} (h : Limbs xs) (n : Nat) (hq : xs.length ≤ n / 32) : val xs / 2 ^ n = 0 := by
  apply Nat.div_eq_of_lt
  refine Nat.lt_of_lt_of_le (val_lt h) ?_
  rw [show (4294967296 : Nat) = 2 ^ 32 from by decide, ← Nat.pow_mul]
  exact Nat.pow_le_pow_right (by decide) (by omega)

end Go.Proofs.YtfpadeamhoeonaaDoor
