import Derived.Test.YtfcoffllelgakaaDoorBits
namespace Go.Proofs.YtfcoffllelgakaaDoor
open Go.RowKit
set_option linter.unusedVariables false
set_option linter.unusedSimpArgs false

theorem bl_shift (k x : Nat) (h : 2 ^ k ≤ x) (hx : x < 2 ^ 64) : Lib.bitLen x = k + Lib.bitLen (x / 2 ^ k) := Lib.bitLen_shift k x h hx

theorem len64_fin (n k m : Nat) (hn : n < 2 ^ 64) (hm : m = n / 2 ^ k) (h1 : m < 256) (hpos : 1 ≤ m) (hk : k ≤ 56) :
    wrap64 ((k : Int) + wrap64 (Lib.bitLen m : Int)) = (Lib.bitLen n : Int) := by
  have l := bitLen_256 m h1
  have hle : 2 ^ k ≤ n := by
    rcases Nat.lt_or_ge n (2 ^ k) with h | h
    · rw [Nat.div_eq_of_lt h] at hm; omega
    · exact h
  rw [bl_shift k n hle hn, ← hm]
  generalize Lib.bitLen m = q at l
  simp only [wrap64]; omega

/-- A number has its binary digits. -/
theorem bitLen_low (n : Nat) (h0 : 0 < n) (h1 : n < 18446744073709551616) : 2 ^ Lib.bitLen n ≤ 2 * n := by
  induction n using Nat.strongRecOn with
  | _ n ih =>
    rw [bitLen_half h0 h1]
    by_cases h2 : n / 2 = 0
    · rw [h2, bitLen_zero]; omega
    · have := ih (n / 2) (by omega) (by omega) (by omega)
      rw [Nat.pow_add, Nat.pow_one]; omega
theorem bitLen_high (n : Nat) (h1 : n < 18446744073709551616) : n < 2 ^ Lib.bitLen n := by
  induction n using Nat.strongRecOn with
  | _ n ih =>
    by_cases h0 : n = 0
    · subst h0; rw [bitLen_zero]; decide
    · rw [bitLen_half (by omega) h1]
      have := ih (n / 2) (by omega) (by omega)
      rw [Nat.pow_add, Nat.pow_one]; omega
end Go.Proofs.YtfcoffllelgakaaDoor
