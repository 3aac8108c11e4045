import Derived.Test.YtfcoffllelgakaaDoorNrQ
import Derived.Test.YtfcoffllelgakaaDoorSum
import Derived.Test.YtfcoffllelgakaaDoorCmpR
import Derived.Deep.RegionHeld3
import Derived.Test.YtfcoffllelgakaaDoorMul
import Derived.Test.YtfcoffllelgakaaDoorNrF
namespace Go.Proofs.YtfcoffllelgakaaDoor
open Go.RowKit
set_option linter.unusedVariables false
set_option linter.unusedSimpArgs false

theorem flip_xor (x : Nat) (h : x < 18446744073709551616) : bits .xor .u64 (x : Int) 9223372036854775808 = ((flipN x : Nat) : Int) := by
  rw [u64_xor _ _ (by omega) (by omega) (by decide) (by decide), Int.toNat_natCast, show ((9223372036854775808 : Int).toNat : Nat) = 2 ^ 63 from by decide]
  have e : x ^^^ 2 ^ 63 = flipN x := by
    apply Nat.eq_of_testBit_eq
    intro i
    rw [Nat.testBit_xor, Nat.testBit_two_pow]
    have h63 : x.testBit 63 = fneg x := by
      unfold fneg
      rw [Nat.testBit_eq_decide_div_mod_eq]
      show decide (x / 9223372036854775808 % 2 = 1) = _
      by_cases h : x / 9223372036854775808 % 2 = 1 <;> simp [h]
    have hx : x = 2 ^ 63 * (fneg x).toNat + frung x := by
      have := word_parts x h
      have e : Ieee.double.word (fneg x) (frung x) = if fneg x then 9223372036854775808 + frung x else frung x := rfl
      rw [e] at this
      rw [show (2 : Nat) ^ 63 = 9223372036854775808 from by decide]
      cases hf : fneg x <;> simp [hf] at this ⊢ <;> omega
    have hr : frung x < 2 ^ 63 := Nat.mod_lt _ (by decide)
    have hf : flipN x = 2 ^ 63 * (!(fneg x)).toNat + frung x := by
      unfold flipN
      rw [show (2 : Nat) ^ 63 = 9223372036854775808 from by decide] at hx ⊢
      cases hf : fneg x <;> simp [hf] at hx ⊢ <;> omega
    rw [hf]
    generalize fneg x = s at *
    generalize frung x = r at *
    rw [hx]
    rw [Nat.testBit_two_pow_mul_add _ hr, Nat.testBit_two_pow_mul_add _ hr]
    by_cases hi : i < 63
    · rw [if_pos hi, if_pos hi, decide_eq_false (by omega)]; simp
    · rw [if_neg hi, if_neg hi]
      by_cases hi2 : i = 63
      · subst hi2; cases s <;> rfl
      · obtain ⟨k, rfl⟩ : ∃ k, i = 64 + k := ⟨i - 64, by omega⟩
        rw [decide_eq_false (by omega), show 64 + k - 63 = k + 1 by omega]
        cases s <;> simp [Nat.testBit_succ]
  rw [e]
/-- What FloatOp answers. -/
def foV (op : Int) (a b : Nat) : Nat :=
  if op < 1 ∨ 6 < op then 0 else if op = 1 then sumV a b else if op = 2 then (if isN b = true then 9221120237041090560 else sumV a (flipN b)) else if op = 3 then timesV a b else if frung b = 0 then 0 else if op = 4 then overV a b else if op = 5 then flV (overV a b) else if isN (timesV b (flV (overV a b))) = true then 9221120237041090560 else sumV a (flipN (timesV b (flV (overV a b))))
def foC (op : Int) (b : Nat) : Int := if op < 1 ∨ 6 < op then 1 else if op ≤ 3 then 0 else if frung b = 0 then 2 else 0
end Go.Proofs.YtfcoffllelgakaaDoor
