import Derived.Test.YtfoofbcfcekleaaGreatDoorRuneP
import Derived.Laws.BitsAllLaws
namespace Go.Proofs.YtfoofbcfcekleaaGreatDoor
open Go.RowKit Go.Lib
set_option linter.unusedVariables false
set_option linter.unusedSimpArgs false

theorem get_at (s : ByteArray) (i : Nat) (h : i < s.size) : s[i]'h = s.get! i := by
  have : s.get! i = s.data[i]! := rfl
  rw [this, getElem!_pos s.data i h]; rfl
theorem ofInt_i64 (a : Nat) (ha : a < 9223372036854775808) : (BitVec.ofInt 64 (a : Int)).toNat = a := by
  rw [BitVec.ofInt_natCast, BitVec.toNat_ofNat]; exact Nat.mod_eq_of_lt (by omega)
theorem i64_and_nat (a b : Nat) (ha : a < 9223372036854775808) (hb : b < 9223372036854775808) : bits .and .i64 (a : Int) (b : Int) = ((a &&& b : Nat) : Int) := by
  have hx : a &&& b < 2 ^ 63 := Nat.and_lt_two_pow _ (by omega)
  show IntKind.i64.wrap ((BitVec.ofInt 64 (a : Int) &&& BitVec.ofInt 64 (b : Int)).toNat : Int) = _
  rw [BitVec.toNat_and, ofInt_i64 a ha, ofInt_i64 b hb]
  simp [IntKind.wrap, IntKind.bits, IntKind.signed]; omega
theorem i64_or_nat (a b : Nat) (ha : a < 9223372036854775808) (hb : b < 9223372036854775808) : bits .or .i64 (a : Int) (b : Int) = ((a ||| b : Nat) : Int) := by
  have hx : a ||| b < 2 ^ 63 := Nat.or_lt_two_pow (by omega) (by omega)
  show IntKind.i64.wrap ((BitVec.ofInt 64 (a : Int) ||| BitVec.ofInt 64 (b : Int)).toNat : Int) = _
  rw [BitVec.toNat_or, ofInt_i64 a ha, ofInt_i64 b hb]
  simp [IntKind.wrap, IntKind.bits, IntKind.signed]; omega
theorem i64_low (a b k : Nat) (hb : b = 2 ^ k - 1) (ha : a < 9223372036854775808) (hk : b < 9223372036854775808) : bits .and .i64 (a : Int) (b : Int) = ((a % 2 ^ k : Nat) : Int) := by
  rw [i64_and_nat a b ha hk, hb, Nat.and_two_pow_sub_one_eq_mod]
theorem and7 (a : Nat) (ha : a < 9223372036854775808) : bits .and .i64 (a : Int) 7 = ((a % 8 : Nat) : Int) := i64_low a 7 3 rfl ha (by decide)
theorem and15 (a : Nat) (ha : a < 9223372036854775808) : bits .and .i64 (a : Int) 15 = ((a % 16 : Nat) : Int) := i64_low a 15 4 rfl ha (by decide)
theorem and31 (a : Nat) (ha : a < 9223372036854775808) : bits .and .i64 (a : Int) 31 = ((a % 32 : Nat) : Int) := i64_low a 31 5 rfl ha (by decide)
theorem and63 (a : Nat) (ha : a < 9223372036854775808) : bits .and .i64 (a : Int) 63 = ((a % 64 : Nat) : Int) := i64_low a 63 6 rfl ha (by decide)
theorem or64 (a b : Nat) (ha : a < 1000000000) (hb : b < 64) : bits .or .i64 ((a : Int) * 64) (b : Int) = ((a * 64 + b : Nat) : Int) := by
  have h := i64_or_nat (a * 64) b (by omega) (by omega)
  rw [show (((a * 64 : Nat)) : Int) = (a : Int) * 64 from by omega] at h
  rw [h]
  have h2 := Nat.two_pow_add_eq_or_of_lt (i := 6) (b := b) (by omega) a
  congr 1
  rw [Nat.mul_comm a 64]; exact h2.symm
end Go.Proofs.YtfoofbcfcekleaaGreatDoor
