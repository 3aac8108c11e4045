import Derived.Test.YtgbkniliojpejaaDoorOk
import Derived.Test.YtgbkniliojpejaaDoorNum
import Derived.Laws.MathBits
import Derived.Lib.Strings
import Derived.Lib.Small
import Derived.Lib.Walk
import Derived.Lib.BitFns
namespace Go.Proofs.YtgbkniliojpejaaDoor
open Go.RowKit
set_option linter.unusedVariables false
set_option linter.unusedSimpArgs false

theorem ret_int {k : IntKind} {a b : Int} (h : a = b) : Ending.returned (.int k a) = .returned (.int k b) := by rw [h]

theorem tab_size : Lib.len8tab.size = 256 := by decide +kernel
theorem tab_all : ∀ n : Fin 256, (Lib.len8tab[n.val]'(by rw [tab_size]; exact n.isLt)).toNat = Lib.bitLen n.val := by decide +kernel
theorem tab_at (b : Nat) (h : b < Lib.len8tab.size) : (Lib.len8tab[b]'h).toNat = Lib.bitLen b := tab_all ⟨b, by rw [tab_size] at h; exact h⟩
theorem bitLen_256 (b : Nat) (h : b < 256) : Lib.bitLen b ≤ 8 := Lib.bitLen_le8 ⟨b, h⟩

theorem fin24 (x : Int) (h0 : 0 ≤ x) (h1 : x ≤ 4294967295) (h2 : 65536 ≤ x) (h3 : 256 ≤ x / 65536) : wrap64 (24 + wrap64 (Lib.bitLen (x / 65536 / 256).toNat : Int)) = (Lib.bitLen x.toNat : Int) := by
  have e : (x / 65536 / 256).toNat = x.toNat / 16777216 := by omega
  have l := bitLen_256 (x.toNat / 16777216) (by omega)
  have s := Lib.bitLen_shift24 x.toNat (by omega) (by omega)
  rw [e, s]
  generalize Lib.bitLen (x.toNat / 16777216) = q at l
  simp only [wrap64]; omega
theorem fin16 (x : Int) (h0 : 0 ≤ x) (h1 : x ≤ 4294967295) (h2 : 65536 ≤ x) (h3 : x / 65536 < 256) : wrap64 (16 + wrap64 (Lib.bitLen (x / 65536).toNat : Int)) = (Lib.bitLen x.toNat : Int) := by
  have e : (x / 65536).toNat = x.toNat / 65536 := by omega
  have l := bitLen_256 (x.toNat / 65536) (by omega)
  have s := Lib.bitLen_shift16 x.toNat (by omega) (by omega)
  rw [e, s]
  generalize Lib.bitLen (x.toNat / 65536) = q at l
  simp only [wrap64]; omega
theorem fin8 (x : Int) (h0 : 0 ≤ x) (h1 : x ≤ 4294967295) (h2 : x < 65536) (h3 : 256 ≤ x) : wrap64 (8 + wrap64 (Lib.bitLen (x / 256).toNat : Int)) = (Lib.bitLen x.toNat : Int) := by
  have e : (x / 256).toNat = x.toNat / 256 := by omega
  have l := bitLen_256 (x.toNat / 256) (by omega)
  have s := Lib.bitLen_shift8 x.toNat (by omega) (by omega)
  rw [e, s]
  generalize Lib.bitLen (x.toNat / 256) = q at l
  simp only [wrap64]; omega
theorem fin0 (x : Int) (h0 : 0 ≤ x) (h3 : x < 256) : wrap64 (wrap64 (Lib.bitLen x.toNat : Int)) = (Lib.bitLen x.toNat : Int) := by
  have l := bitLen_256 x.toNat (by omega)
  generalize Lib.bitLen x.toNat = q at l
  simp only [wrap64]; omega

theorem bitLen_half {n : Nat} (h : 0 < n) (h1 : n < 18446744073709551616) : Lib.bitLen n = 1 + Lib.bitLen (n / 2) := by
  by_cases e : n = 1
  · subst e; decide +kernel
  · have := Lib.bitLen_shift 1 n (by rw [Nat.pow_one]; omega) (Nat.lt_of_lt_of_le h1 (by decide))
    rwa [Nat.pow_one] at this
theorem bitLen_zero : Lib.bitLen 0 = 0 := by decide +kernel
theorem bitLen_32 (n : Nat) (h : n < 4294967296) : Lib.bitLen n ≤ 32 := by
  by_cases h1 : n < 256
  · have := bitLen_256 n h1; omega
  · by_cases h2 : n < 65536
    · rw [Lib.bitLen_shift8 n (by omega) (by omega)]; have := bitLen_256 (n / 256) (by omega); omega
    · by_cases h3 : n < 16777216
      · rw [Lib.bitLen_shift16 n (by omega) (by omega)]; have := bitLen_256 (n / 65536) (by omega); omega
      · rw [Lib.bitLen_shift24 n (by omega) (by omega)]; have := bitLen_256 (n / 16777216) (by omega); omega

/-- How many binary digits limbs have. -/
def bitsN (zs : List Int) : Int := if zs.length = 0 then 0 else 32 * ((zs.length : Int) - 1) + (Lib.bitLen (zs.getD (zs.length - 1) 0).toNat : Int)

end Go.Proofs.YtgbkniliojpejaaDoor
